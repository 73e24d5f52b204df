/-
  What the document's own answer for the least type that two fit (Join) comes to, where both are of classes; and at any two types.
-/
import Derived.Test.YtkfhpbedllcecaaRefKind2
namespace Go.Proofs.Ytkfhpbedllcecaa
open Go.ChangeShapes Go.WideShapes Go.ChangeAt Go.RowKit
set_option linter.unusedVariables false

set_option maxHeartbeats 800000 in
theorem rjoin_33 (sup : List Int) (n n' : Int) (A : Option Addr) (cap B : Nat) (w : World) (hl : sup.length ≤ 1048576) (hB : B ≤ w.heap.size) (h : Supers w B A sup)
    (h1 : subB sup 3 n 3 n' = false) (h2 : subB sup 3 n' 3 n = false) :
    Calls Try.prog 17 #[.slice A sup.length cap, tyV 3 n, tyV 3 n'] w fun e w' => e = .returned (tyV (firstIn ((aboveI sup n).drop 1) (aboveI sup n')).1 (firstIn ((aboveI sup n).drop 1) (aboveI sup n')).2) ∧ Below w.heap.size w w' := by
  have hW : Below w.heap.size w (((w.alloc (.cells #[.int .i64 3, .int .i64 n] 24)).alloc (.cells #[.int .i64 3, .int .i64 n'] 24)).alloc (.cells #[.int .i64 0, .int .i64 0] 24)) :=
    (((Below.refl w.heap.size w).alloc (Nat.le_refl _) _).alloc (by simp) _).alloc (by simp; omega) _
  have HS := Lib.hid (h.below_to hW hB)
  have HW := Lib.hid hW
  have HB := Lib.hid hB
  clear h hW hB
  have H1 := Lib.hid h1
  have H2 := Lib.hid h2
  clear h1 h2
  generalize hj : firstIn ((aboveI sup n).drop 1) (aboveI sup n') = j
  have J2 := Lib.hid hj.symm
  clear hj
  go_enter Try.func17, Try.ntmps17
  go_wp2_with (first | (go_at_call 15; (with_reducible refine (rsub_any sup _ _ _ _ A cap B _ hl (by have := HB.out; simp; omega) HS.out).mono ?_); rintro e w1 ⟨he, hb⟩; rw [H1.out] at he; subst he; obtain ⟨hc, hf⟩ := below_cells hb; obtain ⟨r0, r1, r2, r3⟩ := res_cells hb; obtain ⟨q0, q1, q2, q3⟩ := arg_cells hb; have HS1 := Lib.hid (HS.out.below_to hb (by have := HB.out; simp; omega)); have HZ := Lib.hid hb.size) | (go_at_call 15; (with_reducible refine (rsub_any sup _ _ _ _ A cap B _ hl (by have := HB.out; have := HZ.out; simp at this; omega) HS1.out).mono ?_); rintro e w2 ⟨he, hb2⟩; rw [H2.out] at he; subst he; have hbb := Lib.hid (hb.trans (hb2.mono hb.size)); clear hc hf r0 r1 r2 r3 q0 q1 q2 q3; obtain ⟨hc, hf⟩ := below_cells hbb.out; obtain ⟨r0, r1, r2, r3⟩ := res_cells hbb.out; obtain ⟨q0, q1, q2, q3⟩ := arg_cells hbb.out; have HS2 := Lib.hid (HS.out.below_to hbb.out (by have := HB.out; simp; omega)); have HZ2 := Lib.hid hbb.out.size))
  have y2 : w.heap.size + 1 + 1 < w2.heap.size := by have := HZ2.out; simp at this; omega
  have yB : B ≤ w2.heap.size := by have := HB.out; omega
  have X2 : Six w2 w.heap.size (.int .i64 3) (.int .i64 n) (.int .i64 3) (.int .i64 n') (.int .i64 0) (.int .i64 0) := ⟨q0, q1, q2, q3, r0, r1, r2, r3⟩
  have X2d : Six w2.drew w.heap.size (.int .i64 3) (.int .i64 n) (.int .i64 3) (.int .i64 n') (.int .i64 0) (.int .i64 0) := X2
  have yBd : B ≤ w2.drew.heap.size := yB
  have y2d : w.heap.size + 1 + 1 < w2.drew.heap.size := y2
  have HS2d : Hid (Supers w2.drew B A sup) := HS2
  have XB := Lib.hid X2d
  clear hc hf hb hb2 X2 X2d
  have hLA := Lib.hid (aboveI_len sup n)
  have hLB := Lib.hid (aboveI_len sup n')
  go_region_held3 (fun w' => w'.cell? ⟨w.heap.size, 0, none⟩ = some (.int .i64 3) ∧ w'.cell? ⟨w.heap.size, 1, none⟩ = some (.int .i64 n) ∧ w'.cell? ⟨w.heap.size + 1, 0, none⟩ = some (.int .i64 3) ∧ w'.cell? ⟨w.heap.size + 1, 1, none⟩ = some (.int .i64 n'))
    (first | go_keep | exact ⟨c0, c1, c2, c3⟩ | exact ⟨d0, d1, d2, d3⟩)
    (first
      | (go_at_call 20; (with_reducible refine (rabove_any sup n A cap B _ hl yBd HS2d.out).mono ?_); rintro e w3 ⟨v, rfl, ho3, hb3⟩; obtain ⟨A3, c3', rfl, hl3⟩ := own_slice ho3; have HL3 := Lib.hid hl3; clear hl3; have X3 := XB.out.keep hb3 y2d; obtain ⟨c0, c1, c2, c3, _⟩ := X3; have XC := Lib.hid (XB.out.keep hb3 y2d); have HS3 := Lib.hid (HS2d.out.below_to hb3 yBd); have y3 : w2.drew.heap.size ≤ w3.heap.size := hb3.size)
      | (go_at_call 20; (with_reducible refine (rabove_any sup n' A cap B _ hl (Nat.le_trans yBd y3) HS3.out).mono ?_); rintro e w4 ⟨v, rfl, ho4, hb4⟩; obtain ⟨A4, c4', rfl, hl4⟩ := own_slice ho4; have HL4 := Lib.hid hl4; clear hl4; have X4 := XC.out.keep hb4 (Nat.lt_of_lt_of_le y2d y3); obtain ⟨d0, d1, d2, d3, d4, d5, d6, d7⟩ := X4; have HL3' := Lib.hid (HL3.out.below hb4); have HB4 := Lib.hid (hb3.trans (hb4.mono y3))))
  go_wp2_with fail
  have HF := Lib.hid (hbb.out.drew.trans (HB4.out.mono HZ2.out))
  clear d0 d1 d2 d3 c0 c1 c2 c3
  generalize hX : aboveI sup n = X at *
  generalize hY : aboveI sup n' = Y at *
  clear hX hY
  go_loop [9] (fun i => ∃ k : Nat, 1 ≤ k ∧ (k : Int) ≤ 1048577 ∧ i = .int .i64 k ∧ firstIn (X.drop 1) Y = firstIn (X.drop k) Y) (fun i => X.length - (intOf i).toNat)
  case atStart => exact ⟨1, by omega, by omega, rfl, rfl⟩
  case round =>
    obtain ⟨k, hk, hk2, rfl, hn⟩ := hrel
    have HN := Lib.hid hn
    clear hn
    by_cases hlt : k < X.length
    · obtain ⟨ad, rfl, _, hcell⟩ := HL3'.out.at_ (k := k) (by simpa using hlt)
      have E1 := Lib.hid (List.drop_eq_getElem_cons hlt)
      simp only [List.getElem_map] at hcell
      generalize X[k] = x at *
      by_cases hin : inB Y x = true
      · have R := Lib.hid (show firstIn (X.drop 1) Y = (3, x) by rw [HN.out, E1.out]; simp only [firstIn]; rw [if_pos hin])
        have HI := Lib.hid hin
        clear HN E1 hin
        go_wp2_with (go_at_call 19; (with_reducible refine (rin_any Y x _ _ _ _ (by have := hLB.out; omega) HL4.out).mono ?_); rintro e w5 ⟨he, rfl⟩; rw [HI.out] at he; subst he)
        rw [J2.out, R.out]
        refine bodyPost_ret (v := tyV 3 x) ?_ rfl ⟨rfl, ?_⟩
        · simp [results, Try.results17, go_sem, d4, d5]
        · exact HW.out.trans (((HF.out.mono (by simp; omega)).setCell (by simp; omega) _).setCell (by simp; omega) _)
      · have R := Lib.hid (show firstIn (X.drop 1) Y = firstIn (X.drop (k + 1)) Y by rw [HN.out, E1.out]; simp only [firstIn]; rw [if_neg hin])
        have HI := Lib.hid (show inB Y x = false by simpa using hin)
        clear HN E1 hin
        go_wp2_with (go_at_call 19; (with_reducible refine (rin_any Y x _ _ _ _ (by have := hLB.out; omega) HL4.out).mono ?_); rintro e w5 ⟨he, rfl⟩; rw [HI.out] at he; subst he)
        go_round
        case rel => exact ⟨k + 1, by omega, by have := hLA.out; omega, by go_num, R.out⟩
        case measure => simp [intOf]; omega
    · have R := Lib.hid (show firstIn (X.drop 1) Y = (0, 0) by rw [HN.out, List.drop_eq_nil_of_le (by omega)]; rfl)
      clear HN
      go_wp2_with fail
      rw [J2.out, R.out]
      refine bodyPost_ret (v := tyV 0 0) ?_ rfl ⟨rfl, ?_⟩
      · simp [results, Try.results17, go_sem, d4, d5]
      · exact HW.out.trans (((HF.out.mono (by simp; omega)).setCell (by simp; omega) _).setCell (by simp; omega) _)

theorem rjoin_any (sup : List Int) (k n k' n' : Int) (A : Option Addr) (cap B : Nat) (w : World) (hl : sup.length ≤ 1048576) (hB : B ≤ w.heap.size) (h : Supers w B A sup) :
    Calls Try.prog 17 #[.slice A sup.length cap, tyV k n, tyV k' n'] w fun e w' => e = .returned (tyV (joinR sup k n k' n').1 (joinR sup k n k' n').2) ∧ Below w.heap.size w w' := by
  by_cases h1 : subB sup k n k' n' = true
  · exact rjoin_far sup k n k' n' A cap B w hl hB h (.inr (.inl h1))
  · by_cases h2 : subB sup k' n' k n = true
    · exact rjoin_far sup k n k' n' A cap B w hl hB h (.inr (.inr h2))
    · by_cases h3 : k = 3 ∧ k' = 3
      · obtain ⟨rfl, rfl⟩ := h3
        have e : joinR sup 3 n 3 n' = firstIn ((aboveI sup n).drop 1) (aboveI sup n') := by unfold joinR; rw [if_neg h1, if_neg h2, if_pos ⟨rfl, rfl⟩]
        rw [e]
        exact rjoin_33 sup n n' A cap B w hl hB h (by simpa using h1) (by simpa using h2)
      · exact rjoin_far sup k n k' n' A cap B w hl hB h (.inl h3)
end Go.Proofs.Ytkfhpbedllcecaa
