/-
  What the program's own kind.Sub and Join come to.
-/
import Derived.Test.YtkfhpbedllcecaaKindOwn
namespace Go.Proofs.Ytkfhpbedllcecaa
open Go.ChangeShapes Go.WideShapes Go.ChangeAt Go.RowKit
set_option linter.unusedVariables false

/-- The nearest class on the ways up of both: -1, if there is none. -/
def MeetIs (sup : List Int) (a b m : Int) : Prop :=
  (m = -1 ∧ ∀ x ∈ aboveI sup a, x ∉ aboveI sup b) ∨ (0 ≤ m ∧ m ∈ aboveI sup a ∧ m ∈ aboveI sup b ∧ ∀ y ∈ aboveI sup a, y ∈ aboveI sup b → y ≤ m)
/-- The ways up of two pairs of classes have the same classes in common. -/
def Common (sup : List Int) (a b c d : Int) : Prop := ∀ x, x ∈ aboveI sup a ∧ x ∈ aboveI sup b ↔ x ∈ aboveI sup c ∧ x ∈ aboveI sup d

theorem common_left {sup : List Int} {a b c d : Int} (h : Common sup a b c d) (h0 : 0 ≤ c) (h1 : c < sup.length) (hdc : d < c) : Common sup a b (supI sup c) d := fun x => by
  rw [h x, above_sup h0 h1, List.mem_cons]
  constructor
  · rintro ⟨rfl | g, g2⟩
    · have := above_range g2; omega
    · exact ⟨g, g2⟩
  · rintro ⟨g, g2⟩
    exact ⟨.inr g, g2⟩
theorem common_right {sup : List Int} {a b c d : Int} (h : Common sup a b c d) (h0 : 0 ≤ d) (h1 : d < sup.length) (hdc : c < d) : Common sup a b c (supI sup d) := fun x => by
  rw [h x, above_sup h0 h1, List.mem_cons]
  constructor
  · rintro ⟨g2, rfl | g⟩
    · have := above_range g2; omega
    · exact ⟨g2, g⟩
  · rintro ⟨g, g2⟩
    exact ⟨g, .inr g2⟩
theorem common_meet {sup : List Int} {a b c : Int} (h : Common sup a b c c) (h0 : -1 ≤ c) (h1 : c < sup.length) : MeetIs sup a b c := by
  by_cases hc : 0 ≤ c
  · have g := (h c).mpr ⟨above_self hc h1, above_self hc h1⟩
    exact .inr ⟨hc, g.1, g.2, fun y g1 g2 => (above_range ((h y).mp ⟨g1, g2⟩).1).2.1⟩
  · exact .inl ⟨by omega, fun x g1 g2 => by have := above_range ((h x).mp ⟨g1, g2⟩).1; omega⟩

theorem kmeet_any (sup : List Int) (a b : Int) (A : Option Addr) (cap B : Nat) (w : World) (hl : sup.length ≤ 1048576) (hB : B ≤ w.heap.size) (h : Supers w B A sup) :
    Calls Try.prog 22 #[.slice A sup.length cap, .int .i64 a, .int .i64 b] w fun e w' => (∃ m, e = .returned (.int .i64 m) ∧ MeetIs sup a b m) ∧ w = w' := by
  have HS := Lib.hid h
  clear h
  by_cases ha : classB sup a = true
  · by_cases hb : classB sup b = true
    · obtain ⟨a0, a1⟩ := class_true ha
      obtain ⟨b0, b1⟩ := class_true hb
      have HA := Lib.hid ha
      have HB := Lib.hid hb
      clear ha hb
      go_enter Try.func22, Try.ntmps22
      go_wp2_with (first
        | (go_at_call 23; (with_reducible refine (kisclass_any sup a A cap w hl).mono ?_); rintro e w' ⟨he, rfl⟩; rw [HA.out] at he; subst he)
        | (go_at_call 23; (with_reducible refine (kisclass_any sup b A cap w hl).mono ?_); rintro e w' ⟨he, rfl⟩; rw [HB.out] at he; subst he))
      go_loop [1, 2] (fun i j => ∃ c d : Int, i = .int .i64 c ∧ j = .int .i64 d ∧ -1 ≤ c ∧ c < sup.length ∧ -1 ≤ d ∧ d < sup.length ∧ Common sup a b c d) (fun i j => (intOf i + 1).toNat + (intOf j + 1).toNat)
      case atStart => exact ⟨a, b, rfl, rfl, by omega, a1, by omega, b1, fun _ => Iff.rfl⟩
      case round =>
        obtain ⟨c, d, rfl, rfl, c0, c1, d0, d1, hn⟩ := hrel
        have HN := Lib.hid hn
        clear hn
        have hs := supI_bounds sup c
        have ht := supI_bounds sup d
        by_cases hcd : c = d
        · subst hcd
          have R := Lib.hid (common_meet HN.out c0 c1)
          clear HN hs ht
          go_wp2_with fail
          go_ret
          exact ⟨⟨_, rfl, R.out⟩, rfl⟩
        · by_cases hdc : d < c
          · have hc0 : 0 ≤ c := by omega
            have R := Lib.hid (common_left HN.out hc0 c1 hdc)
            have h2 := hs.2 hc0
            clear HN ht
            go_wp2_with (go_at_call 24; (with_reducible refine (kabove_any sup c hc0 c1 A cap B w hl HS.out).mono ?_); rintro e w' ⟨rfl, rfl⟩)
            go_round
            case rel => exact ⟨supI sup c, d, rfl, rfl, hs.1, by omega, d0, d1, R.out⟩
            case measure => simp [intOf]; omega
          · have hd0 : 0 ≤ d := by omega
            have R := Lib.hid (common_right HN.out hd0 d1 (by omega))
            have h2 := ht.2 hd0
            clear HN hs
            go_wp2_with (go_at_call 24; (with_reducible refine (kabove_any sup d hd0 d1 A cap B w hl HS.out).mono ?_); rintro e w' ⟨rfl, rfl⟩)
            go_round
            case rel => exact ⟨c, supI sup d, rfl, rfl, c0, c1, ht.1, by omega, R.out⟩
            case measure => simp [intOf]; omega
    · have HA := Lib.hid ha
      have HB := Lib.hid (show classB sup b = false by simpa using hb)
      have R := Lib.hid (show MeetIs sup a b (-1) from .inl ⟨rfl, fun x g g2 => by have := above_range g2; have := class_false hb; omega⟩)
      clear ha hb
      go_enter Try.func22, Try.ntmps22
      go_wp2_with (first
        | (go_at_call 23; (with_reducible refine (kisclass_any sup a A cap w hl).mono ?_); rintro e w' ⟨he, rfl⟩; rw [HA.out] at he; subst he)
        | (go_at_call 23; (with_reducible refine (kisclass_any sup b A cap w hl).mono ?_); rintro e w' ⟨he, rfl⟩; rw [HB.out] at he; subst he))
      go_ret
      exact ⟨⟨_, rfl, R.out⟩, rfl⟩
  · have HA := Lib.hid (show classB sup a = false by simpa using ha)
    have R := Lib.hid (show MeetIs sup a b (-1) from .inl ⟨rfl, fun x g g2 => by have := above_range g; have := class_false ha; omega⟩)
    clear ha
    go_enter Try.func22, Try.ntmps22
    go_wp2_with (go_at_call 23; (with_reducible refine (kisclass_any sup a A cap w hl).mono ?_); rintro e w' ⟨he, rfl⟩; rw [HA.out] at he; subst he)
    go_ret
    exact ⟨⟨_, rfl, R.out⟩, rfl⟩

theorem ksub_any (sup : List Int) (k n k' n' : Int) (A : Option Addr) (cap B : Nat) (w : World) (hl : sup.length ≤ 1048576) (hB : B ≤ w.heap.size) (h : Supers w B A sup) :
    Calls Try.prog 14 #[.slice A sup.length cap, tyV k n, tyV k' n'] w fun e w' => e = .returned (.bool (subB sup k n k' n')) ∧ Below w.heap.size w w' := by
  have hW : Below w.heap.size w ((w.alloc (.cells #[.int .i64 k, .int .i64 n] 24)).alloc (.cells #[.int .i64 k', .int .i64 n'] 24)) :=
    ((Below.refl w.heap.size w).alloc (Nat.le_refl _) _).alloc (by simp) _
  have HS := Lib.hid (h.below_to hW hB)
  have HW := Lib.hid hW
  have HB := Lib.hid hB
  clear h hW hB
  by_cases h4 : k = 4
  · subst h4
    have e : subB sup 4 n k' n' = isRefB k' := by simp [subB]
    rw [e]
    clear e
    go_enter Try.func14, Try.ntmps14
    go_wp2_with (go_at_call 12; (with_reducible refine (kisref_any _ _ _).mono ?_); rintro e w' ⟨rfl, hb⟩)
    go_ret
    exact ⟨rfl, HW.out.trans (hb.mono (by simp; omega))⟩
  · by_cases h3 : k = 3
    · subst h3
      by_cases hk : k' = 3
      · subst hk
        have e : subB sup 3 n 3 n' = inB (aboveI sup n) n' := by simp [subB]
        rw [e]
        clear e
        go_enter Try.func14, Try.ntmps14
        go_wp2_with (go_at_call 18; (with_reducible refine (kbelow_any sup n n' A cap B _ hl (by have := HB.out; simp; omega) HS.out).mono ?_); rintro e w' ⟨rfl, hb⟩)
        go_ret
        exact ⟨rfl, HW.out.trans (hb.mono (by simp; omega))⟩
      · have e : subB sup 3 n k' n' = false := by simp [subB, hk]
        rw [e]
        clear e
        go_enter Try.func14, Try.ntmps14
        go_wp2_with fail
        go_ret
        exact ⟨by first | rfl | simp [hk], HW.out⟩
    · by_cases h12 : k = 1 ∨ k = 2
      · have e : subB sup k n k' n' = decide (k = k' ∧ n = n') := by simp [subB, h3, h4, h12]
        rw [e]
        clear e
        rcases h12 with rfl | rfl
        all_goals
          go_enter Try.func14, Try.ntmps14
          go_wp2_with fail
          all_goals
            go_ret
            refine ⟨?_, ((Below.refl _ _).alloc (Nat.le_refl _) _).alloc (by simp) _⟩
            first | rfl | (simp [*]; done)
      · have e : subB sup k n k' n' = false := by simp [subB, h3, h4, h12]
        rw [e]
        have h1 : ¬ k = 1 := by omega
        have h2 : ¬ k = 2 := by omega
        clear e h12
        go_enter Try.func14, Try.ntmps14
        go_wp2_with fail
        go_ret
        exact ⟨rfl, HW.out⟩

theorem kjoin_far (sup : List Int) (k n k' n' : Int) (A : Option Addr) (cap B : Nat) (w : World) (hl : sup.length ≤ 1048576) (hB : B ≤ w.heap.size) (h : Supers w B A sup) (hno : ¬ (k = 3 ∧ k' = 3) ∨ subB sup k n k' n' = true ∨ subB sup k' n' k n = true) :
    Calls Try.prog 16 #[.slice A sup.length cap, tyV k n, tyV k' n'] w fun e w' => e = .returned (tyV (joinR sup k n k' n').1 (joinR sup k n k' n').2) ∧ Below w.heap.size w w' := by
  have hW : Below w.heap.size w (((w.alloc (.cells #[.int .i64 k, .int .i64 n] 24)).alloc (.cells #[.int .i64 k', .int .i64 n'] 24)).alloc (.cells #[.int .i64 0, .int .i64 0] 24)) :=
    (((Below.refl w.heap.size w).alloc (Nat.le_refl _) _).alloc (by simp) _).alloc (by simp; omega) _
  have HS := Lib.hid (h.below_to hW hB)
  have HW := Lib.hid hW
  have HB := Lib.hid hB
  clear h hW hB
  have J := Lib.hid (show joinR sup k n k' n' = if subB sup k n k' n' then (k', n') else if subB sup k' n' k n then (k, n) else if k = 3 ∧ k' = 3 then firstIn ((aboveI sup n).drop 1) (aboveI sup n') else (0, 0) from rfl)
  generalize joinR sup k n k' n' = j at J ⊢
  have hz1 : w.heap.size < w.heap.size + 1 + 1 + 1 := by omega
  have hz2 : w.heap.size + 1 < w.heap.size + 1 + 1 + 1 := by omega
  by_cases h1 : subB sup k n k' n' = true
  · have J2 := Lib.hid (show j = (k', n') by rw [J.out, if_pos h1])
    have H1 := Lib.hid h1
    clear h1 J
    go_enter Try.func16, Try.ntmps16
    go_wp2_with (go_at_call 14; (with_reducible refine (ksub_any sup _ _ _ _ A cap B _ hl (by have := HB.out; simp; omega) HS.out).mono ?_); rintro e w1 ⟨he, hb⟩; rw [H1.out] at he; subst he; obtain ⟨hc, hf⟩ := below_cells hb; obtain ⟨r0, r1, r2, r3⟩ := res_cells hb)
    rw [J2.out]
    refine bodyPost_ret (v := tyV k' n') ?_ rfl ⟨rfl, ?_⟩
    · simp [results, Try.results16, go_sem, r0, r1]
    · exact HW.out.trans (((hb.mono (by simp; omega)).setCell (by simp; omega) _).setCell (by simp; omega) _)
  · have F1 := Lib.hid (show subB sup k n k' n' = false by simpa using h1)
    have H1 := F1
    clear h1
    by_cases h2 : subB sup k' n' k n = true
    · have J2 := Lib.hid (show j = (k, n) by rw [J.out, F1.out, h2]; rfl)
      have H2 := Lib.hid h2
      clear h2 J
      go_enter Try.func16, Try.ntmps16
      go_wp2_with (first | (go_at_call 14; (with_reducible refine (ksub_any sup _ _ _ _ A cap B _ hl (by have := HB.out; simp; omega) HS.out).mono ?_); rintro e w1 ⟨he, hb⟩; rw [H1.out] at he; subst he; obtain ⟨hc, hf⟩ := below_cells hb; obtain ⟨r0, r1, r2, r3⟩ := res_cells hb; obtain ⟨q0, q1, q2, q3⟩ := arg_cells hb; have HS1 := Lib.hid (HS.out.below_to hb (by have := HB.out; simp; omega)); have HZ := Lib.hid hb.size) | (go_at_call 14; (with_reducible refine (ksub_any sup _ _ _ _ A cap B _ hl (by have := HB.out; have := HZ.out; simp at this; omega) HS1.out).mono ?_); rintro e w2 ⟨he, hb2⟩; rw [H2.out] at he; subst he; have hbb := Lib.hid (hb.trans (hb2.mono hb.size)); clear hc hf r0 r1 r2 r3 q0 q1 q2 q3; obtain ⟨hc, hf⟩ := below_cells hbb.out; obtain ⟨r0, r1, r2, r3⟩ := res_cells hbb.out; obtain ⟨q0, q1, q2, q3⟩ := arg_cells hbb.out; have HS2 := Lib.hid (HS.out.below_to hbb.out (by have := HB.out; simp; omega)); have HZ2 := Lib.hid hbb.out.size))
      rw [J2.out]
      refine bodyPost_ret (v := tyV k n) ?_ rfl ⟨rfl, ?_⟩
      · simp [results, Try.results16, go_sem, r0, r1]
      · exact HW.out.trans (((hbb.out.mono (by simp; omega)).setCell (by simp; omega) _).setCell (by simp; omega) _)
    · have H2 := Lib.hid (show subB sup k' n' k n = false by simpa using h2)
      clear h2
      by_cases h3 : k = 3 ∧ k' = 3
      · rcases hno with g | g | g
        · exact absurd h3 g
        · rw [H1.out] at g; cases g
        · rw [H2.out] at g; cases g
      · have J2 := Lib.hid (show j = (0, 0) by rw [J.out, H1.out, H2.out, if_neg h3]; rfl)
        have h3' : ¬ k = 3 ∨ (k = 3 ∧ ¬ k' = 3) := by omega
        clear h3 J
        rcases h3' with h3 | ⟨rfl, h3⟩
        all_goals
          go_enter Try.func16, Try.ntmps16
          go_wp2_with (first | (go_at_call 14; (with_reducible refine (ksub_any sup _ _ _ _ A cap B _ hl (by have := HB.out; simp; omega) HS.out).mono ?_); rintro e w1 ⟨he, hb⟩; rw [H1.out] at he; subst he; obtain ⟨hc, hf⟩ := below_cells hb; obtain ⟨r0, r1, r2, r3⟩ := res_cells hb; obtain ⟨q0, q1, q2, q3⟩ := arg_cells hb; have HS1 := Lib.hid (HS.out.below_to hb (by have := HB.out; simp; omega)); have HZ := Lib.hid hb.size) | (go_at_call 14; (with_reducible refine (ksub_any sup _ _ _ _ A cap B _ hl (by have := HB.out; have := HZ.out; simp at this; omega) HS1.out).mono ?_); rintro e w2 ⟨he, hb2⟩; rw [H2.out] at he; subst he; have hbb := Lib.hid (hb.trans (hb2.mono hb.size)); clear hc hf r0 r1 r2 r3 q0 q1 q2 q3; obtain ⟨hc, hf⟩ := below_cells hbb.out; obtain ⟨r0, r1, r2, r3⟩ := res_cells hbb.out; obtain ⟨q0, q1, q2, q3⟩ := arg_cells hbb.out; have HS2 := Lib.hid (HS.out.below_to hbb.out (by have := HB.out; simp; omega)); have HZ2 := Lib.hid hbb.out.size))
          rw [J2.out]
          refine bodyPost_ret (v := tyV 0 0) ?_ rfl ⟨rfl, ?_⟩
          · simp [results, Try.results16, go_sem, r0, r1]
          · exact HW.out.trans (((hbb.out.mono (by simp; omega)).setCell (by simp; omega) _).setCell (by simp; omega) _)

/-- What the program's meet says of the join of two classes neither of which is below the other. -/
theorem meet_join {sup : List Int} {n n' m : Int} (h1 : subB sup 3 n 3 n' = false) (h2 : subB sup 3 n' 3 n = false) (h : MeetIs sup n n' m) :
    firstIn ((aboveI sup n).drop 1) (aboveI sup n') = if m = -1 then (0, 0) else (3, m) := by
  have a1 : n' ∉ aboveI sup n := fun g => by rw [(sub_iff ..).mpr (.inr (.inl ⟨rfl, rfl, g⟩))] at h1; cases h1
  have a2 : n ∉ aboveI sup n' := fun g => by rw [(sub_iff ..).mpr (.inr (.inl ⟨rfl, rfl, g⟩))] at h2; cases h2
  rcases h with ⟨rfl, h⟩ | ⟨g0, g1, g2, g3⟩
  · rw [if_pos rfl]
    rcases join33 a1 a2 with ⟨e, _⟩ | ⟨x, _, f1, f2, _⟩
    · exact e
    · exact absurd f2 (h x f1)
  · rw [if_neg (by omega)]
    rcases join33 a1 a2 with ⟨_, f⟩ | ⟨x, e, f1, f2, f3⟩
    · exact absurd g2 (f m g1)
    · have := f3 m g1 g2
      have := g3 x f1 f2
      rw [e, show x = m by omega]

theorem kjoin_33 (sup : List Int) (n n' : Int) (A : Option Addr) (cap B : Nat) (w : World) (hl : sup.length ≤ 1048576) (hB : B ≤ w.heap.size) (h : Supers w B A sup)
    (h1 : subB sup 3 n 3 n' = false) (h2 : subB sup 3 n' 3 n = false) :
    Calls Try.prog 16 #[.slice A sup.length cap, tyV 3 n, tyV 3 n'] w fun e w' => e = .returned (tyV (firstIn ((aboveI sup n).drop 1) (aboveI sup n')).1 (firstIn ((aboveI sup n).drop 1) (aboveI sup n')).2) ∧ Below w.heap.size w w' := by
  have hW : Below w.heap.size w (((w.alloc (.cells #[.int .i64 3, .int .i64 n] 24)).alloc (.cells #[.int .i64 3, .int .i64 n'] 24)).alloc (.cells #[.int .i64 0, .int .i64 0] 24)) :=
    (((Below.refl w.heap.size w).alloc (Nat.le_refl _) _).alloc (by simp) _).alloc (by simp; omega) _
  have HS := Lib.hid (h.below_to hW hB)
  have HW := Lib.hid hW
  have HB := Lib.hid hB
  clear h hW hB
  have H1 := Lib.hid h1
  have H2 := Lib.hid h2
  clear h1 h2
  have J := Lib.hid (fun m => @meet_join sup n n' m H1.out H2.out)
  generalize firstIn ((aboveI sup n).drop 1) (aboveI sup n') = j at J ⊢
  go_enter Try.func16, Try.ntmps16
  go_wp2_with (first | (go_at_call 14; (with_reducible refine (ksub_any sup _ _ _ _ A cap B _ hl (by have := HB.out; simp; omega) HS.out).mono ?_); rintro e w1 ⟨he, hb⟩; rw [H1.out] at he; subst he; obtain ⟨hc, hf⟩ := below_cells hb; obtain ⟨r0, r1, r2, r3⟩ := res_cells hb; obtain ⟨q0, q1, q2, q3⟩ := arg_cells hb; have HS1 := Lib.hid (HS.out.below_to hb (by have := HB.out; simp; omega)); have HZ := Lib.hid hb.size) | (go_at_call 14; (with_reducible refine (ksub_any sup _ _ _ _ A cap B _ hl (by have := HB.out; have := HZ.out; simp at this; omega) HS1.out).mono ?_); rintro e w2 ⟨he, hb2⟩; rw [H2.out] at he; subst he; have hbb := Lib.hid (hb.trans (hb2.mono hb.size)); clear hc hf r0 r1 r2 r3 q0 q1 q2 q3; obtain ⟨hc, hf⟩ := below_cells hbb.out; obtain ⟨r0, r1, r2, r3⟩ := res_cells hbb.out; obtain ⟨q0, q1, q2, q3⟩ := arg_cells hbb.out; have HS2 := Lib.hid (HS.out.below_to hbb.out (by have := HB.out; simp; omega)); have HZ2 := Lib.hid hbb.out.size) | (go_at_call 22; (with_reducible refine (kmeet_any sup _ _ A cap B _ hl (by have := HB.out; have := HZ2.out; simp at this; omega) HS2.out).mono ?_); rintro e w3 ⟨⟨m, rfl, hm⟩, rfl⟩; have J2 := Lib.hid (J.out m hm); clear J; by_cases hm1 : m = -1))
  · have J3 := Lib.hid (show j = (0, 0) by rw [J2.out, if_pos hm1])
    rw [J3.out]
    refine bodyPost_ret (v := tyV 0 0) ?_ rfl ⟨rfl, ?_⟩
    · simp [results, Try.results16, go_sem, r0, r1]
    · exact HW.out.trans (((hbb.out.mono (by simp; omega)).setCell (by simp; omega) _).setCell (by simp; omega) _)
  · have J3 := Lib.hid (show j = (3, m) by rw [J2.out, if_neg hm1])
    rw [J3.out]
    refine bodyPost_ret (v := tyV 3 m) ?_ rfl ⟨rfl, ?_⟩
    · simp [results, Try.results16, go_sem, r0, r1]
    · exact HW.out.trans (((hbb.out.mono (by simp; omega)).setCell (by simp; omega) _).setCell (by simp; omega) _)

theorem kjoin_any (sup : List Int) (k n k' n' : Int) (A : Option Addr) (cap B : Nat) (w : World) (hl : sup.length ≤ 1048576) (hB : B ≤ w.heap.size) (h : Supers w B A sup) :
    Calls Try.prog 16 #[.slice A sup.length cap, tyV k n, tyV k' n'] w fun e w' => e = .returned (tyV (joinR sup k n k' n').1 (joinR sup k n k' n').2) ∧ Below w.heap.size w w' := by
  by_cases h1 : subB sup k n k' n' = true
  · exact kjoin_far sup k n k' n' A cap B w hl hB h (.inr (.inl h1))
  · by_cases h2 : subB sup k' n' k n = true
    · exact kjoin_far sup k n k' n' A cap B w hl hB h (.inr (.inr h2))
    · by_cases h3 : k = 3 ∧ k' = 3
      · obtain ⟨rfl, rfl⟩ := h3
        have e : joinR sup 3 n 3 n' = firstIn ((aboveI sup n).drop 1) (aboveI sup n') := by unfold joinR; rw [if_neg h1, if_neg h2, if_pos ⟨rfl, rfl⟩]
        rw [e]
        exact kjoin_33 sup n n' A cap B w hl hB h (by simpa using h1) (by simpa using h2)
      · exact kjoin_far sup k n k' n' A cap B w hl hB h (.inl h3)
end Go.Proofs.Ytkfhpbedllcecaa
