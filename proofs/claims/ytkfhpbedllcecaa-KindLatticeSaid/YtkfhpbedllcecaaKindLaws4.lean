/-
  The statement on the lattice of types, walked: it answers true whatever classes and types it is given.
-/
import Derived.Test.YtkfhpbedllcecaaKindAwake
import Derived.Test.YtkfhpbedllcecaaKindMath
namespace Go.Proofs.Ytkfhpbedllcecaa
open Go.ChangeShapes Go.WideShapes Go.ChangeAt Go.RowKit
set_option linter.unusedVariables false

/-- The cells of three structs of two, one block behind the other. -/
def Boxes (w : World) (N : Nat) (a b c d x y : Value) : Prop :=
  w.cell? ⟨N, 0, none⟩ = some a ∧ w.cell? ⟨N, 1, none⟩ = some b ∧ w.cell? ⟨N + 1, 0, none⟩ = some c ∧ w.cell? ⟨N + 1, 1, none⟩ = some d ∧
    w.cell? ⟨N + 1 + 1, 0, none⟩ = some x ∧ w.cell? ⟨N + 1 + 1, 1, none⟩ = some y
theorem boxes_below {w w' : World} {N C : Nat} {a b c d x y : Value} (h : Boxes w N a b c d x y) (hb : Below C w w') (hC : N + 1 + 1 < C) : Boxes w' N a b c d x y := by
  obtain ⟨h0, h1, h2, h3, h4, h5⟩ := h
  exact ⟨(hb.cell (show N < C by omega)).trans h0, (hb.cell (show N < C by omega)).trans h1, (hb.cell (show N + 1 < C by omega)).trans h2, (hb.cell (show N + 1 < C by omega)).trans h3,
    (hb.cell (show N + 1 + 1 < C by omega)).trans h4, (hb.cell (show N + 1 + 1 < C by omega)).trans h5⟩
theorem boxes_keep {w0 w' : World} {N : Nat} {a b c d x y : Value} (HX : Hid (Boxes w0 N a b c d x y)) (HN : Hid (N + 1 + 1 < w0.heap.size)) (hb : Below w0.heap.size w0 w') : Boxes w' N a b c d x y := boxes_below HX.out hb HN.out
theorem boxes_new {w : World} {N : Nat} {a b c d x y : Value} (T : TypeId) (u v : Value) (h : Boxes w N a b c d x y) (hN : N + 1 + 1 < w.heap.size) : Boxes (w.alloc (.cells #[u, v] T)) N a b c d x y :=
  boxes_below h ((Below.refl w.heap.size w).alloc (Nat.le_refl _) _) hN
theorem boxes_made (w : World) (T : TypeId) (a b c d x y : Value) : Boxes (((w.alloc (.cells #[a, b] T)).alloc (.cells #[c, d] T)).alloc (.cells #[x, y] T)) w.heap.size a b c d x y := by
  have e : (w.alloc (.cells #[a, b] T)).heap.size = w.heap.size + 1 := by simp
  have e2 : ((w.alloc (.cells #[a, b] T)).alloc (.cells #[c, d] T)).heap.size = w.heap.size + 1 + 1 := by simp
  refine ⟨?_, ?_, ?_, ?_, ?_, ?_⟩
  · rw [World.cell?_alloc_past _ _ _ (by simp; omega), World.cell?_alloc_past _ _ _ (by simp), World.cell?_alloc_at _ _ _ _ rfl]; rfl
  · rw [World.cell?_alloc_past _ _ _ (by simp; omega), World.cell?_alloc_past _ _ _ (by simp), World.cell?_alloc_at _ _ _ _ rfl]; rfl
  · rw [World.cell?_alloc_past _ _ _ (by simp), World.cell?_alloc_at _ _ _ _ e.symm]; rfl
  · rw [World.cell?_alloc_past _ _ _ (by simp), World.cell?_alloc_at _ _ _ _ e.symm]; rfl
  · rw [World.cell?_alloc_at _ _ _ _ e2.symm]; rfl
  · rw [World.cell?_alloc_at _ _ _ _ e2.symm]; rfl
theorem calls_ctxH {P : Program} {f : FuncId} {args : Array Value} {w0 w : World} {r : Ending} (hb : Hid (Below w0.heap.size w0 w)) (h : Calls P f args w fun e w' => e = r ∧ Below w.heap.size w w') :
    Calls P f args w fun e w' => e = r ∧ Below w0.heap.size w0 w' := calls_ctx hb.out h

def thereB (len : Nat) (k n : Int) : Bool := decide (k = 3 → 0 ≤ n ∧ n < len)
theorem there_any (len : Nat) (k n : Int) (A : Option Addr) (cap : Nat) (w : World) :
    Calls Try.prog 21 #[.slice A len cap, tyV k n] w fun e w' => e = .returned (.bool (thereB len k n)) ∧ Below w.heap.size w w' := by
  by_cases hk : k = 3
  · subst hk
    have hcs : (0 ≤ n ∧ n < len) ∨ n < 0 ∨ (0 ≤ n ∧ (len : Int) ≤ n) := by omega
    rcases hcs with ⟨h0, h1⟩ | h0 | ⟨h0, h1⟩
    · have E := Lib.hid (show thereB len 3 n = true from decide_eq_true (fun _ => ⟨h0, h1⟩))
      go_enter Try.func21, Try.ntmps21
      go_wp2
      go_ret
      refine ⟨?_, (Below.refl _ _).alloc (Nat.le_refl _) _⟩
      rw [E.out]; rfl
    · have E := Lib.hid (show thereB len 3 n = false from decide_eq_false (fun h => by have := h rfl; omega))
      have d0 : decide (0 ≤ n) = false := decide_eq_false (by omega)
      go_enter Try.func21, Try.ntmps21
      go_wp2
      go_ret
      refine ⟨?_, (Below.refl _ _).alloc (Nat.le_refl _) _⟩
      rw [E.out]; first | rfl | simp [h0]
    · have E := Lib.hid (show thereB len 3 n = false from decide_eq_false (fun h => by have := h rfl; omega))
      have d0 : decide (n < (len : Int)) = false := decide_eq_false (by omega)
      go_enter Try.func21, Try.ntmps21
      go_wp2
      go_ret
      refine ⟨?_, (Below.refl _ _).alloc (Nat.le_refl _) _⟩
      rw [E.out]; first | rfl | simp [h0, h1]
  · have E := Lib.hid (show thereB len k n = true from decide_eq_true (fun h => absurd h hk))
    go_enter Try.func21, Try.ntmps21
    go_wp2
    go_ret
    refine ⟨?_, (Below.refl _ _).alloc (Nat.le_refl _) _⟩
    rw [E.out]; first | rfl | simp [hk]
theorem there_ctx {len : Nat} {k n : Int} {A : Option Addr} {cap : Nat} {w0 w : World} (HC : Hid (Below w0.heap.size w0 w)) :
    Calls Try.prog 21 #[.slice A len cap, tyV k n] w fun e w' => e = .returned (.bool (thereB len k n)) ∧ Below w0.heap.size w0 w' := calls_ctx HC.out (there_any len k n A cap w)

set_option maxRecDepth 100000 in
set_option maxHeartbeats 6400000 in
theorem kindLattice_walk (sup : List Int) (A : Option Addr) (cap : Nat) (k n k' n' k'' n'' : Int) (w : World) (hc : sup.length ≤ cap) (hm : cap ≤ 9223372036854775807) (h : Supers w w.heap.size A sup) :
    Calls Try.prog 5 #[.slice A sup.length cap, tyV k n, tyV k' n', tyV k'' n''] w fun e w' => e = .returned (.bool true) ∧ Below w.heap.size w w' := by
  have hW : Below w.heap.size w (((w.alloc (.cells #[.int .i64 k, .int .i64 n] 24)).alloc (.cells #[.int .i64 k', .int .i64 n'] 24)).alloc (.cells #[.int .i64 k'', .int .i64 n''] 24)) := (((Below.refl _ _).alloc (Nat.le_refl _) _).alloc (by simp) _).alloc (by simp; omega) _
  have HW := Lib.hid hW
  have HS : Hid (Supers (((w.alloc (.cells #[.int .i64 k, .int .i64 n] 24)).alloc (.cells #[.int .i64 k', .int .i64 n'] 24)).alloc (.cells #[.int .i64 k'', .int .i64 n''] 24)) w.heap.size A (sup.take 40)) := Lib.hid (supers_take (h.below_to hW (Nat.le_refl _)) 40)
  have HB : Hid (w.heap.size ≤ (((w.alloc (.cells #[.int .i64 k, .int .i64 n] 24)).alloc (.cells #[.int .i64 k', .int .i64 n'] 24)).alloc (.cells #[.int .i64 k'', .int .i64 n''] 24)).heap.size) := Lib.hid hW.size
  have HN : Hid (w.heap.size + 1 + 1 < (((w.alloc (.cells #[.int .i64 k, .int .i64 n] 24)).alloc (.cells #[.int .i64 k', .int .i64 n'] 24)).alloc (.cells #[.int .i64 k'', .int .i64 n''] 24)).heap.size) := Lib.hid (by simp)
  have HL : Hid ((sup.take 40).length ≤ 1048576) := Lib.hid (by rw [List.length_take]; omega)
  have HC : Hid (Below (((w.alloc (.cells #[.int .i64 k, .int .i64 n] 24)).alloc (.cells #[.int .i64 k', .int .i64 n'] 24)).alloc (.cells #[.int .i64 k'', .int .i64 n''] 24)).heap.size (((w.alloc (.cells #[.int .i64 k, .int .i64 n] 24)).alloc (.cells #[.int .i64 k', .int .i64 n'] 24)).alloc (.cells #[.int .i64 k'', .int .i64 n''] 24)) (((w.alloc (.cells #[.int .i64 k, .int .i64 n] 24)).alloc (.cells #[.int .i64 k', .int .i64 n'] 24)).alloc (.cells #[.int .i64 k'', .int .i64 n''] 24))) := Lib.hid (Below.refl _ _)
  have HX : Hid (Boxes (((w.alloc (.cells #[.int .i64 k, .int .i64 n] 24)).alloc (.cells #[.int .i64 k', .int .i64 n'] 24)).alloc (.cells #[.int .i64 k'', .int .i64 n''] 24)) w.heap.size (.int .i64 k) (.int .i64 n) (.int .i64 k') (.int .i64 n') (.int .i64 k'') (.int .i64 n'')) := Lib.hid (boxes_made w 24 _ _ _ _ _ _)
  have HF := Lib.hid (few_any sup A cap (((w.alloc (.cells #[.int .i64 k, .int .i64 n] 24)).alloc (.cells #[.int .i64 k', .int .i64 n'] 24)).alloc (.cells #[.int .i64 k'', .int .i64 n''] 24)) hc hm)
  clear h hW hc hm
  generalize hsup : sup.take 40 = sup' at *
  clear hsup
  by_cases ht : thereP sup' k n ∧ thereP sup' k' n' ∧ thereP sup' k'' n''
  · obtain ⟨t1, t2, t3⟩ := ht
    have TA := Lib.hid (show thereB sup'.length k n = true from decide_eq_true t1)
    have TB := Lib.hid (show thereB sup'.length k' n' = true from decide_eq_true t2)
    have TC := Lib.hid (show thereB sup'.length k'' n'' = true from decide_eq_true t3)
    have LAT := join_lattice (sup := sup') t1 t2
    obtain ⟨⟨x, y⟩, hj⟩ : ∃ j, joinR sup' k n k' n' = j := ⟨_, rfl⟩
    have J1 := Lib.hid hj
    rw [hj] at LAT
    clear hj t1 t2 t3
    by_cases hac : subB sup' k n k'' n'' = true
    · have AC := Lib.hid hac
      by_cases hbc : subB sup' k' n' k'' n'' = true
      · have BC := Lib.hid hbc
        obtain ⟨_, no⟩ | ⟨hx, haj, hbj, hall⟩ := LAT
        · exact absurd (no _ _ hac hbc) id
        · have AJ := Lib.hid haj
          have BJ := Lib.hid hbj
          have JC := Lib.hid (hall _ _ hac hbc)
          have hx' : ¬ x = 0 := hx
          clear hx haj hbj hall hac hbc
          by_cases hab : subB sup' k n k' n' = true
          · have AB := Lib.hid hab
            clear hab
            go_enter Try.func5, Try.ntmps5
            go_wp2_with (first | (go_at_call 8; (with_reducible refine (HF.out).mono ?_); rintro e w' ⟨rfl, rfl⟩) | (go_at_call 9; (with_reducible refine (calls_ctxH (by assumption) (kawake_any _)).mono ?_); rintro e w' ⟨rfl, hc⟩; obtain ⟨q0, q1, q2, q3, q4, q5⟩ := boxes_keep (by assumption) (by assumption) hc; (try obtain ⟨j0, j1⟩ := last_two hc); have HC' := Lib.hid hc; clear hc) | (go_at_call 21; (with_reducible refine (there_ctx (by assumption)).mono ?_); rintro e w' ⟨he, hc⟩; (first | rw [TA.out] at he | rw [TB.out] at he | rw [TC.out] at he); subst he; obtain ⟨q0, q1, q2, q3, q4, q5⟩ := boxes_keep (by assumption) (by assumption) hc; (try obtain ⟨j0, j1⟩ := last_two hc); have HC' := Lib.hid hc; clear hc) | (go_at_call 14; (with_reducible refine (ksub_ctx (by assumption) (by assumption) (by assumption) (by assumption)).mono ?_); rintro e w' ⟨he, hc⟩; (first | rw [AB.out] at he | rw [BC.out] at he | rw [AC.out] at he | rw [AJ.out] at he | rw [BJ.out] at he | rw [JC.out] at he); subst he; obtain ⟨q0, q1, q2, q3, q4, q5⟩ := boxes_keep (by assumption) (by assumption) hc; (try obtain ⟨j0, j1⟩ := last_two hc); have HC' := Lib.hid hc; clear hc) | (go_at_call 16; (with_reducible refine (kjoin_ctx (by assumption) (by assumption) (by assumption) (by assumption)).mono ?_); rintro e w' ⟨he, hc⟩; rw [J1.out] at he; subst he; obtain ⟨q0, q1, q2, q3, q4, q5⟩ := boxes_keep (by assumption) (by assumption) hc; have HX1 := Lib.hid (boxes_new 24 (.int .i64 x) (.int .i64 y) (boxes_keep (by assumption) (by assumption) hc) (by have := hc.size; have := HN.out; omega)); have HS1 := Lib.hid ((HS.out.below_to hc HB.out).below_to ((Below.refl w'.heap.size w').alloc (Nat.le_refl _) (.cells #[.int .i64 x, .int .i64 y] 24)) (Nat.le_trans HB.out hc.size)); have HB1 : Hid (w.heap.size ≤ (w'.alloc (.cells #[.int .i64 x, .int .i64 y] 24)).heap.size) := Lib.hid (by have := hc.size; have := HB.out; simp; omega); have HN1 : Hid (w.heap.size + 1 + 1 < (w'.alloc (.cells #[.int .i64 x, .int .i64 y] 24)).heap.size) := Lib.hid (by have := hc.size; have := HN.out; simp; omega); have HW1 := Lib.hid ((HW.out.trans (hc.mono HB.out)).alloc (Nat.le_trans HB.out hc.size) (.cells #[.int .i64 x, .int .i64 y] 24)); have HC1 : Hid (Below (w'.alloc (.cells #[.int .i64 x, .int .i64 y] 24)).heap.size (w'.alloc (.cells #[.int .i64 x, .int .i64 y] 24)) (w'.alloc (.cells #[.int .i64 x, .int .i64 y] 24))) := Lib.hid (Below.refl _ _); obtain ⟨p0, p1, p2, p3, p4, p5⟩ := HX1.out; clear hc))
            go_ret
            exact ⟨rfl, HW1.out.trans (Hid.out ‹Hid (Below _ _ _)› |>.mono HB1.out)⟩
          · have AB := Lib.hid (show subB sup' k n k' n' = false by simpa using hab)
            clear hab
            go_enter Try.func5, Try.ntmps5
            go_wp2_with (first | (go_at_call 8; (with_reducible refine (HF.out).mono ?_); rintro e w' ⟨rfl, rfl⟩) | (go_at_call 9; (with_reducible refine (calls_ctxH (by assumption) (kawake_any _)).mono ?_); rintro e w' ⟨rfl, hc⟩; obtain ⟨q0, q1, q2, q3, q4, q5⟩ := boxes_keep (by assumption) (by assumption) hc; (try obtain ⟨j0, j1⟩ := last_two hc); have HC' := Lib.hid hc; clear hc) | (go_at_call 21; (with_reducible refine (there_ctx (by assumption)).mono ?_); rintro e w' ⟨he, hc⟩; (first | rw [TA.out] at he | rw [TB.out] at he | rw [TC.out] at he); subst he; obtain ⟨q0, q1, q2, q3, q4, q5⟩ := boxes_keep (by assumption) (by assumption) hc; (try obtain ⟨j0, j1⟩ := last_two hc); have HC' := Lib.hid hc; clear hc) | (go_at_call 14; (with_reducible refine (ksub_ctx (by assumption) (by assumption) (by assumption) (by assumption)).mono ?_); rintro e w' ⟨he, hc⟩; (first | rw [AB.out] at he | rw [BC.out] at he | rw [AC.out] at he | rw [AJ.out] at he | rw [BJ.out] at he | rw [JC.out] at he); subst he; obtain ⟨q0, q1, q2, q3, q4, q5⟩ := boxes_keep (by assumption) (by assumption) hc; (try obtain ⟨j0, j1⟩ := last_two hc); have HC' := Lib.hid hc; clear hc) | (go_at_call 16; (with_reducible refine (kjoin_ctx (by assumption) (by assumption) (by assumption) (by assumption)).mono ?_); rintro e w' ⟨he, hc⟩; rw [J1.out] at he; subst he; obtain ⟨q0, q1, q2, q3, q4, q5⟩ := boxes_keep (by assumption) (by assumption) hc; have HX1 := Lib.hid (boxes_new 24 (.int .i64 x) (.int .i64 y) (boxes_keep (by assumption) (by assumption) hc) (by have := hc.size; have := HN.out; omega)); have HS1 := Lib.hid ((HS.out.below_to hc HB.out).below_to ((Below.refl w'.heap.size w').alloc (Nat.le_refl _) (.cells #[.int .i64 x, .int .i64 y] 24)) (Nat.le_trans HB.out hc.size)); have HB1 : Hid (w.heap.size ≤ (w'.alloc (.cells #[.int .i64 x, .int .i64 y] 24)).heap.size) := Lib.hid (by have := hc.size; have := HB.out; simp; omega); have HN1 : Hid (w.heap.size + 1 + 1 < (w'.alloc (.cells #[.int .i64 x, .int .i64 y] 24)).heap.size) := Lib.hid (by have := hc.size; have := HN.out; simp; omega); have HW1 := Lib.hid ((HW.out.trans (hc.mono HB.out)).alloc (Nat.le_trans HB.out hc.size) (.cells #[.int .i64 x, .int .i64 y] 24)); have HC1 : Hid (Below (w'.alloc (.cells #[.int .i64 x, .int .i64 y] 24)).heap.size (w'.alloc (.cells #[.int .i64 x, .int .i64 y] 24)) (w'.alloc (.cells #[.int .i64 x, .int .i64 y] 24))) := Lib.hid (Below.refl _ _); obtain ⟨p0, p1, p2, p3, p4, p5⟩ := HX1.out; clear hc))
            go_ret
            exact ⟨rfl, HW1.out.trans (Hid.out ‹Hid (Below _ _ _)› |>.mono HB1.out)⟩
      · have BC := Lib.hid (show subB sup' k' n' k'' n'' = false by simpa using hbc)
        clear hbc hac
        obtain ⟨hx, no⟩ | ⟨hx, haj, hbj, hall⟩ := LAT
        · obtain rfl : x = 0 := hx
          clear no
          by_cases hab : subB sup' k n k' n' = true
          · have AB := Lib.hid hab
            clear hab
            go_enter Try.func5, Try.ntmps5
            go_wp2_with (first | (go_at_call 8; (with_reducible refine (HF.out).mono ?_); rintro e w' ⟨rfl, rfl⟩) | (go_at_call 9; (with_reducible refine (calls_ctxH (by assumption) (kawake_any _)).mono ?_); rintro e w' ⟨rfl, hc⟩; obtain ⟨q0, q1, q2, q3, q4, q5⟩ := boxes_keep (by assumption) (by assumption) hc; (try obtain ⟨j0, j1⟩ := last_two hc); have HC' := Lib.hid hc; clear hc) | (go_at_call 21; (with_reducible refine (there_ctx (by assumption)).mono ?_); rintro e w' ⟨he, hc⟩; (first | rw [TA.out] at he | rw [TB.out] at he | rw [TC.out] at he); subst he; obtain ⟨q0, q1, q2, q3, q4, q5⟩ := boxes_keep (by assumption) (by assumption) hc; (try obtain ⟨j0, j1⟩ := last_two hc); have HC' := Lib.hid hc; clear hc) | (go_at_call 14; (with_reducible refine (ksub_ctx (by assumption) (by assumption) (by assumption) (by assumption)).mono ?_); rintro e w' ⟨he, hc⟩; (first | rw [AB.out] at he | rw [BC.out] at he | rw [AC.out] at he); subst he; obtain ⟨q0, q1, q2, q3, q4, q5⟩ := boxes_keep (by assumption) (by assumption) hc; (try obtain ⟨j0, j1⟩ := last_two hc); have HC' := Lib.hid hc; clear hc) | (go_at_call 16; (with_reducible refine (kjoin_ctx (by assumption) (by assumption) (by assumption) (by assumption)).mono ?_); rintro e w' ⟨he, hc⟩; rw [J1.out] at he; subst he; obtain ⟨q0, q1, q2, q3, q4, q5⟩ := boxes_keep (by assumption) (by assumption) hc; have HX1 := Lib.hid (boxes_new 24 (.int .i64 0) (.int .i64 y) (boxes_keep (by assumption) (by assumption) hc) (by have := hc.size; have := HN.out; omega)); have HS1 := Lib.hid ((HS.out.below_to hc HB.out).below_to ((Below.refl w'.heap.size w').alloc (Nat.le_refl _) (.cells #[.int .i64 0, .int .i64 y] 24)) (Nat.le_trans HB.out hc.size)); have HB1 : Hid (w.heap.size ≤ (w'.alloc (.cells #[.int .i64 0, .int .i64 y] 24)).heap.size) := Lib.hid (by have := hc.size; have := HB.out; simp; omega); have HN1 : Hid (w.heap.size + 1 + 1 < (w'.alloc (.cells #[.int .i64 0, .int .i64 y] 24)).heap.size) := Lib.hid (by have := hc.size; have := HN.out; simp; omega); have HW1 := Lib.hid ((HW.out.trans (hc.mono HB.out)).alloc (Nat.le_trans HB.out hc.size) (.cells #[.int .i64 0, .int .i64 y] 24)); have HC1 : Hid (Below (w'.alloc (.cells #[.int .i64 0, .int .i64 y] 24)).heap.size (w'.alloc (.cells #[.int .i64 0, .int .i64 y] 24)) (w'.alloc (.cells #[.int .i64 0, .int .i64 y] 24))) := Lib.hid (Below.refl _ _); obtain ⟨p0, p1, p2, p3, p4, p5⟩ := HX1.out; clear hc))
            go_ret
            exact ⟨rfl, HW1.out.trans (Hid.out ‹Hid (Below _ _ _)› |>.mono HB1.out)⟩
          · have AB := Lib.hid (show subB sup' k n k' n' = false by simpa using hab)
            clear hab
            go_enter Try.func5, Try.ntmps5
            go_wp2_with (first | (go_at_call 8; (with_reducible refine (HF.out).mono ?_); rintro e w' ⟨rfl, rfl⟩) | (go_at_call 9; (with_reducible refine (calls_ctxH (by assumption) (kawake_any _)).mono ?_); rintro e w' ⟨rfl, hc⟩; obtain ⟨q0, q1, q2, q3, q4, q5⟩ := boxes_keep (by assumption) (by assumption) hc; (try obtain ⟨j0, j1⟩ := last_two hc); have HC' := Lib.hid hc; clear hc) | (go_at_call 21; (with_reducible refine (there_ctx (by assumption)).mono ?_); rintro e w' ⟨he, hc⟩; (first | rw [TA.out] at he | rw [TB.out] at he | rw [TC.out] at he); subst he; obtain ⟨q0, q1, q2, q3, q4, q5⟩ := boxes_keep (by assumption) (by assumption) hc; (try obtain ⟨j0, j1⟩ := last_two hc); have HC' := Lib.hid hc; clear hc) | (go_at_call 14; (with_reducible refine (ksub_ctx (by assumption) (by assumption) (by assumption) (by assumption)).mono ?_); rintro e w' ⟨he, hc⟩; (first | rw [AB.out] at he | rw [BC.out] at he | rw [AC.out] at he); subst he; obtain ⟨q0, q1, q2, q3, q4, q5⟩ := boxes_keep (by assumption) (by assumption) hc; (try obtain ⟨j0, j1⟩ := last_two hc); have HC' := Lib.hid hc; clear hc) | (go_at_call 16; (with_reducible refine (kjoin_ctx (by assumption) (by assumption) (by assumption) (by assumption)).mono ?_); rintro e w' ⟨he, hc⟩; rw [J1.out] at he; subst he; obtain ⟨q0, q1, q2, q3, q4, q5⟩ := boxes_keep (by assumption) (by assumption) hc; have HX1 := Lib.hid (boxes_new 24 (.int .i64 0) (.int .i64 y) (boxes_keep (by assumption) (by assumption) hc) (by have := hc.size; have := HN.out; omega)); have HS1 := Lib.hid ((HS.out.below_to hc HB.out).below_to ((Below.refl w'.heap.size w').alloc (Nat.le_refl _) (.cells #[.int .i64 0, .int .i64 y] 24)) (Nat.le_trans HB.out hc.size)); have HB1 : Hid (w.heap.size ≤ (w'.alloc (.cells #[.int .i64 0, .int .i64 y] 24)).heap.size) := Lib.hid (by have := hc.size; have := HB.out; simp; omega); have HN1 : Hid (w.heap.size + 1 + 1 < (w'.alloc (.cells #[.int .i64 0, .int .i64 y] 24)).heap.size) := Lib.hid (by have := hc.size; have := HN.out; simp; omega); have HW1 := Lib.hid ((HW.out.trans (hc.mono HB.out)).alloc (Nat.le_trans HB.out hc.size) (.cells #[.int .i64 0, .int .i64 y] 24)); have HC1 : Hid (Below (w'.alloc (.cells #[.int .i64 0, .int .i64 y] 24)).heap.size (w'.alloc (.cells #[.int .i64 0, .int .i64 y] 24)) (w'.alloc (.cells #[.int .i64 0, .int .i64 y] 24))) := Lib.hid (Below.refl _ _); obtain ⟨p0, p1, p2, p3, p4, p5⟩ := HX1.out; clear hc))
            go_ret
            exact ⟨rfl, HW1.out.trans (Hid.out ‹Hid (Below _ _ _)› |>.mono HB1.out)⟩
        · have AJ := Lib.hid haj
          have BJ := Lib.hid hbj
          have hx' : ¬ x = 0 := hx
          clear hx haj hbj hall
          by_cases hab : subB sup' k n k' n' = true
          · have AB := Lib.hid hab
            clear hab
            go_enter Try.func5, Try.ntmps5
            go_wp2_with (first | (go_at_call 8; (with_reducible refine (HF.out).mono ?_); rintro e w' ⟨rfl, rfl⟩) | (go_at_call 9; (with_reducible refine (calls_ctxH (by assumption) (kawake_any _)).mono ?_); rintro e w' ⟨rfl, hc⟩; obtain ⟨q0, q1, q2, q3, q4, q5⟩ := boxes_keep (by assumption) (by assumption) hc; (try obtain ⟨j0, j1⟩ := last_two hc); have HC' := Lib.hid hc; clear hc) | (go_at_call 21; (with_reducible refine (there_ctx (by assumption)).mono ?_); rintro e w' ⟨he, hc⟩; (first | rw [TA.out] at he | rw [TB.out] at he | rw [TC.out] at he); subst he; obtain ⟨q0, q1, q2, q3, q4, q5⟩ := boxes_keep (by assumption) (by assumption) hc; (try obtain ⟨j0, j1⟩ := last_two hc); have HC' := Lib.hid hc; clear hc) | (go_at_call 14; (with_reducible refine (ksub_ctx (by assumption) (by assumption) (by assumption) (by assumption)).mono ?_); rintro e w' ⟨he, hc⟩; (first | rw [AB.out] at he | rw [BC.out] at he | rw [AC.out] at he | rw [AJ.out] at he | rw [BJ.out] at he); subst he; obtain ⟨q0, q1, q2, q3, q4, q5⟩ := boxes_keep (by assumption) (by assumption) hc; (try obtain ⟨j0, j1⟩ := last_two hc); have HC' := Lib.hid hc; clear hc) | (go_at_call 16; (with_reducible refine (kjoin_ctx (by assumption) (by assumption) (by assumption) (by assumption)).mono ?_); rintro e w' ⟨he, hc⟩; rw [J1.out] at he; subst he; obtain ⟨q0, q1, q2, q3, q4, q5⟩ := boxes_keep (by assumption) (by assumption) hc; have HX1 := Lib.hid (boxes_new 24 (.int .i64 x) (.int .i64 y) (boxes_keep (by assumption) (by assumption) hc) (by have := hc.size; have := HN.out; omega)); have HS1 := Lib.hid ((HS.out.below_to hc HB.out).below_to ((Below.refl w'.heap.size w').alloc (Nat.le_refl _) (.cells #[.int .i64 x, .int .i64 y] 24)) (Nat.le_trans HB.out hc.size)); have HB1 : Hid (w.heap.size ≤ (w'.alloc (.cells #[.int .i64 x, .int .i64 y] 24)).heap.size) := Lib.hid (by have := hc.size; have := HB.out; simp; omega); have HN1 : Hid (w.heap.size + 1 + 1 < (w'.alloc (.cells #[.int .i64 x, .int .i64 y] 24)).heap.size) := Lib.hid (by have := hc.size; have := HN.out; simp; omega); have HW1 := Lib.hid ((HW.out.trans (hc.mono HB.out)).alloc (Nat.le_trans HB.out hc.size) (.cells #[.int .i64 x, .int .i64 y] 24)); have HC1 : Hid (Below (w'.alloc (.cells #[.int .i64 x, .int .i64 y] 24)).heap.size (w'.alloc (.cells #[.int .i64 x, .int .i64 y] 24)) (w'.alloc (.cells #[.int .i64 x, .int .i64 y] 24))) := Lib.hid (Below.refl _ _); obtain ⟨p0, p1, p2, p3, p4, p5⟩ := HX1.out; clear hc))
            go_ret
            exact ⟨rfl, HW1.out.trans (Hid.out ‹Hid (Below _ _ _)› |>.mono HB1.out)⟩
          · have AB := Lib.hid (show subB sup' k n k' n' = false by simpa using hab)
            clear hab
            go_enter Try.func5, Try.ntmps5
            go_wp2_with (first | (go_at_call 8; (with_reducible refine (HF.out).mono ?_); rintro e w' ⟨rfl, rfl⟩) | (go_at_call 9; (with_reducible refine (calls_ctxH (by assumption) (kawake_any _)).mono ?_); rintro e w' ⟨rfl, hc⟩; obtain ⟨q0, q1, q2, q3, q4, q5⟩ := boxes_keep (by assumption) (by assumption) hc; (try obtain ⟨j0, j1⟩ := last_two hc); have HC' := Lib.hid hc; clear hc) | (go_at_call 21; (with_reducible refine (there_ctx (by assumption)).mono ?_); rintro e w' ⟨he, hc⟩; (first | rw [TA.out] at he | rw [TB.out] at he | rw [TC.out] at he); subst he; obtain ⟨q0, q1, q2, q3, q4, q5⟩ := boxes_keep (by assumption) (by assumption) hc; (try obtain ⟨j0, j1⟩ := last_two hc); have HC' := Lib.hid hc; clear hc) | (go_at_call 14; (with_reducible refine (ksub_ctx (by assumption) (by assumption) (by assumption) (by assumption)).mono ?_); rintro e w' ⟨he, hc⟩; (first | rw [AB.out] at he | rw [BC.out] at he | rw [AC.out] at he | rw [AJ.out] at he | rw [BJ.out] at he); subst he; obtain ⟨q0, q1, q2, q3, q4, q5⟩ := boxes_keep (by assumption) (by assumption) hc; (try obtain ⟨j0, j1⟩ := last_two hc); have HC' := Lib.hid hc; clear hc) | (go_at_call 16; (with_reducible refine (kjoin_ctx (by assumption) (by assumption) (by assumption) (by assumption)).mono ?_); rintro e w' ⟨he, hc⟩; rw [J1.out] at he; subst he; obtain ⟨q0, q1, q2, q3, q4, q5⟩ := boxes_keep (by assumption) (by assumption) hc; have HX1 := Lib.hid (boxes_new 24 (.int .i64 x) (.int .i64 y) (boxes_keep (by assumption) (by assumption) hc) (by have := hc.size; have := HN.out; omega)); have HS1 := Lib.hid ((HS.out.below_to hc HB.out).below_to ((Below.refl w'.heap.size w').alloc (Nat.le_refl _) (.cells #[.int .i64 x, .int .i64 y] 24)) (Nat.le_trans HB.out hc.size)); have HB1 : Hid (w.heap.size ≤ (w'.alloc (.cells #[.int .i64 x, .int .i64 y] 24)).heap.size) := Lib.hid (by have := hc.size; have := HB.out; simp; omega); have HN1 : Hid (w.heap.size + 1 + 1 < (w'.alloc (.cells #[.int .i64 x, .int .i64 y] 24)).heap.size) := Lib.hid (by have := hc.size; have := HN.out; simp; omega); have HW1 := Lib.hid ((HW.out.trans (hc.mono HB.out)).alloc (Nat.le_trans HB.out hc.size) (.cells #[.int .i64 x, .int .i64 y] 24)); have HC1 : Hid (Below (w'.alloc (.cells #[.int .i64 x, .int .i64 y] 24)).heap.size (w'.alloc (.cells #[.int .i64 x, .int .i64 y] 24)) (w'.alloc (.cells #[.int .i64 x, .int .i64 y] 24))) := Lib.hid (Below.refl _ _); obtain ⟨p0, p1, p2, p3, p4, p5⟩ := HX1.out; clear hc))
            go_ret
            exact ⟨rfl, HW1.out.trans (Hid.out ‹Hid (Below _ _ _)› |>.mono HB1.out)⟩
    · have AC := Lib.hid (show subB sup' k n k'' n'' = false by simpa using hac)
      have hnt : ¬ (subB sup' k n k' n' = true ∧ subB sup' k' n' k'' n'' = true) := fun g => hac (sub_trans' g.1 g.2)
      clear hac
      by_cases hab : subB sup' k n k' n' = true
      · have AB := Lib.hid hab
        have BC := Lib.hid (show subB sup' k' n' k'' n'' = false by cases e : subB sup' k' n' k'' n'' <;> simp_all)
        clear hab hnt
        obtain ⟨hx, no⟩ | ⟨hx, haj, hbj, hall⟩ := LAT
        · obtain rfl : x = 0 := hx
          clear no
          go_enter Try.func5, Try.ntmps5
          go_wp2_with (first | (go_at_call 8; (with_reducible refine (HF.out).mono ?_); rintro e w' ⟨rfl, rfl⟩) | (go_at_call 9; (with_reducible refine (calls_ctxH (by assumption) (kawake_any _)).mono ?_); rintro e w' ⟨rfl, hc⟩; obtain ⟨q0, q1, q2, q3, q4, q5⟩ := boxes_keep (by assumption) (by assumption) hc; (try obtain ⟨j0, j1⟩ := last_two hc); have HC' := Lib.hid hc; clear hc) | (go_at_call 21; (with_reducible refine (there_ctx (by assumption)).mono ?_); rintro e w' ⟨he, hc⟩; (first | rw [TA.out] at he | rw [TB.out] at he | rw [TC.out] at he); subst he; obtain ⟨q0, q1, q2, q3, q4, q5⟩ := boxes_keep (by assumption) (by assumption) hc; (try obtain ⟨j0, j1⟩ := last_two hc); have HC' := Lib.hid hc; clear hc) | (go_at_call 14; (with_reducible refine (ksub_ctx (by assumption) (by assumption) (by assumption) (by assumption)).mono ?_); rintro e w' ⟨he, hc⟩; (first | rw [AB.out] at he | rw [BC.out] at he | rw [AC.out] at he); subst he; obtain ⟨q0, q1, q2, q3, q4, q5⟩ := boxes_keep (by assumption) (by assumption) hc; (try obtain ⟨j0, j1⟩ := last_two hc); have HC' := Lib.hid hc; clear hc) | (go_at_call 16; (with_reducible refine (kjoin_ctx (by assumption) (by assumption) (by assumption) (by assumption)).mono ?_); rintro e w' ⟨he, hc⟩; rw [J1.out] at he; subst he; obtain ⟨q0, q1, q2, q3, q4, q5⟩ := boxes_keep (by assumption) (by assumption) hc; have HX1 := Lib.hid (boxes_new 24 (.int .i64 0) (.int .i64 y) (boxes_keep (by assumption) (by assumption) hc) (by have := hc.size; have := HN.out; omega)); have HS1 := Lib.hid ((HS.out.below_to hc HB.out).below_to ((Below.refl w'.heap.size w').alloc (Nat.le_refl _) (.cells #[.int .i64 0, .int .i64 y] 24)) (Nat.le_trans HB.out hc.size)); have HB1 : Hid (w.heap.size ≤ (w'.alloc (.cells #[.int .i64 0, .int .i64 y] 24)).heap.size) := Lib.hid (by have := hc.size; have := HB.out; simp; omega); have HN1 : Hid (w.heap.size + 1 + 1 < (w'.alloc (.cells #[.int .i64 0, .int .i64 y] 24)).heap.size) := Lib.hid (by have := hc.size; have := HN.out; simp; omega); have HW1 := Lib.hid ((HW.out.trans (hc.mono HB.out)).alloc (Nat.le_trans HB.out hc.size) (.cells #[.int .i64 0, .int .i64 y] 24)); have HC1 : Hid (Below (w'.alloc (.cells #[.int .i64 0, .int .i64 y] 24)).heap.size (w'.alloc (.cells #[.int .i64 0, .int .i64 y] 24)) (w'.alloc (.cells #[.int .i64 0, .int .i64 y] 24))) := Lib.hid (Below.refl _ _); obtain ⟨p0, p1, p2, p3, p4, p5⟩ := HX1.out; clear hc))
          go_ret
          exact ⟨rfl, HW1.out.trans (Hid.out ‹Hid (Below _ _ _)› |>.mono HB1.out)⟩
        · have AJ := Lib.hid haj
          have BJ := Lib.hid hbj
          have hx' : ¬ x = 0 := hx
          clear hx haj hbj hall
          go_enter Try.func5, Try.ntmps5
          go_wp2_with (first | (go_at_call 8; (with_reducible refine (HF.out).mono ?_); rintro e w' ⟨rfl, rfl⟩) | (go_at_call 9; (with_reducible refine (calls_ctxH (by assumption) (kawake_any _)).mono ?_); rintro e w' ⟨rfl, hc⟩; obtain ⟨q0, q1, q2, q3, q4, q5⟩ := boxes_keep (by assumption) (by assumption) hc; (try obtain ⟨j0, j1⟩ := last_two hc); have HC' := Lib.hid hc; clear hc) | (go_at_call 21; (with_reducible refine (there_ctx (by assumption)).mono ?_); rintro e w' ⟨he, hc⟩; (first | rw [TA.out] at he | rw [TB.out] at he | rw [TC.out] at he); subst he; obtain ⟨q0, q1, q2, q3, q4, q5⟩ := boxes_keep (by assumption) (by assumption) hc; (try obtain ⟨j0, j1⟩ := last_two hc); have HC' := Lib.hid hc; clear hc) | (go_at_call 14; (with_reducible refine (ksub_ctx (by assumption) (by assumption) (by assumption) (by assumption)).mono ?_); rintro e w' ⟨he, hc⟩; (first | rw [AB.out] at he | rw [BC.out] at he | rw [AC.out] at he | rw [AJ.out] at he | rw [BJ.out] at he); subst he; obtain ⟨q0, q1, q2, q3, q4, q5⟩ := boxes_keep (by assumption) (by assumption) hc; (try obtain ⟨j0, j1⟩ := last_two hc); have HC' := Lib.hid hc; clear hc) | (go_at_call 16; (with_reducible refine (kjoin_ctx (by assumption) (by assumption) (by assumption) (by assumption)).mono ?_); rintro e w' ⟨he, hc⟩; rw [J1.out] at he; subst he; obtain ⟨q0, q1, q2, q3, q4, q5⟩ := boxes_keep (by assumption) (by assumption) hc; have HX1 := Lib.hid (boxes_new 24 (.int .i64 x) (.int .i64 y) (boxes_keep (by assumption) (by assumption) hc) (by have := hc.size; have := HN.out; omega)); have HS1 := Lib.hid ((HS.out.below_to hc HB.out).below_to ((Below.refl w'.heap.size w').alloc (Nat.le_refl _) (.cells #[.int .i64 x, .int .i64 y] 24)) (Nat.le_trans HB.out hc.size)); have HB1 : Hid (w.heap.size ≤ (w'.alloc (.cells #[.int .i64 x, .int .i64 y] 24)).heap.size) := Lib.hid (by have := hc.size; have := HB.out; simp; omega); have HN1 : Hid (w.heap.size + 1 + 1 < (w'.alloc (.cells #[.int .i64 x, .int .i64 y] 24)).heap.size) := Lib.hid (by have := hc.size; have := HN.out; simp; omega); have HW1 := Lib.hid ((HW.out.trans (hc.mono HB.out)).alloc (Nat.le_trans HB.out hc.size) (.cells #[.int .i64 x, .int .i64 y] 24)); have HC1 : Hid (Below (w'.alloc (.cells #[.int .i64 x, .int .i64 y] 24)).heap.size (w'.alloc (.cells #[.int .i64 x, .int .i64 y] 24)) (w'.alloc (.cells #[.int .i64 x, .int .i64 y] 24))) := Lib.hid (Below.refl _ _); obtain ⟨p0, p1, p2, p3, p4, p5⟩ := HX1.out; clear hc))
          go_ret
          exact ⟨rfl, HW1.out.trans (Hid.out ‹Hid (Below _ _ _)› |>.mono HB1.out)⟩
      · have AB := Lib.hid (show subB sup' k n k' n' = false by simpa using hab)
        clear hab hnt
        obtain ⟨hx, no⟩ | ⟨hx, haj, hbj, hall⟩ := LAT
        · obtain rfl : x = 0 := hx
          clear no
          go_enter Try.func5, Try.ntmps5
          go_wp2_with (first | (go_at_call 8; (with_reducible refine (HF.out).mono ?_); rintro e w' ⟨rfl, rfl⟩) | (go_at_call 9; (with_reducible refine (calls_ctxH (by assumption) (kawake_any _)).mono ?_); rintro e w' ⟨rfl, hc⟩; obtain ⟨q0, q1, q2, q3, q4, q5⟩ := boxes_keep (by assumption) (by assumption) hc; (try obtain ⟨j0, j1⟩ := last_two hc); have HC' := Lib.hid hc; clear hc) | (go_at_call 21; (with_reducible refine (there_ctx (by assumption)).mono ?_); rintro e w' ⟨he, hc⟩; (first | rw [TA.out] at he | rw [TB.out] at he | rw [TC.out] at he); subst he; obtain ⟨q0, q1, q2, q3, q4, q5⟩ := boxes_keep (by assumption) (by assumption) hc; (try obtain ⟨j0, j1⟩ := last_two hc); have HC' := Lib.hid hc; clear hc) | (go_at_call 14; (with_reducible refine (ksub_ctx (by assumption) (by assumption) (by assumption) (by assumption)).mono ?_); rintro e w' ⟨he, hc⟩; (first | rw [AB.out] at he | rw [AC.out] at he); subst he; obtain ⟨q0, q1, q2, q3, q4, q5⟩ := boxes_keep (by assumption) (by assumption) hc; (try obtain ⟨j0, j1⟩ := last_two hc); have HC' := Lib.hid hc; clear hc) | (go_at_call 16; (with_reducible refine (kjoin_ctx (by assumption) (by assumption) (by assumption) (by assumption)).mono ?_); rintro e w' ⟨he, hc⟩; rw [J1.out] at he; subst he; obtain ⟨q0, q1, q2, q3, q4, q5⟩ := boxes_keep (by assumption) (by assumption) hc; have HX1 := Lib.hid (boxes_new 24 (.int .i64 0) (.int .i64 y) (boxes_keep (by assumption) (by assumption) hc) (by have := hc.size; have := HN.out; omega)); have HS1 := Lib.hid ((HS.out.below_to hc HB.out).below_to ((Below.refl w'.heap.size w').alloc (Nat.le_refl _) (.cells #[.int .i64 0, .int .i64 y] 24)) (Nat.le_trans HB.out hc.size)); have HB1 : Hid (w.heap.size ≤ (w'.alloc (.cells #[.int .i64 0, .int .i64 y] 24)).heap.size) := Lib.hid (by have := hc.size; have := HB.out; simp; omega); have HN1 : Hid (w.heap.size + 1 + 1 < (w'.alloc (.cells #[.int .i64 0, .int .i64 y] 24)).heap.size) := Lib.hid (by have := hc.size; have := HN.out; simp; omega); have HW1 := Lib.hid ((HW.out.trans (hc.mono HB.out)).alloc (Nat.le_trans HB.out hc.size) (.cells #[.int .i64 0, .int .i64 y] 24)); have HC1 : Hid (Below (w'.alloc (.cells #[.int .i64 0, .int .i64 y] 24)).heap.size (w'.alloc (.cells #[.int .i64 0, .int .i64 y] 24)) (w'.alloc (.cells #[.int .i64 0, .int .i64 y] 24))) := Lib.hid (Below.refl _ _); obtain ⟨p0, p1, p2, p3, p4, p5⟩ := HX1.out; clear hc))
          go_ret
          exact ⟨rfl, HW1.out.trans (Hid.out ‹Hid (Below _ _ _)› |>.mono HB1.out)⟩
        · have AJ := Lib.hid haj
          have BJ := Lib.hid hbj
          have hx' : ¬ x = 0 := hx
          clear hx haj hbj hall
          go_enter Try.func5, Try.ntmps5
          go_wp2_with (first | (go_at_call 8; (with_reducible refine (HF.out).mono ?_); rintro e w' ⟨rfl, rfl⟩) | (go_at_call 9; (with_reducible refine (calls_ctxH (by assumption) (kawake_any _)).mono ?_); rintro e w' ⟨rfl, hc⟩; obtain ⟨q0, q1, q2, q3, q4, q5⟩ := boxes_keep (by assumption) (by assumption) hc; (try obtain ⟨j0, j1⟩ := last_two hc); have HC' := Lib.hid hc; clear hc) | (go_at_call 21; (with_reducible refine (there_ctx (by assumption)).mono ?_); rintro e w' ⟨he, hc⟩; (first | rw [TA.out] at he | rw [TB.out] at he | rw [TC.out] at he); subst he; obtain ⟨q0, q1, q2, q3, q4, q5⟩ := boxes_keep (by assumption) (by assumption) hc; (try obtain ⟨j0, j1⟩ := last_two hc); have HC' := Lib.hid hc; clear hc) | (go_at_call 14; (with_reducible refine (ksub_ctx (by assumption) (by assumption) (by assumption) (by assumption)).mono ?_); rintro e w' ⟨he, hc⟩; (first | rw [AB.out] at he | rw [AC.out] at he | rw [AJ.out] at he | rw [BJ.out] at he); subst he; obtain ⟨q0, q1, q2, q3, q4, q5⟩ := boxes_keep (by assumption) (by assumption) hc; (try obtain ⟨j0, j1⟩ := last_two hc); have HC' := Lib.hid hc; clear hc) | (go_at_call 16; (with_reducible refine (kjoin_ctx (by assumption) (by assumption) (by assumption) (by assumption)).mono ?_); rintro e w' ⟨he, hc⟩; rw [J1.out] at he; subst he; obtain ⟨q0, q1, q2, q3, q4, q5⟩ := boxes_keep (by assumption) (by assumption) hc; have HX1 := Lib.hid (boxes_new 24 (.int .i64 x) (.int .i64 y) (boxes_keep (by assumption) (by assumption) hc) (by have := hc.size; have := HN.out; omega)); have HS1 := Lib.hid ((HS.out.below_to hc HB.out).below_to ((Below.refl w'.heap.size w').alloc (Nat.le_refl _) (.cells #[.int .i64 x, .int .i64 y] 24)) (Nat.le_trans HB.out hc.size)); have HB1 : Hid (w.heap.size ≤ (w'.alloc (.cells #[.int .i64 x, .int .i64 y] 24)).heap.size) := Lib.hid (by have := hc.size; have := HB.out; simp; omega); have HN1 : Hid (w.heap.size + 1 + 1 < (w'.alloc (.cells #[.int .i64 x, .int .i64 y] 24)).heap.size) := Lib.hid (by have := hc.size; have := HN.out; simp; omega); have HW1 := Lib.hid ((HW.out.trans (hc.mono HB.out)).alloc (Nat.le_trans HB.out hc.size) (.cells #[.int .i64 x, .int .i64 y] 24)); have HC1 : Hid (Below (w'.alloc (.cells #[.int .i64 x, .int .i64 y] 24)).heap.size (w'.alloc (.cells #[.int .i64 x, .int .i64 y] 24)) (w'.alloc (.cells #[.int .i64 x, .int .i64 y] 24))) := Lib.hid (Below.refl _ _); obtain ⟨p0, p1, p2, p3, p4, p5⟩ := HX1.out; clear hc))
          go_ret
          exact ⟨rfl, HW1.out.trans (Hid.out ‹Hid (Below _ _ _)› |>.mono HB1.out)⟩
  · by_cases h1 : thereP sup' k n
    · have TA := Lib.hid (show thereB sup'.length k n = true from decide_eq_true h1)
      by_cases h2 : thereP sup' k' n'
      · have TB := Lib.hid (show thereB sup'.length k' n' = true from decide_eq_true h2)
        have TC := Lib.hid (show thereB sup'.length k'' n'' = false from decide_eq_false (fun h3 => ht ⟨h1, h2, h3⟩))
        clear ht h1 h2
        go_enter Try.func5, Try.ntmps5
        go_wp2_with (first | (go_at_call 8; (with_reducible refine (HF.out).mono ?_); rintro e w' ⟨rfl, rfl⟩) | (go_at_call 9; (with_reducible refine (calls_ctxH (by assumption) (kawake_any _)).mono ?_); rintro e w' ⟨rfl, hc⟩; obtain ⟨q0, q1, q2, q3, q4, q5⟩ := boxes_keep (by assumption) (by assumption) hc; (try obtain ⟨j0, j1⟩ := last_two hc); have HC' := Lib.hid hc; clear hc) | (go_at_call 21; (with_reducible refine (there_ctx (by assumption)).mono ?_); rintro e w' ⟨he, hc⟩; (first | rw [TA.out] at he | rw [TB.out] at he | rw [TC.out] at he); subst he; obtain ⟨q0, q1, q2, q3, q4, q5⟩ := boxes_keep (by assumption) (by assumption) hc; (try obtain ⟨j0, j1⟩ := last_two hc); have HC' := Lib.hid hc; clear hc))
        go_ret
        exact ⟨rfl, HW.out.trans (Hid.out ‹Hid (Below _ _ _)› |>.mono HB.out)⟩
      · have TB := Lib.hid (show thereB sup'.length k' n' = false from decide_eq_false h2)
        clear ht h1 h2
        go_enter Try.func5, Try.ntmps5
        go_wp2_with (first | (go_at_call 8; (with_reducible refine (HF.out).mono ?_); rintro e w' ⟨rfl, rfl⟩) | (go_at_call 9; (with_reducible refine (calls_ctxH (by assumption) (kawake_any _)).mono ?_); rintro e w' ⟨rfl, hc⟩; obtain ⟨q0, q1, q2, q3, q4, q5⟩ := boxes_keep (by assumption) (by assumption) hc; (try obtain ⟨j0, j1⟩ := last_two hc); have HC' := Lib.hid hc; clear hc) | (go_at_call 21; (with_reducible refine (there_ctx (by assumption)).mono ?_); rintro e w' ⟨he, hc⟩; (first | rw [TA.out] at he | rw [TB.out] at he); subst he; obtain ⟨q0, q1, q2, q3, q4, q5⟩ := boxes_keep (by assumption) (by assumption) hc; (try obtain ⟨j0, j1⟩ := last_two hc); have HC' := Lib.hid hc; clear hc))
        go_ret
        exact ⟨rfl, HW.out.trans (Hid.out ‹Hid (Below _ _ _)› |>.mono HB.out)⟩
    · have TA := Lib.hid (show thereB sup'.length k n = false from decide_eq_false h1)
      clear ht h1
      go_enter Try.func5, Try.ntmps5
      go_wp2_with (first | (go_at_call 8; (with_reducible refine (HF.out).mono ?_); rintro e w' ⟨rfl, rfl⟩) | (go_at_call 9; (with_reducible refine (calls_ctxH (by assumption) (kawake_any _)).mono ?_); rintro e w' ⟨rfl, hc⟩; obtain ⟨q0, q1, q2, q3, q4, q5⟩ := boxes_keep (by assumption) (by assumption) hc; (try obtain ⟨j0, j1⟩ := last_two hc); have HC' := Lib.hid hc; clear hc) | (go_at_call 21; (with_reducible refine (there_ctx (by assumption)).mono ?_); rintro e w' ⟨he, hc⟩; (first | rw [TA.out] at he); subst he; obtain ⟨q0, q1, q2, q3, q4, q5⟩ := boxes_keep (by assumption) (by assumption) hc; (try obtain ⟨j0, j1⟩ := last_two hc); have HC' := Lib.hid hc; clear hc))
      go_ret
      exact ⟨rfl, HW.out.trans (Hid.out ‹Hid (Below _ _ _)› |>.mono HB.out)⟩
end Go.Proofs.Ytkfhpbedllcecaa
