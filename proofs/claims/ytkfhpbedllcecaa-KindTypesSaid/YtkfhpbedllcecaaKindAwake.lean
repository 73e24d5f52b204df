/-
  The fixed fact of the statements on types (awake) is true, whatever the world; it makes new memory alone.
-/
import Derived.Test.YtkfhpbedllcecaaKindCtx
namespace Go.Proofs.Ytkfhpbedllcecaa
open Go.ChangeShapes Go.WideShapes Go.ChangeAt Go.RowKit
set_option linter.unusedVariables false

abbrev ksup : List Int := [-1, 0, 0]
theorem kab0 : aboveI ksup 0 = [0] := by
  show (if (0 : Int) ≤ 0 then aboveOf ksup 0 else []) = _
  rw [if_pos (by decide), aboveOf_some (s := -1) rfl]; rfl
theorem kab1 : aboveI ksup 1 = [1, 0] := by
  show (if (0 : Int) ≤ 1 then aboveOf ksup 1 else []) = _
  rw [if_pos (by decide), aboveOf_some (s := 0) rfl, if_pos (by decide), kab0]; rfl
theorem kab2 : aboveI ksup 2 = [2, 0] := by
  show (if (0 : Int) ≤ 2 then aboveOf ksup 2 else []) = _
  rw [if_pos (by decide), aboveOf_some (s := 0) rfl, if_pos (by decide), kab0]; rfl
theorem kjoin_k : joinR ksup 3 1 3 2 = (3, 0) := by
  simp [joinR, subB, kab1, kab2, inB, firstIn]
theorem kb20 : inB (aboveI ksup 2) 0 = true := by rw [kab2]; decide
theorem kb02 : inB (aboveI ksup 0) 2 = false := by rw [kab0]; decide
theorem ksub_k : subB ksup 4 0 2 0 = true := by decide
theorem kgood_k : goodB 3 2 3 = true := by decide
theorem kisref_k : isRefB 2 = true := by decide
theorem kisref_k3 : isRefB 3 = true := by decide

theorem ksup_lies (w : World) (x y x' y' x'' y'' : Value) (T : TypeId) : Supers (w.alloc (.cells #[.int .i64 (-1), x, y, .int .i64 0, x', y', .int .i64 0, x'', y''] T)) (w.heap.size + 1) (some ⟨w.heap.size, 0, none⟩) ksup := by
  intro i s hs
  match i, hs with
  | 0, hs => cases hs; exact ⟨_, rfl, by simp, by simp [Addr.add]⟩
  | 1, hs => cases hs; exact ⟨_, rfl, by simp, by simp [Addr.add]⟩
  | 2, hs => cases hs; exact ⟨_, rfl, by simp, by simp [Addr.add]⟩

section
variable {a : Addr} {B : Nat} {w0 w : World}
theorem kbelow_k20 (HS : Hid (Supers w0 B (some a) ksup)) (HB : Hid (B ≤ w0.heap.size)) (HC : Hid (Below w0.heap.size w0 w)) :
    Calls Try.prog 18 #[.slice (some a) 3 3, .int .i64 2, .int .i64 0] w fun e w' => e = .returned (.bool true) ∧ Below w0.heap.size w0 w' := by
  have h := kbelow_ctx (a := 2) (b := 0) (cap := 3) HS HB (Lib.hid (by decide)) HC
  rw [kb20] at h
  exact h
theorem kbelow_k02 (HS : Hid (Supers w0 B (some a) ksup)) (HB : Hid (B ≤ w0.heap.size)) (HC : Hid (Below w0.heap.size w0 w)) :
    Calls Try.prog 18 #[.slice (some a) 3 3, .int .i64 0, .int .i64 2] w fun e w' => e = .returned (.bool false) ∧ Below w0.heap.size w0 w' := by
  have h := kbelow_ctx (a := 0) (b := 2) (cap := 3) HS HB (Lib.hid (by decide)) HC
  rw [kb02] at h
  exact h
theorem ksub_k42 (HS : Hid (Supers w0 B (some a) ksup)) (HB : Hid (B ≤ w0.heap.size)) (HC : Hid (Below w0.heap.size w0 w)) :
    Calls Try.prog 14 #[.slice (some a) 3 3, tyV 4 0, tyV 2 0] w fun e w' => e = .returned (.bool true) ∧ Below w0.heap.size w0 w' := by
  have h := ksub_ctx (k := 4) (n := 0) (k' := 2) (n' := 0) (cap := 3) HS HB (Lib.hid (by decide)) HC
  rw [ksub_k] at h
  exact h
theorem kgood_k32 (HC : Hid (Below w0.heap.size w0 w)) : Calls Try.prog 10 #[tyV 3 2, .int .i64 3] w fun e w' => e = .returned (.bool true) ∧ Below w0.heap.size w0 w' := by
  have h := kgood_ctx (k := 3) (n := 2) (c := 3) HC
  rw [kgood_k] at h
  exact h
theorem kisref_k20 (HC : Hid (Below w0.heap.size w0 w)) : Calls Try.prog 12 #[tyV 2 0] w fun e w' => e = .returned (.bool true) ∧ Below w0.heap.size w0 w' := by
  have h := kisref_ctx (k := 2) (n := 0) HC
  rw [kisref_k] at h
  exact h
theorem risref_k30 (HC : Hid (Below w0.heap.size w0 w)) : Calls Try.prog 13 #[tyV 3 0] w fun e w' => e = .returned (.bool true) ∧ Below w0.heap.size w0 w' := by
  have h := risref_ctx (k := 3) (n := 0) HC
  rw [kisref_k3] at h
  exact h
end

/-- The cells of a struct of two, the newest block, behind whatever leaves it alone. -/
theorem last_two {w w' : World} {x y : Value} {T : TypeId} (hb : Below (w.alloc (.cells #[x, y] T)).heap.size (w.alloc (.cells #[x, y] T)) w') :
    w'.cell? ⟨w.heap.size, 0, none⟩ = some x ∧ w'.cell? ⟨w.heap.size, 1, none⟩ = some y := by
  refine ⟨(hb.cell (by simp)).trans ?_, (hb.cell (by simp)).trans ?_⟩
  · rw [World.cell?_alloc_at _ _ _ _ rfl]; rfl
  · rw [World.cell?_alloc_at _ _ _ _ rfl]; rfl

theorem kawake_any (w : World) : Calls Try.prog 9 #[] w fun e w' => e = .returned (.bool true) ∧ Below w.heap.size w w' := by
  go_enter Try.func9, Try.ntmps9
  go_wp2_with fail
  refine ((kjoin_any ksup 3 1 3 2 _ 3 (w.heap.size + 1) _ (by decide) (by simp) (ksup_lies w _ _ _ _ _ _ _)).mono ?_)
  rintro e w1 ⟨rfl, hb⟩
  rw [kjoin_k]
  have HS := Lib.hid ((ksup_lies w _ _ _ _ _ _ _).below_to hb (by simp))
  have HW := Lib.hid (((Below.refl w.heap.size w).alloc (Nat.le_refl _) _).trans (hb.mono (by simp)))
  have hz : w.heap.size < w1.heap.size := by have := hb.size; simp at this; omega
  clear hb
  have HS1 : Hid (Supers (w1.alloc (.cells #[.int .i64 3, .int .i64 0] 24)) (w.heap.size + 1) (some ⟨w.heap.size, 0, none⟩) ksup) := Lib.hid (HS.out.below_to ((Below.refl w1.heap.size w1).alloc (Nat.le_refl _) _) hz)
  have HB : Hid (w.heap.size + 1 ≤ (w1.alloc (.cells #[.int .i64 3, .int .i64 0] 24)).heap.size) := Lib.hid (by simp; omega)
  have HL : Hid (ksup.length ≤ 1048576) := Lib.hid (by decide)
  have HC : Hid (Below (w1.alloc (.cells #[.int .i64 3, .int .i64 0] 24)).heap.size (w1.alloc (.cells #[.int .i64 3, .int .i64 0] 24)) (w1.alloc (.cells #[.int .i64 3, .int .i64 0] 24))) := Lib.hid (Below.refl _ _)
  clear hz
  go_wp2_with (first | (go_at_call 18; (with_reducible refine (kbelow_k20 (by assumption) (by assumption) (by assumption)).mono ?_); rintro e w' ⟨rfl, hc⟩; obtain ⟨q0, q1⟩ := last_two hc; have HC' := Lib.hid hc; clear hc) | (go_at_call 18; (with_reducible refine (kbelow_k02 (by assumption) (by assumption) (by assumption)).mono ?_); rintro e w' ⟨rfl, hc⟩; obtain ⟨q0, q1⟩ := last_two hc; have HC' := Lib.hid hc; clear hc) | (go_at_call 14; (with_reducible refine (ksub_k42 (by assumption) (by assumption) (by assumption)).mono ?_); rintro e w' ⟨rfl, hc⟩; obtain ⟨q0, q1⟩ := last_two hc; have HC' := Lib.hid hc; clear hc) | (go_at_call 10; (with_reducible refine (kgood_k32 (by assumption)).mono ?_); rintro e w' ⟨rfl, hc⟩; obtain ⟨q0, q1⟩ := last_two hc; have HC' := Lib.hid hc; clear hc) | (go_at_call 12; (with_reducible refine (kisref_k20 (by assumption)).mono ?_); rintro e w' ⟨rfl, hc⟩; obtain ⟨q0, q1⟩ := last_two hc; have HC' := Lib.hid hc; clear hc) | (go_at_call 13; (with_reducible refine (risref_k30 (by assumption)).mono ?_); rintro e w' ⟨rfl, hc⟩; obtain ⟨q0, q1⟩ := last_two hc; have HC' := Lib.hid hc; clear hc))
  go_ret
  exact ⟨rfl, ((HW.out).alloc (by have := HW.out.size; omega) _).trans (Hid.out ‹Hid (Below _ _ _)› |>.mono (by have := HW.out.size; simp; omega))⟩
end Go.Proofs.Ytkfhpbedllcecaa
