/-
  What the document's own answer for whether a field may have a type (Good) comes to.
-/
import Derived.Test.YtjjgpcmdoodjnaaM04
namespace Go.Proofs.Ytjjgpcmdoodjnaa
set_option maxRecDepth 100000
set_option linter.unusedVariables false
set_option linter.unusedSimpArgs false
set_option linter.unusedVariables false
open Go.ChangeShapes Go.WideShapes Go.ChangeAt Go.RowKit

theorem rgood_any (k n c : Int) (w : World) : Calls Try.prog 31 #[tyV k n, .int .i64 c] w fun e w' => e = .returned (.bool (goodB k n c)) ∧ Below w.heap.size w w' := by
  by_cases h : (k = 1 ∨ k = 2) ∧ n = 0 ∨ k = 3 ∧ 0 ≤ n ∧ n < c
  · have E := Lib.hid (show goodB k n c = true from decide_eq_true h)
    rcases h with ⟨rfl | rfl, rfl⟩ | ⟨rfl, h0, h1⟩
    all_goals
      go_enter Try.func31, Try.ntmps31
      go_wp2
      go_ret
      refine ⟨?_, ?_⟩
      · rw [E.out]; rfl
      · exact (Below.refl _ _).alloc (Nat.le_refl _) _
  · have E := Lib.hid (show goodB k n c = false from decide_eq_false h)
    have h' : (¬ k = 1 ∧ ¬ k = 2 ∧ ¬ k = 3) ∨ (k = 1 ∧ ¬ n = 0) ∨ (k = 2 ∧ ¬ n = 0) ∨ (k = 3 ∧ n < 0) ∨ (k = 3 ∧ 0 ≤ n ∧ c ≤ n) := by omega
    clear h
    rcases h' with ⟨h1, h2, h3⟩ | ⟨rfl, h1⟩ | ⟨rfl, h1⟩ | ⟨rfl, h1⟩ | ⟨rfl, h1, h2⟩
    · have e1 : decide (k = 1) = false := decide_eq_false h1
      have e2 : decide (k = 2) = false := decide_eq_false h2
      have e3 : decide (k = 3) = false := decide_eq_false h3
      go_enter Try.func31, Try.ntmps31
      go_wp2
      go_ret
      refine ⟨?_, ?_⟩
      · rw [E.out]; first | rfl | simp [h1, h2, h3]
      · exact (Below.refl _ _).alloc (Nat.le_refl _) _
    · have e1 : decide (n = 0) = false := decide_eq_false h1
      go_enter Try.func31, Try.ntmps31
      go_wp2
      go_ret
      refine ⟨?_, ?_⟩
      · rw [E.out]; first | rfl | simp [h1]
      · exact (Below.refl _ _).alloc (Nat.le_refl _) _
    · have e1 : decide (n = 0) = false := decide_eq_false h1
      go_enter Try.func31, Try.ntmps31
      go_wp2
      go_ret
      refine ⟨?_, ?_⟩
      · rw [E.out]; first | rfl | simp [h1]
      · exact (Below.refl _ _).alloc (Nat.le_refl _) _
    · have e1 : decide (0 ≤ n) = false := decide_eq_false (by omega)
      go_enter Try.func31, Try.ntmps31
      go_wp2
      go_ret
      refine ⟨?_, ?_⟩
      · rw [E.out]; first | rfl | simp [h1]
      · exact (Below.refl _ _).alloc (Nat.le_refl _) _
    · have e1 : decide (n < c) = false := decide_eq_false (by omega)
      go_enter Try.func31, Try.ntmps31
      go_wp2
      go_ret
      refine ⟨?_, ?_⟩
      · rw [E.out]; first | rfl | simp [h1, h2]
      · exact (Below.refl _ _).alloc (Nat.le_refl _) _
end Go.Proofs.Ytjjgpcmdoodjnaa
