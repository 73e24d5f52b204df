/-
  What the program's own kind.Sub comes to.
-/
import Derived.Test.YtjgfoialajgfhaaKindOwn
namespace Go.Proofs.Ytjgfoialajgfhaa
set_option maxRecDepth 100000
set_option linter.unusedVariables false
set_option linter.unusedSimpArgs false
open Go.ChangeShapes Go.WideShapes Go.ChangeAt Go.RowKit
set_option linter.unusedVariables false

theorem ksub_any (sup : List Int) (k n k' n' : Int) (A : Option Addr) (cap B : Nat) (w : World) (hl : sup.length ≤ 1048576) (hB : B ≤ w.heap.size) (h : Supers w B A sup) :
    Calls Try.prog 60 #[.slice A sup.length cap, tyV k n, tyV k' n'] w fun e w' => e = .returned (.bool (subB sup k n k' n')) ∧ Below w.heap.size w w' := by
  have hW : Below w.heap.size w ((w.alloc (.cells #[.int .i64 k, .int .i64 n] 35)).alloc (.cells #[.int .i64 k', .int .i64 n'] 35)) :=
    ((Below.refl w.heap.size w).alloc (Nat.le_refl _) _).alloc (by simp) _
  have HS := Lib.hid (h.below_to hW hB)
  have HW := Lib.hid hW
  have HB := Lib.hid hB
  clear h hW hB
  by_cases h4 : k = 4
  · subst h4
    have e : subB sup 4 n k' n' = isRefB k' := by simp [subB]
    rw [e]
    clear e
    go_enter Try.func60, Try.ntmps60
    go_wp2_with (go_at_call 62; (with_reducible refine (kisref_any _ _ _).mono ?_); rintro e w' ⟨rfl, hb⟩)
    go_ret
    exact ⟨rfl, HW.out.trans (hb.mono (by simp; omega))⟩
  · by_cases h3 : k = 3
    · subst h3
      by_cases hk : k' = 3
      · subst hk
        have e : subB sup 3 n 3 n' = inB (aboveI sup n) n' := by simp [subB]
        rw [e]
        clear e
        go_enter Try.func60, Try.ntmps60
        go_wp2_with (go_at_call 63; (with_reducible refine (kbelow_any sup n n' A cap B _ hl (by have := HB.out; simp; omega) HS.out).mono ?_); rintro e w' ⟨rfl, hb⟩)
        go_ret
        exact ⟨rfl, HW.out.trans (hb.mono (by simp; omega))⟩
      · have e : subB sup 3 n k' n' = false := by simp [subB, hk]
        rw [e]
        clear e
        go_enter Try.func60, Try.ntmps60
        go_wp2_with fail
        go_ret
        exact ⟨by first | rfl | simp [hk], HW.out⟩
    · by_cases h12 : k = 1 ∨ k = 2
      · have e : subB sup k n k' n' = decide (k = k' ∧ n = n') := by simp [subB, h3, h4, h12]
        rw [e]
        clear e
        rcases h12 with rfl | rfl
        all_goals
          go_enter Try.func60, Try.ntmps60
          go_wp2_with fail
          all_goals
            go_ret
            refine ⟨?_, ((Below.refl _ _).alloc (Nat.le_refl _) _).alloc (by simp) _⟩
            first | rfl | (simp [*]; done)
      · have e : subB sup k n k' n' = false := by simp [subB, h3, h4, h12]
        rw [e]
        have h1 : ¬ k = 1 := by omega
        have h2 : ¬ k = 2 := by omega
        clear e h12
        go_enter Try.func60, Try.ntmps60
        go_wp2_with fail
        go_ret
        exact ⟨rfl, HW.out⟩

end Go.Proofs.Ytjgfoialajgfhaa
