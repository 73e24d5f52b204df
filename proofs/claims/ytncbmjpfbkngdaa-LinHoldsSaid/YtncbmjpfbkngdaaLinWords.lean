/-
  The laws of inequalities: what their parts come to. Plain lemmas; no conditions.
-/
import Derived.Test.YtncbmjpfbkngdaaLinAwakeC
import Derived.Deep.Cut
import Derived.IntWalk
import Derived.RegionTactic
import Derived.ChangeAlike
import Derived.Deep.RegionHeld3
import Derived.Deep.QuietTactic
import Derived.BigQuiet
namespace Go.Proofs.Ytncbmjpfbkngdaa
set_option maxRecDepth 100000
set_option linter.unusedVariables false
set_option linter.unusedSimpArgs false
open Go.ChangeShapes Go.WideShapes Go.ChangeAt Go.RowKit
set_option linter.unusedVariables false
set_option linter.unusedSimpArgs false

theorem lholds_no {q : Inq} {L : List Int} {A B : Option Addr} {c d n n' : Nat} {m : Int} {w : World} (H1 : Hid (SlcIs IntAt 1 w w.heap.size A c q.1)) (H2 : Hid (SlcIs IntAt 1 w w.heap.size B d L)) (HN : Hid (q.1.length = n ∧ L.length = n' ∧ q.2 = m)) (h1 : n ≤ 1000) (h2 : n' ≤ 1000) (HR : Hid (holdsR q L = none)) :
    Calls Try.prog 15 #[.agg #[.slice A n c, .int .i64 m], .slice B n' d] w fun e w' => e = .returned (.tuple #[.bool false, .int .i64 14]) ∧ Below w.heap.size w w' := by
  obtain ⟨rfl, rfl, rfl⟩ := HN.out
  have H := lholds_any q L A B c d w H1.out H2.out h1 h2
  rw [HR.out] at H
  exact H
theorem lholds_yes {q : Inq} {L : List Int} {A B : Option Addr} {c d n n' : Nat} {m : Int} {w : World} {r : Bool} (H1 : Hid (SlcIs IntAt 1 w w.heap.size A c q.1)) (H2 : Hid (SlcIs IntAt 1 w w.heap.size B d L)) (HN : Hid (q.1.length = n ∧ L.length = n' ∧ q.2 = m)) (h1 : n ≤ 1000) (h2 : n' ≤ 1000) (HR : Hid (holdsR q L = some r)) :
    Calls Try.prog 15 #[.agg #[.slice A n c, .int .i64 m], .slice B n' d] w fun e w' => e = .returned (.tuple #[.bool r, .int .i64 0]) ∧ Below w.heap.size w w' := by
  obtain ⟨rfl, rfl, rfl⟩ := HN.out
  have H := lholds_any q L A B c d w H1.out H2.out h1 h2
  rw [HR.out] at H
  exact H
theorem one_inq (w : World) (x y : Value) : Cells (w.alloc (.cells #[x, y] 27)) w.heap.size [x, y] ∧ Below w.heap.size w (w.alloc (.cells #[x, y] 27)) ∧ w.heap.size < (w.alloc (.cells #[x, y] 27)).heap.size :=
  ⟨cells_new w [x, y] _, (Below.refl _ _).alloc (Nat.le_refl _) _, by simp⟩
end Go.Proofs.Ytncbmjpfbkngdaa
