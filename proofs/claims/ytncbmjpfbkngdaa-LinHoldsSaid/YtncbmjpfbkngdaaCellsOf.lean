/-
  A block's cells, one by one. Plain definitions and lemmas; no conditions.
-/
import Derived.Test.YtncbmjpfbkngdaaRow
import Derived.Test.YtncbmjpfbkngdaaRows
import Derived.ProofKit
import Derived.OpenShut
import Derived.Outline
import Derived.Deep.QuietTactic
import Derived.BigQuiet
import Derived.Deep.Cut
namespace Go.Proofs.Ytncbmjpfbkngdaa
set_option maxRecDepth 100000
set_option linter.unusedVariables false
set_option linter.unusedSimpArgs false
open Go.ChangeShapes Go.WideShapes Go.ChangeAt Go.RowKit

/-- A block's cells, one by one. -/
def Cells (w : World) (N : Nat) (vs : List Value) : Prop := ∀ i v, vs[i]? = some v → w.cell? ⟨N, i, none⟩ = some v
theorem Cells.keep {w w' : World} {N B : Nat} {vs : List Value} (H : Cells w N vs) (hb : Below B w w') (hN : N < B) : Cells w' N vs := fun i v h => (hb.cell (p := ⟨N, i, none⟩) hN).trans (H i v h)
theorem cells_new (w : World) (vs : List Value) (T : TypeId) : Cells (w.alloc (.cells vs.toArray T)) w.heap.size vs := fun i v h => by
  rw [World.cell?_alloc_at _ _ _ _ rfl]
  simpa using h
end Go.Proofs.Ytncbmjpfbkngdaa
