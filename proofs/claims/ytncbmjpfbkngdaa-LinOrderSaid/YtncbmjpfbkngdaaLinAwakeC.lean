/-
  The fixed fact of the statements on inequalities (awake), by its name.
-/
import Derived.Test.YtncbmjpfbkngdaaLinAwake
namespace Go.Proofs.Ytncbmjpfbkngdaa
set_option maxRecDepth 100000
set_option linter.unusedVariables false
set_option linter.unusedSimpArgs false
open Go.ChangeShapes Go.WideShapes Go.ChangeAt Go.RowKit

theorem linAwake_any (w : World) : Calls Try.prog 10 #[] w fun e w' => e = .returned (.bool true) ∧ Below w.heap.size w w' :=
  linAwakeT_any w
end Go.Proofs.Ytncbmjpfbkngdaa
