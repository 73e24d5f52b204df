/-
  What the document's own answer for what methods take (Bound) comes to.
-/
import Derived.Test.YtefgepppcmhphaaM28
import Derived.Test.YtefgepppcmhphaaK43
import Derived.Test.YtefgepppcmhphaaM14
import Derived.IntWalk
import Derived.RegionTactic
import Derived.ChangeAlike
import Derived.Deep.RegionHeld3
import Derived.Deep.QuietTactic
import Derived.BigQuiet
namespace Go.Proofs.Ytefgepppcmhphaa
set_option maxRecDepth 100000
set_option linter.unusedVariables false
set_option linter.unusedSimpArgs false
open Go.ChangeShapes Go.WideShapes Go.ChangeAt Go.RowKit
set_option linter.unusedVariables false
set_option linter.unusedSimpArgs false

/-- What Bound answers: numbers, or that there is none. -/
def BoundOut (m : Img) (maps : List (List Shp)) (w : World) (e : Ending) (w' : World) : Prop := ∃ A n c ok, e = .returned (.tuple #[.slice A n c, .bool ok]) ∧ Below w.heap.size w w' ∧ ok = ringsB m ∧ (ok = true → n = m.methods.length ∧ SlcIs IntAt 1 w' w'.heap.size A c (boundsOf m maps))
end Go.Proofs.Ytefgepppcmhphaa
