import Derived.Test.YtnfeiginmngknaaGreatFZ11
namespace Go.Proofs.YtnfeiginmngknaaGreat
set_option maxRecDepth 100000
set_option linter.unusedVariables false
set_option linter.unusedSimpArgs false
open Go.ChangeShapes Go.WideShapes Go.ChangeAt Go.RowKit
theorem V7{w w':World}{A:Option Addr}{xs:List Value}(H:zw w w.heap.size A xs)(hb:Below w.heap.size w w'):zw w' w'.heap.size A xs:=(H.below_to hb (zn _)).more hb.size
