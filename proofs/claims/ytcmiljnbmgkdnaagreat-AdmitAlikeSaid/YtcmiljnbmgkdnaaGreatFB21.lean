import Derived.Test.YtcmiljnbmgkdnaaGreatFB20
namespace Go.Proofs.YtcmiljnbmgkdnaaGreat
set_option maxRecDepth 100000
set_option linter.unusedVariables false
set_option linter.unusedSimpArgs false
open Go.ChangeShapes Go.WideShapes Go.ChangeAt Go.RowKit
theorem qss{w w':World}{A:Option Addr}{xs:List Value}(H:zq w w.heap.size A xs)(hb:Below w.heap.size w w'):zq w' w'.heap.size A xs:=(H.below_to hb (zn _)).more hb.size
end Go.Proofs.YtcmiljnbmgkdnaaGreat
