import Derived.Test.YtcmiljnbmgkdnaaGreatFA16
import Derived.Test.YtcmiljnbmgkdnaaGreatFA15
namespace Go.Proofs.YtcmiljnbmgkdnaaGreat
set_option maxRecDepth 100000
set_option linter.unusedVariables false
set_option linter.unusedSimpArgs false
open Go.ChangeShapes Go.WideShapes Go.ChangeAt Go.RowKit
section
variable{w:World}{g g':Nat}{h h':zg}{a b:za}{r:Bool}
end
end Go.Proofs.YtcmiljnbmgkdnaaGreat
