import Derived.Test.YtcmiljnbmgkdnaaGreatFB18
import Derived.Test.YtcmiljnbmgkdnaaGreatFB16
namespace Go.Proofs.YtcmiljnbmgkdnaaGreat
set_option maxRecDepth 100000
set_option linter.unusedVariables false
set_option linter.unusedSimpArgs false
open Go.ChangeShapes Go.WideShapes Go.ChangeAt Go.RowKit
section
variable{w:World}{g g':Nat}{h h':zi}{a b:za}{r:Bool}
theorem qrz(HA:Hid (Boxed w g h a))(HB:Hid (Boxed w g' h' b))(HR:Hid (decide (a=b)=r)):Calls Tryz.prog 18 #[zp h a,zp h' b] w fun e w'=>e= .returned (.bool r)∧Below w.heap.size w w':=by
 have H:=qnr a b h h' w.heap.size w (zn _) HA.out.img HB.out.img;rw[HR.out]at H;exact H
theorem q6a(HA:Hid (Boxed w g h a))(HR:Hid (zK a=r)):Calls Tryz.prog 15 #[zp h a] w fun e w'=>e= .returned (.bool r)∧Below w.heap.size w w':=by
 have H:=qb4 a h w.heap.size w (zn _) HA.out.img;rw[HR.out]at H;exact H
end
end Go.Proofs.YtcmiljnbmgkdnaaGreat
