import Derived.Test.YtdbfllajopcccaaGreatFA32
namespace Go.Proofs.YtdbfllajopcccaaGreat
set_option maxRecDepth 100000
set_option linter.unusedVariables false
set_option linter.unusedSimpArgs false
open Go.ChangeShapes Go.WideShapes Go.ChangeAt Go.RowKit
set_option maxHeartbeats 1600000 in
theorem qgd(m:za)(h:zl)(w:World)(H:zp w w.heap.size h m):
  Calls Tryz.prog 22 #[zr h m] w fun e w'=>e= .returned (.bool (vc m))∧Below w.heap.size w w':=by
 have HW:=zH ((zb w.heap.size w).alloc (zn _) (zq h m));have HIM:=zH (H.now HW.out);have HBX:=zH (qf w h m);have l0:=H.classes.le;have l0c:=H.classes.cap;have l2:=H.ints.le;have l2c:=H.ints.cap;have l3:=H.methods.le;have l3c:=H.methods.cap;obtain⟨r,hr⟩:∃r,QK m=r:=⟨_,rfl⟩
 have HR:=zH hr;have HE:=zH (show vc m=(decide (m.methods.length≤12)&& (decide (m.classes.length≤8)&& (decide (m.ints.length≤16)&& decide (r=0))))by rw[←hr];rfl);clear H hr;go_enter Tryz.func22,Tryz.ntmps22;go_upto_region 1 with fail
 generalize w.alloc (zq h m)=w1 at*
 obtain⟨q0,q1,q2,q3,q4,q5,q6⟩:=HBX.out;by_cases h3:m.methods.length≤12;rotate_left
 ·have i3:¬(m.methods.length:Int)≤12:=by omega
  go_wp2_with fail
  go_ret;exact⟨by rw[HE.out,decide_eq_false h3];rfl,HW.out⟩
 have i3:(m.methods.length:Int)≤12:=by omega
 by_cases h0:m.classes.length≤8;rotate_left
 ·have i0:¬(m.classes.length:Int)≤8:=by omega
  go_wp2_with fail
  go_ret;exact⟨by rw[HE.out,decide_eq_false h0,Bool.false_and,Bool.and_false];rfl,HW.out⟩
 have i0:(m.classes.length:Int)≤8:=by omega
 by_cases h2:m.ints.length≤16;rotate_left
 ·have i2:¬(m.ints.length:Int)≤16:=by omega
  go_wp2_with fail
  go_ret;exact⟨by rw[HE.out,decide_eq_false h2,Bool.false_and,Bool.and_false,Bool.and_false];rfl,HW.out⟩
 have i2:(m.ints.length:Int)≤16:=by omega
 have HD:=zH (show vc m=decide (r=0)by rw[HE.out,decide_eq_true h3,decide_eq_true h0,decide_eq_true h2,Bool.true_and,Bool.true_and,Bool.true_and]);clear h3 h0 h2;go_wp2_with(first|(go_at_call 24;(with_reducible refine(qa3 m h w1 HIM.out).mono ?_);rintro e w' ⟨rfl,hb⟩;rw[HR.out];have HX:=zH (HW.out.trans (hb.mono HW.out.size));clear hb))
 go_ret;exact⟨by rw[HD.out];rfl,HX.out⟩
theorem qa2{m:za}{h:zl}{w0 w:World}{r:Bool}(HI:Hid (zp w0 w0.heap.size h m))(HX:Hid (Below w0.heap.size w0 w))(HR:Hid (vc m=r)):
  Calls Tryz.prog 22 #[zr h m] w fun e w'=>e= .returned (.bool r)∧Below w.heap.size w w':=by
 have H:=qgd m h w (HI.out.now HX.out);rw[HR.out]at H;exact H
end Go.Proofs.YtdbfllajopcccaaGreat
