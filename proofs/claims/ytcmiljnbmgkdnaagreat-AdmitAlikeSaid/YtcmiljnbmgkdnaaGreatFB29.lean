import Derived.Test.YtcmiljnbmgkdnaaGreatFB25
import Derived.Test.YtcmiljnbmgkdnaaGreatFB28
import Derived.Test.YtcmiljnbmgkdnaaGreatFB24
import Derived.Test.YtcmiljnbmgkdnaaGreatFB26
namespace Go.Proofs.YtcmiljnbmgkdnaaGreat
set_option maxRecDepth 100000
set_option linter.unusedVariables false
set_option linter.unusedSimpArgs false
open Go.ChangeShapes Go.WideShapes Go.ChangeAt Go.RowKit
theorem JM{P:Prop}(h:P:=by
 have HX:Hid (Below w2.heap.size w2 w2):=zH (zb _ _);have HN:=zH HP.out.fnlt;have HC:=zH HP.out.fn;obtain⟨q0,q1,q2,q3,q4,q5,q6⟩:=HP.out.img;obtain⟨o0,o1,o2⟩:=qw HP.out.ins;go_wp2_with(go_at_call 194;(with_reducible refine(q71 HL HN HC HX).mono ?_);rintro e w3 ⟨v3,rfl,ho3,hb3⟩;have HO3:=zH ho3;have HX3:=zH hb3;clear ho3 hb3)
 go_ret;exact kQ.some_ (w0:=w2) ⟨_,rfl,HO3.out,HX3.out⟩ HW.out):P:=h
theorem ftk_5(m:za)(x:zh)(f:Nat)(a b:Int)(h:zi)(w:World)(H:zm w w.heap.size h m):
  Calls Tryz.prog 138 #[zp h m,zF 5 a b,.int .i64 f] w (qm (zE m x 5 a b) w):=by
 have e1:zE m x 5 a b=[(6,0)]:=by simp[zE]
 rw[e1];clear e1;have HL:Hid (zS a [6]=[(6,0)]):=zH (by simp[zS,jm]);obtain⟨hw,hp⟩:=qH h m 5 a b w;have HW:=zH hw;have HP:=zH hp;have HI:=zH (H.now hw);clear hw hp H;go_enter Tryz.func138,Tryz.ntmps138;go_upto_region 1 with fail
 change Code.wp _ _ _ _ (qu h m 5 a b w);go_upto_region 2 with(go_at_call 171;(refine(qI (h:=h) (m:=m) (w:=w)).mono ?_);rintro e w2 ⟨rfl,rfl⟩)
 generalize qz h m 5 a b w=w2 at*
 exact JM
theorem ftk_6(m:za)(x:zh)(f:Nat)(a b:Int)(h:zi)(w:World)(H:zm w w.heap.size h m):
  Calls Tryz.prog 138 #[zp h m,zF 6 a b,.int .i64 f] w (qm (zE m x 6 a b) w):=by
 have e1:zE m x 6 a b=[(6,0)]:=by simp[zE]
 rw[e1];clear e1;have HL:Hid (zS a [6]=[(6,0)]):=zH (by simp[zS,jm]);obtain⟨hw,hp⟩:=qH h m 6 a b w;have HW:=zH hw;have HP:=zH hp;have HI:=zH (H.now hw);clear hw hp H;go_enter Tryz.func138,Tryz.ntmps138;go_upto_region 1 with fail
 change Code.wp _ _ _ _ (qu h m 6 a b w);go_upto_region 2 with(go_at_call 171;(refine(qI (h:=h) (m:=m) (w:=w)).mono ?_);rintro e w2 ⟨rfl,rfl⟩)
 generalize qz h m 6 a b w=w2 at*
 exact JM
theorem ftk_19(m:za)(x:zh)(f:Nat)(a b:Int)(h:zi)(w:World)(H:zm w w.heap.size h m):
  Calls Tryz.prog 138 #[zp h m,zF 19 a b,.int .i64 f] w (qm (zE m x 19 a b) w):=by
 have e1:zE m x 19 a b=[(1,0)]:=by simp[zE]
 rw[e1];clear e1;have HL:Hid (zS a [1]=[(1,0)]):=zH (by simp[zS,jm]);obtain⟨hw,hp⟩:=qH h m 19 a b w;have HW:=zH hw;have HP:=zH hp;have HI:=zH (H.now hw);clear hw hp H;go_enter Tryz.func138,Tryz.ntmps138;go_upto_region 1 with fail
 change Code.wp _ _ _ _ (qu h m 19 a b w);go_upto_region 2 with(go_at_call 171;(refine(qI (h:=h) (m:=m) (w:=w)).mono ?_);rintro e w2 ⟨rfl,rfl⟩)
 generalize qz h m 19 a b w=w2 at*
 exact JM
theorem ftk_23(m:za)(x:zh)(f:Nat)(a b:Int)(h:zi)(w:World)(H:zm w w.heap.size h m):
  Calls Tryz.prog 138 #[zp h m,zF 23 a b,.int .i64 f] w (qm (zE m x 23 a b) w):=by
 have e1:zE m x 23 a b=[(1,0)]:=by simp[zE]
 rw[e1];clear e1;have HL:Hid (zS a [1]=[(1,0)]):=zH (by simp[zS,jm]);obtain⟨hw,hp⟩:=qH h m 23 a b w;have HW:=zH hw;have HP:=zH hp;have HI:=zH (H.now hw);clear hw hp H;go_enter Tryz.func138,Tryz.ntmps138;go_upto_region 1 with fail
 change Code.wp _ _ _ _ (qu h m 23 a b w);go_upto_region 2 with(go_at_call 171;(refine(qI (h:=h) (m:=m) (w:=w)).mono ?_);rintro e w2 ⟨rfl,rfl⟩)
 generalize qz h m 23 a b w=w2 at*
 exact JM
theorem ftk_20(m:za)(x:zh)(f:Nat)(a b:Int)(h:zi)(w:World)(H:zm w w.heap.size h m):
  Calls Tryz.prog 138 #[zp h m,zF 20 a b,.int .i64 f] w (qm (zE m x 20 a b) w):=by
 have e1:zE m x 20 a b=[(7,0)]:=by simp[zE]
 rw[e1];clear e1;have HL:Hid (zS a [7]=[(7,0)]):=zH (by simp[zS,jm]);obtain⟨hw,hp⟩:=qH h m 20 a b w;have HW:=zH hw;have HP:=zH hp;have HI:=zH (H.now hw);clear hw hp H;go_enter Tryz.func138,Tryz.ntmps138;go_upto_region 1 with fail
 change Code.wp _ _ _ _ (qu h m 20 a b w);go_upto_region 2 with(go_at_call 171;(refine(qI (h:=h) (m:=m) (w:=w)).mono ?_);rintro e w2 ⟨rfl,rfl⟩)
 generalize qz h m 20 a b w=w2 at*
 exact JM
theorem q7x{P:Prop}(h:P:=by
 have HX:Hid (Below w2.heap.size w2 w2):=zH (zb _ _);have HN:=zH HP.out.fnlt;have HC:=zH HP.out.fn;obtain⟨q0,q1,q2,q3,q4,q5,q6⟩:=HP.out.img;obtain⟨o0,o1,o2⟩:=qw HP.out.ins;go_wp2_with(go_at_call 194;(with_reducible refine(qen HL HN HC HX).mono ?_);rintro e w3 ⟨v3,rfl,ho3,hb3⟩;have HO3:=zH ho3;have HX3:=zH hb3;clear ho3 hb3)
 go_ret;exact kQ.some_ (w0:=w2) ⟨_,rfl,HO3.out,HX3.out⟩ HW.out):P:=h
theorem ftk_21(m:za)(x:zh)(f:Nat)(a b:Int)(h:zi)(w:World)(H:zm w w.heap.size h m):
  Calls Tryz.prog 138 #[zp h m,zF 21 a b,.int .i64 f] w (qm (zE m x 21 a b) w):=by
 have e1:zE m x 21 a b=[(7,0),(7,0)]:=by simp[zE]
 rw[e1];clear e1;have HL:Hid (zS a [7,7]=[(7,0),(7,0)]):=zH (by simp[zS,jm]);obtain⟨hw,hp⟩:=qH h m 21 a b w;have HW:=zH hw;have HP:=zH hp;have HI:=zH (H.now hw);clear hw hp H;go_enter Tryz.func138,Tryz.ntmps138;go_upto_region 1 with fail
 change Code.wp _ _ _ _ (qu h m 21 a b w);go_upto_region 2 with(go_at_call 171;(refine(qI (h:=h) (m:=m) (w:=w)).mono ?_);rintro e w2 ⟨rfl,rfl⟩)
 generalize qz h m 21 a b w=w2 at*
 exact q7x
theorem ftk_24(m:za)(x:zh)(f:Nat)(a b:Int)(h:zi)(w:World)(H:zm w w.heap.size h m):
  Calls Tryz.prog 138 #[zp h m,zF 24 a b,.int .i64 f] w (qm (zE m x 24 a b) w):=by
 have e1:zE m x 24 a b=[(2,0),(1,0)]:=by simp[zE]
 rw[e1];clear e1;have HL:Hid (zS a [2,1]=[(2,0),(1,0)]):=zH (by simp[zS,jm]);obtain⟨hw,hp⟩:=qH h m 24 a b w;have HW:=zH hw;have HP:=zH hp;have HI:=zH (H.now hw);clear hw hp H;go_enter Tryz.func138,Tryz.ntmps138;go_upto_region 1 with fail
 change Code.wp _ _ _ _ (qu h m 24 a b w);go_upto_region 2 with(go_at_call 171;(refine(qI (h:=h) (m:=m) (w:=w)).mono ?_);rintro e w2 ⟨rfl,rfl⟩)
 generalize qz h m 24 a b w=w2 at*
 exact q7x
theorem ftk_25(m:za)(x:zh)(f:Nat)(a b:Int)(h:zi)(w:World)(H:zm w w.heap.size h m):
  Calls Tryz.prog 138 #[zp h m,zF 25 a b,.int .i64 f] w (qm (zE m x 25 a b) w):=by
 have e1:zE m x 25 a b=[(2,0),(1,0),(1,0)]:=by simp[zE]
 rw[e1];clear e1;have HL:Hid (zS a [2,1,1]=[(2,0),(1,0),(1,0)]):=zH (by simp[zS,jm]);obtain⟨hw,hp⟩:=qH h m 25 a b w;have HW:=zH hw;have HP:=zH hp;have HI:=zH (H.now hw);clear hw hp H;go_enter Tryz.func138,Tryz.ntmps138;go_upto_region 1 with fail
 change Code.wp _ _ _ _ (qu h m 25 a b w);go_upto_region 2 with(go_at_call 171;(refine(qI (h:=h) (m:=m) (w:=w)).mono ?_);rintro e w2 ⟨rfl,rfl⟩)
 generalize qz h m 25 a b w=w2 at*
 have HX:Hid (Below w2.heap.size w2 w2):=zH (zb _ _);have HN:=zH HP.out.fnlt;have HC:=zH HP.out.fn;obtain⟨q0,q1,q2,q3,q4,q5,q6⟩:=HP.out.img;obtain⟨o0,o1,o2⟩:=qw HP.out.ins;go_wp2_with(go_at_call 194;(with_reducible refine(qv8 HL HN HC HX).mono ?_);rintro e w3 ⟨v3,rfl,ho3,hb3⟩;have HO3:=zH ho3;have HX3:=zH hb3;clear ho3 hb3)
 go_ret;exact kQ.some_ (w0:=w2) ⟨_,rfl,HO3.out,HX3.out⟩ HW.out
theorem ftk_26(m:za)(x:zh)(f:Nat)(a b:Int)(h:zi)(w:World)(H:zm w w.heap.size h m):
  Calls Tryz.prog 138 #[zp h m,zF 26 a b,.int .i64 f] w (qm (zE m x 26 a b) w):=by
 have e1:zE m x 26 a b=[(2,0)]:=by simp[zE]
 rw[e1];clear e1;have HL:Hid (zS a [2]=[(2,0)]):=zH (by simp[zS,jm]);obtain⟨hw,hp⟩:=qH h m 26 a b w;have HW:=zH hw;have HP:=zH hp;have HI:=zH (H.now hw);clear hw hp H;go_enter Tryz.func138,Tryz.ntmps138;go_upto_region 1 with fail
 change Code.wp _ _ _ _ (qu h m 26 a b w);go_upto_region 2 with(go_at_call 171;(refine(qI (h:=h) (m:=m) (w:=w)).mono ?_);rintro e w2 ⟨rfl,rfl⟩)
 generalize qz h m 26 a b w=w2 at*
 exact JM
theorem ftk_27(m:za)(x:zh)(f:Nat)(a b:Int)(h:zi)(w:World)(H:zm w w.heap.size h m):
  Calls Tryz.prog 138 #[zp h m,zF 27 a b,.int .i64 f] w (qm (zE m x 27 a b) w):=by
 have e1:zE m x 27 a b=[(3,a)]:=by simp[zE]
 rw[e1];clear e1;have HL:Hid (zS a [3]=[(3,a)]):=zH (by simp[zS,jm]);obtain⟨hw,hp⟩:=qH h m 27 a b w;have HW:=zH hw;have HP:=zH hp;have HI:=zH (H.now hw);clear hw hp H;go_enter Tryz.func138,Tryz.ntmps138;go_upto_region 1 with fail
 change Code.wp _ _ _ _ (qu h m 27 a b w);go_upto_region 2 with(go_at_call 171;(refine(qI (h:=h) (m:=m) (w:=w)).mono ?_);rintro e w2 ⟨rfl,rfl⟩)
 generalize qz h m 27 a b w=w2 at*
 exact JM
theorem ftk_34(m:za)(x:zh)(f:Nat)(a b:Int)(h:zi)(w:World)(H:zm w w.heap.size h m):
  Calls Tryz.prog 138 #[zp h m,zF 34 a b,.int .i64 f] w (qm (zE m x 34 a b) w):=by
 have e1:zE m x 34 a b=[(8,0)]:=by simp[zE]
 rw[e1];clear e1;have HL:Hid (zS a [8]=[(8,0)]):=zH (by simp[zS,jm]);obtain⟨hw,hp⟩:=qH h m 34 a b w;have HW:=zH hw;have HP:=zH hp;have HI:=zH (H.now hw);clear hw hp H;go_enter Tryz.func138,Tryz.ntmps138;go_upto_region 1 with fail
 change Code.wp _ _ _ _ (qu h m 34 a b w);go_upto_region 2 with(go_at_call 171;(refine(qI (h:=h) (m:=m) (w:=w)).mono ?_);rintro e w2 ⟨rfl,rfl⟩)
 generalize qz h m 34 a b w=w2 at*
 exact JM
theorem qt5(m:za)(x:zh)(f:Nat)(op a b:Int)(h7:7≤op)(h17:op≤17)(h:zi)(w:World)(H:zm w w.heap.size h m):
  Calls Tryz.prog 138 #[zp h m,zF op a b,.int .i64 f] w (qm (zE m x op a b) w):=by
 have hop:7≤op∧op≤17:=⟨h7,h17⟩
 have n4:¬op=4:=by omega
 have n5:¬op=5:=by omega
 have n6:¬op=6:=by omega
 have n19:¬op=19:=by omega
 have n20:¬op=20:=by omega
 have n21:¬op=21:=by omega
 have n23:¬op=23:=by omega
 have n24:¬op=24:=by omega
 have n25:¬op=25:=by omega
 have n26:¬op=26:=by omega
 have n27:¬op=27:=by omega
 have n28:¬op=28:=by omega
 have n30:¬op=30:=by omega
 have n31:¬op=31:=by omega
 have n32:¬op=32:=by omega
 have n33:¬op=33:=by omega
 have n34:¬op=34:=by omega
 have e1:zE m x op a b=[(1,0),(1,0)]:=by simp[zE,n4,n5,n6,n19,n20,n21,n23,n24,n25,n26,n27,n28,n30,n31,n32,n33,n34,hop]
 rw[e1];clear e1 hop;have HL:Hid (zS a [1,1]=[(1,0),(1,0)]):=zH (by simp[zS,jm]);obtain⟨hw,hp⟩:=qH h m op a b w;have HW:=zH hw;have HP:=zH hp;have HI:=zH (H.now hw);clear hw hp H;go_enter Tryz.func138,Tryz.ntmps138;go_upto_region 1 with fail
 change Code.wp _ _ _ _ (qu h m op a b w);go_upto_region 2 with(go_at_call 171;(refine(qI (h:=h) (m:=m) (w:=w)).mono ?_);rintro e w2 ⟨rfl,rfl⟩)
 generalize qz h m op a b w=w2 at*
 have HX:Hid (Below w2.heap.size w2 w2):=zH (zb _ _);have HN:=zH HP.out.fnlt;have HC:=zH HP.out.fn;obtain⟨q0,q1,q2,q3,q4,q5,q6⟩:=HP.out.img;obtain⟨o0,o1,o2⟩:=qw HP.out.ins;go_wp2_with(first|(go_at_call 179;(with_reducible refine(qf7 op h7 h17 _).mono ?_);rintro e w9 ⟨rfl,rfl⟩)|(go_at_call 194;(with_reducible refine(qen HL HN HC HX).mono ?_);rintro e w3 ⟨v3,rfl,ho3,hb3⟩;have HO3:=zH ho3;have HX3:=zH hb3;clear ho3 hb3))
 go_ret;exact kQ.some_ (w0:=w2) ⟨_,rfl,HO3.out,HX3.out⟩ HW.out
theorem qt4(m:za)(x:zh)(f:Nat)(op a b:Int)(hno:op<7∨17<op)(n4:¬op=4)(n5:¬op=5)(n6:¬op=6)(n19:¬op=19)(n20:¬op=20)(n21:¬op=21)(n23:¬op=23)(n24:¬op=24)(n25:¬op=25)(n26:¬op=26)(n27:¬op=27)(n28:¬op=28)(n30:¬op=30)(n31:¬op=31)(n32:¬op=32)(n33:¬op=33)(n34:¬op=34)(h:zi)(w:World)(H:zm w w.heap.size h m):
  Calls Tryz.prog 138 #[zp h m,zF op a b,.int .i64 f] w (qm (zE m x op a b) w):=by
 have hop:¬(7≤op∧op≤17):=by omega
 have e1:zE m x op a b=[]:=by simp[zE,n4,n5,n6,n19,n20,n21,n23,n24,n25,n26,n27,n28,n30,n31,n32,n33,n34];omega
 rw[e1];clear e1 hop;have HNO:=zH hno;clear hno;obtain⟨hw,hp⟩:=qH h m op a b w;have HW:=zH hw;have HP:=zH hp;have HI:=zH (H.now hw);clear hw hp H;go_enter Tryz.func138,Tryz.ntmps138;go_upto_region 1 with fail
 change Code.wp _ _ _ _ (qu h m op a b w);go_upto_region 2 with(go_at_call 171;(refine(qI (h:=h) (m:=m) (w:=w)).mono ?_);rintro e w2 ⟨rfl,rfl⟩)
 generalize qz h m op a b w=w2 at*
 have HX:Hid (Below w2.heap.size w2 w2):=zH (zb _ _);have HN:=zH HP.out.fnlt;have HC:=zH HP.out.fn;obtain⟨q0,q1,q2,q3,q4,q5,q6⟩:=HP.out.img;obtain⟨o0,o1,o2⟩:=qw HP.out.ins;go_wp2_with(go_at_call 179;(with_reducible refine(is_no op HNO.out _).mono ?_);rintro e w9 ⟨rfl,rfl⟩)
 go_ret;exact⟨none,0,rfl,kv,HW.out⟩
theorem qkw(m:za)(x:zh)(f:Nat)(op a b:Int)(h:zi)(w:World)(H:zm w w.heap.size h m)(hm:zN m)(hg:m.methods[f]? =some x)(hi:qf op a b=true)(hn:zZ m x op a b=true):
  Calls Tryz.prog 138 #[zp h m,zF op a b,.int .i64 f] w (qm (zE m x op a b) w):=by
 obtain⟨o0,o1,a0,a1,b0,b1⟩:=Qr hi;have hx:=hm.method (Xs hg);have hcl:m.classes.length≤1000:=by have:=hm.fits.cl;omega
 have hfl:∀c ∈m.classes,c.fields.length≤1000:=fun c hc=>by have:=(hm.fits.ct c hc).fl;omega
 by_cases hmath:7≤op∧op≤17
 ·exact qt5 m x f op a b hmath.1 hmath.2 h w H
 by_cases n4:op=4
 ·subst n4;exact ftk_4 m x f a b hg (by omega) h w H
 by_cases n5:op=5
 ·subst n5;exact ftk_5 m x f a b h w H
 by_cases n6:op=6
 ·subst n6;exact ftk_6 m x f a b h w H
 by_cases n19:op=19
 ·subst n19;exact ftk_19 m x f a b h w H
 by_cases n20:op=20
 ·subst n20;exact ftk_20 m x f a b h w H
 by_cases n21:op=21
 ·subst n21;exact ftk_21 m x f a b h w H
 by_cases n23:op=23
 ·subst n23;exact ftk_23 m x f a b h w H
 by_cases n24:op=24
 ·subst n24;exact ftk_24 m x f a b h w H
 by_cases n25:op=25
 ·subst n25;exact ftk_25 m x f a b h w H
 by_cases n26:op=26
 ·subst n26;exact ftk_26 m x f a b h w H
 by_cases n27:op=27
 ·subst n27;exact ftk_27 m x f a b h w H
 by_cases n28:op=28
 ·subst n28;obtain⟨k,rfl⟩:=Xq b0;have hk:k<(qh m.classes a).length:=by have:=(q0s (op:=28) (by omega) hn).2;omega
  exact ftk_28 m x f a k _ (Xc hk) hcl hfl h w H
 by_cases n30:op=30
 ·subst n30;obtain⟨j,rfl⟩:=Xq a0;have hj:j<m.statics.length:=by have:=q0q (op:=30) (by omega) hn;omega
  exact ftk_30 m x f j b _ (Xc hj) h w H
 by_cases n31:op=31
 ·subst n31;obtain⟨j,rfl⟩:=Xq a0;have hj:j<m.methods.length:=by have:=VI hn;omega
  exact ftk_31 m x f j b _ (Xc hj) h w H
 by_cases n32:op=32
 ·subst n32;obtain⟨_,k,y,hs,hy,hp⟩:=VH hm a0 b0 hn;exact ftk_32 m x f a b k hs y hy hp (by have:=(hm.method (Xs hy)).all;omega) h w H
 by_cases n33:op=33
 ·subst n33;exact ftk_33 m x f a b hg h w H
 by_cases n34:op=34
 ·subst n34;exact ftk_34 m x f a b h w H
 exact qt4 m x f op a b (by omega) n4 n5 n6 n19 n20 n21 n23 n24 n25 n26 n27 n28 n30 n31 n32 n33 n34 h w H
theorem ql7(m:za)(x:zh)(f:Nat)(op a b:Int)(tk:List (Int×Int))(A:Option Addr)(c:Nat)(htl:tk.length≤1000)(h:zi)(w:World)(H:zm w w.heap.size h m)(hm:zN m)(hg:m.methods[f]? =some x)(hi:qf op a b=true)(hn:zZ m x op a b=true)(HT:ze zc 2 w w.heap.size A c tk):
  Calls Tryz.prog 142 #[zp h m,zF op a b,.int .i64 f,.slice A tk.length c] w (qm (zV m x op a b tk) w):=by
 obtain⟨o0,o1,a0,a1,b0,b1⟩:=Qr hi;have hx:=hm.method (Xs hg);have hcl:m.classes.length≤1000:=by have:=hm.fits.cl;omega
 have hfl:∀c ∈m.classes,c.fields.length≤1000:=fun c hc=>by have:=(hm.fits.ct c hc).fl;omega
 by_cases hmath:7≤op∧op≤17
 ·exact qtc m x f op a b hmath.1 hmath.2 tk A c h w H
 by_cases n1:op=1
 ·subst n1;exact fgv_1 m x f a b tk A c h w H
 by_cases n2:op=2
 ·subst n2;exact fgv_2 m x f a b tk A c h w H
 by_cases n3:op=3
 ·subst n3;exact fgv_3 m x f a b hg (by omega) tk A c h w H
 by_cases n6:op=6
 ·subst n6;exact fgv_6 m x f a b tk A c htl h w H HT
 by_cases n20:op=20
 ·subst n20;exact fgv_20 m x f a b tk A c h w H
 by_cases n21:op=21
 ·subst n21;exact fgv_21 m x f a b tk A c h w H
 by_cases n22:op=22
 ·subst n22;exact fgv_22 m x f a b tk A c h w H
 by_cases n23:op=23
 ·subst n23;exact fgv_23 m x f a b tk A c h w H
 by_cases n24:op=24
 ·subst n24;exact fgv_24 m x f a b tk A c h w H
 by_cases n26:op=26
 ·subst n26;exact fgv_26 m x f a b tk A c h w H
 by_cases n27:op=27
 ·subst n27;obtain⟨k,rfl⟩:=Xq b0;have hk:k<(qh m.classes a).length:=by have:=(q0s (op:=27) (by omega) hn).2;omega
  exact fgv_27 m x f a k _ (Xc hk) hcl hfl tk A c h w H
 by_cases n29:op=29
 ·subst n29;obtain⟨j,rfl⟩:=Xq a0;have hj:j<m.statics.length:=by have:=q0q (op:=29) (by omega) hn;omega
  exact fgv_29 m x f j b _ (Xc hj) tk A c h w H
 by_cases n31:op=31
 ·subst n31;obtain⟨j,rfl⟩:=Xq a0;have hj:j<m.methods.length:=by have:=VI hn;omega
  exact fgv_31 m x f j b _ (Xc hj) tk A c h w H
 by_cases n32:op=32
 ·subst n32;obtain⟨_,k,y,hs,hy,hp⟩:=VH hm a0 b0 hn;exact fgv_32 m x f a b k hs y hy tk A c h w H
 by_cases n34:op=34
 ·subst n34;exact fgv_34 m x f a b tk A c h w H
 exact qtb m x f op a b (by omega) n1 n2 n3 n6 n20 n21 n22 n23 n24 n26 n27 n29 n31 n32 n34 tk A c h w H
theorem qpi{m:za}{x:zh}{f:Nat}{op a b:Int}{h:zi}{w0 w:World}{L:List (Int×Int)}(HI:Hid (zm w0 w0.heap.size h m))(HX:Hid (Below w0.heap.size w0 w))(hm:zN m)(HG:Hid (m.methods[f]? =some x))(HN:Hid (qf op a b=true∧zZ m x op a b=true))(HL:Hid (zE m x op a b=L)):
  Calls Tryz.prog 138 #[zp h m,zF op a b,.int .i64 f] w (qm L w):=by
 have H:=qkw m x f op a b h w (HI.out.now HX.out) hm HG.out HN.out.1 HN.out.2;rw[HL.out]at H;exact H
theorem qps{m:za}{x:zh}{f:Nat}{op a b:Int}{h:zi}{w0 w:World}{tk L:List (Int×Int)}{A:Option Addr}{c:Nat}(HI:Hid (zm w0 w0.heap.size h m))(HX:Hid (Below w0.heap.size w0 w))(hm:zN m)(HG:Hid (m.methods[f]? =some x))(HN:Hid (qf op a b=true∧zZ m x op a b=true))(HL:Hid (zV m x op a b tk=L))(htl:tk.length≤1000)(HT:ze zc 2 w w.heap.size A c tk):
  Calls Tryz.prog 142 #[zp h m,zF op a b,.int .i64 f,.slice A tk.length c] w (qm L w):=by
 have H:=ql7 m x f op a b tk A c htl h w (HI.out.now HX.out) hm HG.out HN.out.1 HN.out.2 HT;rw[HL.out]at H;exact H
end Go.Proofs.YtcmiljnbmgkdnaaGreat
