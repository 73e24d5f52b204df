import Derived.Test.YtcmiljnbmgkdnaaGreatFB23
namespace Go.Proofs.YtcmiljnbmgkdnaaGreat
set_option maxRecDepth 100000
set_option linter.unusedVariables false
set_option linter.unusedSimpArgs false
open Go.ChangeShapes Go.WideShapes Go.ChangeAt Go.RowKit
theorem Jj{P:Prop}(h:P:=by
 have HX:Hid (Below w2.heap.size w2 w2):=zH (zb _ _);have HN:=zH HP.out.fnlt;have HC:=zH HP.out.fn;obtain⟨q0,q1,q2,q3,q4,q5,q6⟩:=HP.out.img;obtain⟨o0,o1,o2⟩:=qw HP.out.ins;go_wp2_with(go_at_call 194;(with_reducible refine(q71 HL HN HC HX).mono ?_);rintro e w3 ⟨v3,rfl,ho3,hb3⟩;have HO3:=zH ho3;have HX3:=zH hb3;clear ho3 hb3)
 go_ret;exact kQ.some_ (w0:=w2) ⟨_,rfl,HO3.out,HX3.out⟩ HW.out):P:=h
theorem fgv_1(m:za)(x:zh)(f:Nat)(a b:Int)(tk:List (Int×Int))(A:Option Addr)(c:Nat)(h:zi)(w:World)(H:zm w w.heap.size h m):
  Calls Tryz.prog 142 #[zp h m,zF 1 a b,.int .i64 f,.slice A tk.length c] w (qm (zV m x 1 a b tk) w):=by
 have e1:zV m x 1 a b tk=[(1,0)]:=by simp[zV,jg]
 rw[e1];clear e1;have HL:Hid (zS a [1]=[(1,0)]):=zH (by simp[zS,jm]);obtain⟨hw,hp⟩:=qH h m 1 a b w;have HW:=zH hw;have HP:=zH hp;have HI:=zH (H.now hw);clear hw hp H;go_enter Tryz.func142,Tryz.ntmps142;go_upto_region 1 with fail
 change Code.wp _ _ _ _ (qu h m 1 a b w);go_upto_region 2 with(go_at_call 171;(refine(qI (h:=h) (m:=m) (w:=w)).mono ?_);rintro e w2 ⟨rfl,rfl⟩)
 generalize qz h m 1 a b w=w2 at*
 exact Jj
theorem fgv_20(m:za)(x:zh)(f:Nat)(a b:Int)(tk:List (Int×Int))(A:Option Addr)(c:Nat)(h:zi)(w:World)(H:zm w w.heap.size h m):
  Calls Tryz.prog 142 #[zp h m,zF 20 a b,.int .i64 f,.slice A tk.length c] w (qm (zV m x 20 a b tk) w):=by
 have e1:zV m x 20 a b tk=[(1,0)]:=by simp[zV,jg]
 rw[e1];clear e1;have HL:Hid (zS a [1]=[(1,0)]):=zH (by simp[zS,jm]);obtain⟨hw,hp⟩:=qH h m 20 a b w;have HW:=zH hw;have HP:=zH hp;have HI:=zH (H.now hw);clear hw hp H;go_enter Tryz.func142,Tryz.ntmps142;go_upto_region 1 with fail
 change Code.wp _ _ _ _ (qu h m 20 a b w);go_upto_region 2 with(go_at_call 171;(refine(qI (h:=h) (m:=m) (w:=w)).mono ?_);rintro e w2 ⟨rfl,rfl⟩)
 generalize qz h m 20 a b w=w2 at*
 exact Jj
theorem fgv_21(m:za)(x:zh)(f:Nat)(a b:Int)(tk:List (Int×Int))(A:Option Addr)(c:Nat)(h:zi)(w:World)(H:zm w w.heap.size h m):
  Calls Tryz.prog 142 #[zp h m,zF 21 a b,.int .i64 f,.slice A tk.length c] w (qm (zV m x 21 a b tk) w):=by
 have e1:zV m x 21 a b tk=[(1,0)]:=by simp[zV,jg]
 rw[e1];clear e1;have HL:Hid (zS a [1]=[(1,0)]):=zH (by simp[zS,jm]);obtain⟨hw,hp⟩:=qH h m 21 a b w;have HW:=zH hw;have HP:=zH hp;have HI:=zH (H.now hw);clear hw hp H;go_enter Tryz.func142,Tryz.ntmps142;go_upto_region 1 with fail
 change Code.wp _ _ _ _ (qu h m 21 a b w);go_upto_region 2 with(go_at_call 171;(refine(qI (h:=h) (m:=m) (w:=w)).mono ?_);rintro e w2 ⟨rfl,rfl⟩)
 generalize qz h m 21 a b w=w2 at*
 exact Jj
theorem fgv_24(m:za)(x:zh)(f:Nat)(a b:Int)(tk:List (Int×Int))(A:Option Addr)(c:Nat)(h:zi)(w:World)(H:zm w w.heap.size h m):
  Calls Tryz.prog 142 #[zp h m,zF 24 a b,.int .i64 f,.slice A tk.length c] w (qm (zV m x 24 a b tk) w):=by
 have e1:zV m x 24 a b tk=[(1,0)]:=by simp[zV,jg]
 rw[e1];clear e1;have HL:Hid (zS a [1]=[(1,0)]):=zH (by simp[zS,jm]);obtain⟨hw,hp⟩:=qH h m 24 a b w;have HW:=zH hw;have HP:=zH hp;have HI:=zH (H.now hw);clear hw hp H;go_enter Tryz.func142,Tryz.ntmps142;go_upto_region 1 with fail
 change Code.wp _ _ _ _ (qu h m 24 a b w);go_upto_region 2 with(go_at_call 171;(refine(qI (h:=h) (m:=m) (w:=w)).mono ?_);rintro e w2 ⟨rfl,rfl⟩)
 generalize qz h m 24 a b w=w2 at*
 exact Jj
theorem fgv_26(m:za)(x:zh)(f:Nat)(a b:Int)(tk:List (Int×Int))(A:Option Addr)(c:Nat)(h:zi)(w:World)(H:zm w w.heap.size h m):
  Calls Tryz.prog 142 #[zp h m,zF 26 a b,.int .i64 f,.slice A tk.length c] w (qm (zV m x 26 a b tk) w):=by
 have e1:zV m x 26 a b tk=[(1,0)]:=by simp[zV,jg]
 rw[e1];clear e1;have HL:Hid (zS a [1]=[(1,0)]):=zH (by simp[zS,jm]);obtain⟨hw,hp⟩:=qH h m 26 a b w;have HW:=zH hw;have HP:=zH hp;have HI:=zH (H.now hw);clear hw hp H;go_enter Tryz.func142,Tryz.ntmps142;go_upto_region 1 with fail
 change Code.wp _ _ _ _ (qu h m 26 a b w);go_upto_region 2 with(go_at_call 171;(refine(qI (h:=h) (m:=m) (w:=w)).mono ?_);rintro e w2 ⟨rfl,rfl⟩)
 generalize qz h m 26 a b w=w2 at*
 exact Jj
theorem fgv_2(m:za)(x:zh)(f:Nat)(a b:Int)(tk:List (Int×Int))(A:Option Addr)(c:Nat)(h:zi)(w:World)(H:zm w w.heap.size h m):
  Calls Tryz.prog 142 #[zp h m,zF 2 a b,.int .i64 f,.slice A tk.length c] w (qm (zV m x 2 a b tk) w):=by
 have e1:zV m x 2 a b tk=[(4,0)]:=by simp[zV,jg]
 rw[e1];clear e1;have HL:Hid (zS a [4]=[(4,0)]):=zH (by simp[zS,jm]);obtain⟨hw,hp⟩:=qH h m 2 a b w;have HW:=zH hw;have HP:=zH hp;have HI:=zH (H.now hw);clear hw hp H;go_enter Tryz.func142,Tryz.ntmps142;go_upto_region 1 with fail
 change Code.wp _ _ _ _ (qu h m 2 a b w);go_upto_region 2 with(go_at_call 171;(refine(qI (h:=h) (m:=m) (w:=w)).mono ?_);rintro e w2 ⟨rfl,rfl⟩)
 generalize qz h m 2 a b w=w2 at*
 exact Jj
theorem fgv_22(m:za)(x:zh)(f:Nat)(a b:Int)(tk:List (Int×Int))(A:Option Addr)(c:Nat)(h:zi)(w:World)(H:zm w w.heap.size h m):
  Calls Tryz.prog 142 #[zp h m,zF 22 a b,.int .i64 f,.slice A tk.length c] w (qm (zV m x 22 a b tk) w):=by
 have e1:zV m x 22 a b tk=[(3,a)]:=by simp[zV,jg]
 rw[e1];clear e1;have HL:Hid (zS a [3]=[(3,a)]):=zH (by simp[zS,jm]);obtain⟨hw,hp⟩:=qH h m 22 a b w;have HW:=zH hw;have HP:=zH hp;have HI:=zH (H.now hw);clear hw hp H;go_enter Tryz.func142,Tryz.ntmps142;go_upto_region 1 with fail
 change Code.wp _ _ _ _ (qu h m 22 a b w);go_upto_region 2 with(go_at_call 171;(refine(qI (h:=h) (m:=m) (w:=w)).mono ?_);rintro e w2 ⟨rfl,rfl⟩)
 generalize qz h m 22 a b w=w2 at*
 exact Jj
theorem fgv_34(m:za)(x:zh)(f:Nat)(a b:Int)(tk:List (Int×Int))(A:Option Addr)(c:Nat)(h:zi)(w:World)(H:zm w w.heap.size h m):
  Calls Tryz.prog 142 #[zp h m,zF 34 a b,.int .i64 f,.slice A tk.length c] w (qm (zV m x 34 a b tk) w):=by
 have e1:zV m x 34 a b tk=[(3,a)]:=by simp[zV,jg]
 rw[e1];clear e1;have HL:Hid (zS a [3]=[(3,a)]):=zH (by simp[zS,jm]);obtain⟨hw,hp⟩:=qH h m 34 a b w;have HW:=zH hw;have HP:=zH hp;have HI:=zH (H.now hw);clear hw hp H;go_enter Tryz.func142,Tryz.ntmps142;go_upto_region 1 with fail
 change Code.wp _ _ _ _ (qu h m 34 a b w);go_upto_region 2 with(go_at_call 171;(refine(qI (h:=h) (m:=m) (w:=w)).mono ?_);rintro e w2 ⟨rfl,rfl⟩)
 generalize qz h m 34 a b w=w2 at*
 exact Jj
theorem fgv_23(m:za)(x:zh)(f:Nat)(a b:Int)(tk:List (Int×Int))(A:Option Addr)(c:Nat)(h:zi)(w:World)(H:zm w w.heap.size h m):
  Calls Tryz.prog 142 #[zp h m,zF 23 a b,.int .i64 f,.slice A tk.length c] w (qm (zV m x 23 a b tk) w):=by
 have e1:zV m x 23 a b tk=[(2,0)]:=by simp[zV,jg]
 rw[e1];clear e1;have HL:Hid (zS a [2]=[(2,0)]):=zH (by simp[zS,jm]);obtain⟨hw,hp⟩:=qH h m 23 a b w;have HW:=zH hw;have HP:=zH hp;have HI:=zH (H.now hw);clear hw hp H;go_enter Tryz.func142,Tryz.ntmps142;go_upto_region 1 with fail
 change Code.wp _ _ _ _ (qu h m 23 a b w);go_upto_region 2 with(go_at_call 171;(refine(qI (h:=h) (m:=m) (w:=w)).mono ?_);rintro e w2 ⟨rfl,rfl⟩)
 generalize qz h m 23 a b w=w2 at*
 exact Jj
theorem qtc(m:za)(x:zh)(f:Nat)(op a b:Int)(h7:7≤op)(h17:op≤17)(tk:List (Int×Int))(A:Option Addr)(c:Nat)(h:zi)(w:World)(H:zm w w.heap.size h m):
  Calls Tryz.prog 142 #[zp h m,zF op a b,.int .i64 f,.slice A tk.length c] w (qm (zV m x op a b tk) w):=by
 have hop:7≤op∧op≤17:=⟨h7,h17⟩
 have n1:¬op=1:=by omega
 have n2:¬op=2:=by omega
 have n3:¬op=3:=by omega
 have n6:¬op=6:=by omega
 have n20:¬op=20:=by omega
 have n21:¬op=21:=by omega
 have n22:¬op=22:=by omega
 have n23:¬op=23:=by omega
 have n24:¬op=24:=by omega
 have n26:¬op=26:=by omega
 have n27:¬op=27:=by omega
 have n29:¬op=29:=by omega
 have n31:¬op=31:=by omega
 have n32:¬op=32:=by omega
 have n34:¬op=34:=by omega
 have e1:zV m x op a b tk=[(1,0)]:=by simp[zV,jg,n1,n2,n3,n6,n20,n21,n22,n23,n24,n26,n27,n29,n31,n32,n34,hop]
 rw[e1];clear e1 hop;have HL:Hid (zS a [1]=[(1,0)]):=zH (by simp[zS,jm]);obtain⟨hw,hp⟩:=qH h m op a b w;have HW:=zH hw;have HP:=zH hp;have HI:=zH (H.now hw);clear hw hp H;go_enter Tryz.func142,Tryz.ntmps142;go_upto_region 1 with fail
 change Code.wp _ _ _ _ (qu h m op a b w);go_upto_region 2 with(go_at_call 171;(refine(qI (h:=h) (m:=m) (w:=w)).mono ?_);rintro e w2 ⟨rfl,rfl⟩)
 generalize qz h m op a b w=w2 at*
 have HX:Hid (Below w2.heap.size w2 w2):=zH (zb _ _);have HN:=zH HP.out.fnlt;have HC:=zH HP.out.fn;obtain⟨q0,q1,q2,q3,q4,q5,q6⟩:=HP.out.img;obtain⟨o0,o1,o2⟩:=qw HP.out.ins;go_wp2_with(first|(go_at_call 179;(with_reducible refine(qf7 op h7 h17 _).mono ?_);rintro e w9 ⟨rfl,rfl⟩)|(go_at_call 194;(with_reducible refine(q71 HL HN HC HX).mono ?_);rintro e w3 ⟨v3,rfl,ho3,hb3⟩;have HO3:=zH ho3;have HX3:=zH hb3;clear ho3 hb3))
 go_ret;exact kQ.some_ (w0:=w2) ⟨_,rfl,HO3.out,HX3.out⟩ HW.out
theorem qtb(m:za)(x:zh)(f:Nat)(op a b:Int)(hno:op<7∨17<op)(n1:¬op=1)(n2:¬op=2)(n3:¬op=3)(n6:¬op=6)(n20:¬op=20)(n21:¬op=21)(n22:¬op=22)(n23:¬op=23)(n24:¬op=24)(n26:¬op=26)(n27:¬op=27)(n29:¬op=29)(n31:¬op=31)(n32:¬op=32)(n34:¬op=34)(tk:List (Int×Int))(A:Option Addr)(c:Nat)(h:zi)(w:World)(H:zm w w.heap.size h m):
  Calls Tryz.prog 142 #[zp h m,zF op a b,.int .i64 f,.slice A tk.length c] w (qm (zV m x op a b tk) w):=by
 have hop:¬(7≤op∧op≤17):=by omega
 have e1:zV m x op a b tk=[]:=by simp[zV,jg,n1,n2,n3,n6,n20,n21,n22,n23,n24,n26,n27,n29,n31,n32,n34];omega
 rw[e1];clear e1 hop;have HNO:=zH hno;clear hno;obtain⟨hw,hp⟩:=qH h m op a b w;have HW:=zH hw;have HP:=zH hp;have HI:=zH (H.now hw);clear hw hp H;go_enter Tryz.func142,Tryz.ntmps142;go_upto_region 1 with fail
 change Code.wp _ _ _ _ (qu h m op a b w);go_upto_region 2 with(go_at_call 171;(refine(qI (h:=h) (m:=m) (w:=w)).mono ?_);rintro e w2 ⟨rfl,rfl⟩)
 generalize qz h m op a b w=w2 at*
 have HX:Hid (Below w2.heap.size w2 w2):=zH (zb _ _);have HN:=zH HP.out.fnlt;have HC:=zH HP.out.fn;obtain⟨q0,q1,q2,q3,q4,q5,q6⟩:=HP.out.img;obtain⟨o0,o1,o2⟩:=qw HP.out.ins;go_wp2_with(go_at_call 179;(with_reducible refine(is_no op HNO.out _).mono ?_);rintro e w9 ⟨rfl,rfl⟩)
 go_ret;exact⟨none,0,rfl,kv,HW.out⟩
end Go.Proofs.YtcmiljnbmgkdnaaGreat
