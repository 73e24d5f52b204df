import Derived.Test.YtcmiljnbmgkdnaaGreatFB45
namespace Go.Proofs.YtcmiljnbmgkdnaaGreat
set_option maxRecDepth 100000
set_option linter.unusedVariables false
set_option linter.unusedSimpArgs false
open Go.ChangeShapes Go.WideShapes Go.ChangeAt Go.RowKit
theorem q3j{w:World}{g:Nat}{h:zi}{m:za}(H:Hid (Boxed w g h m)):Hid (zm w w.heap.size h m):=zH H.out.img
theorem q2n(w:World):Hid (Below w.heap.size w w):=zH (zb _ _)
set_option maxHeartbeats 6400000 in
theorem qfo(m:za)(h:zi)(w:World)(H:zm w w.heap.size h m):
  Calls Tryz.prog 7 #[zp h m] w fun e w'=>e= .returned (.bool true)∧Below w.heap.size w w':=by
 have HW:=zH (vr (w:=w) (h:=h) (m:=m));have HM:=zH (Boxed.new H);clear H;obtain⟨r,hr⟩:∃r,zK m=r:=⟨_,rfl⟩
 have HF:=zH hr;go_enter Tryz.func7,Tryz.ntmps7;go_upto_region 1 with fail
 generalize w.alloc (zg h m)=w1 at*
 obtain⟨q0,q1,q2,q3,q4,q5,q6⟩:=HM.out.box;cases r
 ·clear hr;go_wp2_with(first|(go_at_call 8;(with_reducible refine(q2h (q3j HM) (q2n _)).mono ?_);rintro e w2 ⟨b,rfl,hb⟩;have HM:=zH (HM.out.keep hb);have HW:=zj HW hb;clear q0 q1 q2 q3 q4 q5 q6;obtain⟨q0,q1,q2,q3,q4,q5,q6⟩:=HM.out.box;clear hb;cases b)|(go_at_call 9;(with_reducible refine(qO _).mono ?_);rintro e w2 ⟨rfl,hb⟩;have HW:=zj HW hb;clear hb)|(go_at_call 15;(with_reducible refine(q6a HM HF).mono ?_);rintro e w2 ⟨rfl,hb⟩;have HM:=zH (HM.out.keep hb);have HW:=zj HW hb;clear q0 q1 q2 q3 q4 q5 q6;obtain⟨q0,q1,q2,q3,q4,q5,q6⟩:=HM.out.box;clear hb))
  all_goals
   go_ret;exact⟨rfl,HW.out⟩
 obtain⟨L,hL⟩:∃L,va m=L:=⟨_,rfl⟩
 have HE:=zH hL;have HOK:Hid (ZT m):=zH ⟨hr,q7l HM.out.img⟩;clear hr hL;by_cases hlen:8192<L.length
 ·have hli:(L.length:Int)>8192:=by omega
  go_wp2_with(first|(go_at_call 8;(with_reducible refine(q2h (q3j HM) (q2n _)).mono ?_);rintro e w2 ⟨b,rfl,hb⟩;have HM:=zH (HM.out.keep hb);have HW:=zj HW hb;clear q0 q1 q2 q3 q4 q5 q6;obtain⟨q0,q1,q2,q3,q4,q5,q6⟩:=HM.out.box;clear hb;cases b)|(go_at_call 9;(with_reducible refine(qO _).mono ?_);rintro e w2 ⟨rfl,hb⟩;have HW:=zj HW hb;clear hb)|(go_at_call 15;(with_reducible refine(q6a HM HF).mono ?_);rintro e w2 ⟨rfl,hb⟩;have HM:=zH (HM.out.keep hb);have HW:=zj HW hb;clear q0 q1 q2 q3 q4 q5 q6;obtain⟨q0,q1,q2,q3,q4,q5,q6⟩:=HM.out.box;clear hb)|(go_at_call 16;(with_reducible refine(q8k HM HF HE).mono ?_);rintro e w2 ⟨g,c,rfl,ho,hbi,hb⟩;have HW:=zj HW hb;clear hb ho hbi))
  all_goals
   go_ret;exact⟨rfl,HW.out⟩
 have hli:¬(L.length:Int)>8192:=by omega
 have HLE:=zH hlen;clear hlen;go_upto_region 6 with(first|(go_at_call 8;(with_reducible refine(q2h (q3j HM) (q2n _)).mono ?_);rintro e w2 ⟨b,rfl,hb⟩;have HM:=zH (HM.out.keep hb);have HW:=zj HW hb;clear q0 q1 q2 q3 q4 q5 q6;obtain⟨q0,q1,q2,q3,q4,q5,q6⟩:=HM.out.box;clear hb;cases b)|(go_at_call 9;(with_reducible refine(qO _).mono ?_);rintro e w2 ⟨rfl,hb⟩;have HW:=zj HW hb;clear hb)|(go_at_call 15;(with_reducible refine(q6a HM HF).mono ?_);rintro e w2 ⟨rfl,hb⟩;have HM:=zH (HM.out.keep hb);have HW:=zj HW hb;clear q0 q1 q2 q3 q4 q5 q6;obtain⟨q0,q1,q2,q3,q4,q5,q6⟩:=HM.out.box;clear hb)|(go_at_call 16;(with_reducible refine(q8k HM HF HE).mono ?_);rintro e w3 ⟨g,c,rfl,ho,hbi,hb⟩;have HM:=zH (HM.out.keep hb);have HBI:=zH hbi;have HW:=zj HW hb;clear hb ho hbi))
 ·go_ret;exact⟨rfl,HW.out⟩
 clear q0 q1 q2 q3 q4 q5 q6;obtain⟨q0,q1,q2,q3,q4,q5,q6⟩:=HM.out.box;go_upto_region 7 with(go_at_call 10;(with_reducible refine(Qw (q3j HM) (q2n _)).mono ?_);rintro e w4 ⟨Aa,na,ca,ea,rfl,hb,ha⟩;have HA:=zH ha;have HM4:=zH (HM.out.keep hb);have HBI4:=zH (HBI.out.keep hb);have HW4:=zj HW hb;clear hb ha)
 clear q0 q1 q2 q3 q4 q5 q6 HM HBI HW;have HLL:Hid (L.length=L.length):=zH rfl;go_upto_region 8 with(go_at_call 17;(with_reducible refine(qr8 HBI4 HLL).mono ?_);rintro e w5 ⟨hx,x,Ab,nb,cb,eb,rfl,hi,hb,hd⟩;have HI5:=zH hi;have HD:=zH hd;have HB5:=zH hb;have HM5:=zH (HM4.out.keep hb);have HW5:=zj HW4 hb;clear hb hi hd)
 obtain⟨x0,ed,hd1,hd2,hd3⟩:=HD.out;obtain⟨he0,rfl⟩:=qqo HOK.out HE.out HLE.out hd1 hd2;subst he0;obtain⟨_,hB,hx1,hx2⟩:=(hd3.resolve_left (fun q=>q.1 rfl))
 have heq:=qaj HA.out hB;subst heq;have HBX:=zH (Boxed.new HI5.out);have hbb:=vr (w:=w5) (h:=hx) (m:=x);have HM6:=zH (HM5.out.keep hbb);have HW6:=zj HW5 hbb;have HB6:=zH hbb;have hee:(ea !=ea)=false:=by simp
 by_cases h0:ea=0;rotate_left
 ·have hn1:na=0:=(q18 HA.out).1 h0;have hn2:nb=0:=(q18 hB).1 h0;subst hn1 hn2;have hne:(ea !=0)=true:=XC.mpr h0;clear h0 hx1 hx2 hB hd1 hd2 hd3 HD;go_wp2_with(go_at_call 9;(with_reducible refine(qO _).mono ?_);rintro e w7 ⟨rfl,hb⟩;have HW7:=zj HW6 hb;clear hb)
  go_ret;exact⟨rfl,HW7.out⟩
 subst h0;obtain rfl:=hx1 rfl;obtain⟨l,hl,hn,ht,_,_,_,_⟩:=(q18 HA.out).2 rfl;obtain⟨l',hl',hn',ht',_,_,_,_⟩:=(q18 hB).2 rfl;obtain rfl:=q7z hl hl';have HT:=zH ((ht.now HB5.out).now HB6.out);have HT':=zH (ht'.now HB6.out);have HNA:Hid (l.length=na):=zH hn.symm;have HNB:Hid (l.length=nb):=zH hn'.symm;clear hl hn ht hl' hn' ht' hx1 hx2 hB hd1 hd2 hd3 HD HA;generalize hg5:w5.heap.size=g5 at HBX⊢
 generalize w5.alloc (zg hx x)=w6 at*
 clear hg5 hbb;obtain⟨q0,q1,q2,q3,q4,q5,q6⟩:=HM6.out.box;obtain⟨p0,p1,p2,p3,p4,p5,p6⟩:=HBX.out.box;go_wp2_with(first
  |(go_at_call 9;(with_reducible refine(qO _).mono ?_);rintro e w7 ⟨rfl,hb⟩;have HW7:=zj HW6 hb;have HM7:=zH (HM6.out.keep hb);have HX7:=zH (HBX.out.keep hb);have HT7:=zH (HT.out.now hb);have HT7':=zH (HT'.out.now hb);clear q0 q1 q2 q3 q4 q5 q6 p0 p1 p2 p3 p4 p5 p6;obtain⟨q0,q1,q2,q3,q4,q5,q6⟩:=HM7.out.box;obtain⟨p0,p1,p2,p3,p4,p5,p6⟩:=HX7.out.box;clear hb)
  |(go_at_call 18;(with_reducible refine(qrz HX7 HM7 (zH (Xm rfl))).mono ?_);rintro e w8 ⟨rfl,hb⟩;have HW8:=zj HW7 hb;have HT8:=zH (HT7.out.now hb).1;have HT8':=zH (HT7'.out.now hb).1;clear hb)
  |(go_at_call 14;(with_reducible refine(qge HT8 HT8' HNA HNB).mono ?_);rintro e w9 ⟨rfl,hb⟩;have HW9:=zj HW8 hb;clear hb))
 go_ret;exact⟨rfl,HW9.out⟩
end Go.Proofs.YtcmiljnbmgkdnaaGreat
