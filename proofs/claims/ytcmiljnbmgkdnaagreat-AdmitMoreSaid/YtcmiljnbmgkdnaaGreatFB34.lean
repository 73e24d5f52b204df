import Derived.Test.YtcmiljnbmgkdnaaGreatFB32
import Derived.Test.YtcmiljnbmgkdnaaGreatFB27
import Derived.Test.YtcmiljnbmgkdnaaGreatFB16
import Derived.Test.YtcmiljnbmgkdnaaGreatFB31
import Derived.Test.YtcmiljnbmgkdnaaGreatFB11
namespace Go.Proofs.YtcmiljnbmgkdnaaGreat
set_option maxRecDepth 100000
set_option linter.unusedVariables false
set_option linter.unusedSimpArgs false
open Go.ChangeShapes Go.WideShapes Go.ChangeAt Go.RowKit
def Yf(m:za)(i:Nat):Bool:=match m.classes[i]? with
 |some x=>decide ((qh m.classes (i:Int)).length≤8)&& vX m i x
 |none=>true
def q3o(m:za):Bool:=(List.range m.classes.length).all (Yf m)
theorem q2l{m:za}{i:Nat}{x:zJ}(h:m.classes[i]? =some x):Yf m i=(decide ((qh m.classes (i:Int)).length≤8)&& vX m i x):=by
 unfold Yf;rw[h]
theorem qab{m:za}{i:Nat}(hi:i<m.classes.length)(h:Yf m i=false):q3o m=false:=by
 rw[Wa];intro g;have:=Xx.mp g i (XR.mpr hi);rw[h]at this;cases this
theorem qr9{m:za}{i:Nat}{x:zJ}(h:∀j<i,Yf m j=true)(hs:x.sup<(i:Int))(hp:∀y ∈m.classes,∀s ∈y.slots,0≤s):∀q ∈Zl m x,0≤q∧∃g,m.methods[q.toNat]? =some g∧0<g.args.length:=fun q hq=>by
 unfold Zl at hq;split at hq
 ·cases hy:m.classes[x.sup.toNat]? with
  |none=>rw[hy]at hq;simp at hq
  |some y=>
   rw[hy]at hq;have h1:=h x.sup.toNat (by omega)
   rw[q2l hy]at h1;simp only[Xr]at h1;have h2:=h1.2;unfold vX at h2;simp only[Xr]at h2;obtain⟨j,hj⟩:=q47 _ _ h2.2 q hq;exact⟨hp y (Xs hy) q hq,q88 hj⟩
 ·simp at hq
def vI(m:za):Bool:=Jq m&& (kX m.classes&& (q3o m&& (m.methods.all (vi m)&& m.entries.all (vj m))))
theorem q5a{m:za}{h:zi}{w0 w:World}{r:Bool}(HI:Hid (zm w0 w0.heap.size h m))(HX:Hid (Below w0.heap.size w0 w))(HN:Hid (m.classes.length≤1000))(HN':Hid (m.methods.length≤1000))(HR:Hid (Jq m=r)):
  Calls Tryz.prog 83 #[zp h m] w fun e w'=>e= .returned (.bool r)∧Below w.heap.size w w':=by
 have H:=qin m h w (HI.out.now HX.out) HN.out HN'.out;rw[HR.out]at H;exact H
theorem q97{m:za}{h:zi}{w0 w:World}{r:Bool}(HI:Hid (zm w0 w0.heap.size h m))(HX:Hid (Below w0.heap.size w0 w))(HR:Hid (kX m.classes=r)):
  Calls Tryz.prog 84 #[.slice h.A0 m.classes.length h.c0] w fun e w'=>e= .returned (.bool r)∧Below w.heap.size w w':=by
 have H:=qh1 m.classes h.A0 h.c0 w.heap.size w (zn _) (HI.out.now HX.out).classes;rw[HR.out]at H;exact H
theorem qau{m:za}{x:zJ}{i:Nat}{h:zi}{w0 w:World}{r:Bool}(HI:Hid (zm w0 w0.heap.size h m))(HX:Hid (Below w0.heap.size w0 w))(HG:Hid (m.classes[i]? =some x))(HP:Hid (∀y ∈m.classes,∀s ∈y.slots,0≤s))(HS:Hid (x.sup<m.classes.length))(HT:Hid (Yt m))
  (HQ:Hid (∀q ∈Zl m x,0≤q∧∃g,m.methods[q.toNat]? =some g∧0<g.args.length)) (HR:Hid (vX m i x=r)):
  Calls Tryz.prog 86 #[zp h m,.int .i64 (i:Int)] w fun e w'=>e= .returned (.bool r)∧Below w.heap.size w w':=by
 have H:=qir m x i h w (HI.out.now HX.out) HG.out HP.out HS.out HT.out.n HQ.out;rw[HR.out]at H;exact H
theorem q99{m:za}{x:zh}{N:Nat}{h:zi}{hx:qx}{w0 w:World}{r:Bool}(HI:Hid (zm w0 w0.heap.size h m))(HM:Hid (jt w0 w0.heap.size hx x))(HX:Hid (Below w0.heap.size w0 w))(HK:Hid (ZB w N h m))(HT:Hid (Yt m))(HU:Hid (q0m x))(HS:Hid (kX m.classes=true))(HR:Hid (vi m x=r)):
  Calls Tryz.prog 87 #[zp h m,kn hx x,cntV N] w fun e w'=>e= .returned (.bool r)∧Below w.heap.size w w':=by
 have H:=qh4 m x N h hx w (HI.out.now HX.out) (HM.out.now HX.out) HK.out HT.out HU.out HS.out;rw[HR.out]at H;exact H
theorem qb0{m:za}{n:Nat}{h:zi}{w0 w:World}{r:Bool}(HI:Hid (zm w0 w0.heap.size h m))(HX:Hid (Below w0.heap.size w0 w))(HR:Hid (vj m (n:Int)=r)):
  Calls Tryz.prog 88 #[zp h m,.int .i64 (n:Int)] w fun e w'=>e= .returned (.bool r)∧Below w.heap.size w w':=by
 have H:=qj0 m n h w (HI.out.now HX.out);rw[HR.out]at H;exact H
theorem q6k{m:za}{c:Int}{h:zi}{N:Nat}{w0 w:World}{L:List (Int×Int)}(HI:Hid (zm w0 w0.heap.size h m))(HX:Hid (Below w0.heap.size w0 w))(HK:Hid (ZB w N h m))(HS:Hid (kX m.classes=true))(HT:Hid (Yt m))(h1:c<m.classes.length)(HL:Hid (qh m.classes c=L)):
  Calls Tryz.prog 128 #[.int .i64 c,.pointer (some ⟨N,0,none⟩)] w fun e w'=>e= .returned (.int .i64 (L.length:Int))∧w=w':=by
 have H:=q9c m.classes c N h.A0 h.c0 w.heap.size w (zn _) (HI.out.now HX.out).classes HK.out.cell HS.out HT.out.f HT.out.n h1;rw[HL.out]at H;exact H
theorem qvf(h:zi)(m:za)(w:World):ZB (w.alloc (.cells #[.slice h.A0 m.classes.length h.c0] 22)) w.heap.size h m:=
 ⟨qr w [.slice h.A0 m.classes.length h.c0] 22 0 _ rfl,by simp⟩
theorem Yv{P:Prop}(h:P:=by
 go_ret;exact⟨by rw[E2.out];rfl,HW.out.trans (HX.out.mono (Xh HZ.out))⟩):P:=h
set_option maxHeartbeats 6400000 in
theorem qit(m:za)(h:zi)(w:World)(H:zm w w.heap.size h m)(hf:q79 m):
  Calls Tryz.prog 49 #[zp h m] w fun e w'=>e= .returned (.bool (vI m))∧Below w.heap.size w w':=by
 have HW:=zH (vr (w:=w) (h:=h) (m:=m));have HBX:=zH (ql w h m);have HZ:Hid (w.heap.size<(w.alloc (zg h m)).heap.size):=zH (by simp);have HI:=zH (H.now HW.out);have HN:Hid (m.classes.length≤1000):=zH (by have:=hf.cl;omega);have HNM:Hid (m.methods.length≤1000):=zH (by have:=hf.ml;omega);have HT:Hid (Yt m):=zH ⟨by have:=hf.cl;omega,fun x hx=>by have:=(hf.ct x hx).fl;omega⟩;have HTM:Hid (∀x ∈m.methods,q0m x):=zH (fun x hx=>⟨by have:=(hf.mt x hx).al;omega,by have:=(hf.mt x hx).ll;omega,fun i hi=>(Qr ((hf.mt x hx).ct i hi)).2.2.1⟩);have HP:Hid (∀y ∈m.classes,∀s ∈y.slots,0≤s):=zH (fun y hy s hs=>((hf.ct y hy).st s hs).1);have HPE:Hid (∀n ∈m.entries,0≤n):=zH (fun n hn=>(hf.et n hn).1);have l0:=H.classes.le;have l0c:=H.classes.cap;have l3:=H.methods.le;have l3c:=H.methods.cap;have l4:=H.entries.le;have l4c:=H.entries.cap;clear H hf;obtain⟨d1,hd1⟩:∃d,Jq m=d:=⟨_,rfl⟩
 have D1:=zH hd1;obtain⟨d2,hd2⟩:∃d,kX m.classes=d:=⟨_,rfl⟩
 have D2:=zH hd2;clear hd1 hd2;go_enter Tryz.func49,Tryz.ntmps49;go_upto_region 1 with fail
 generalize w.alloc (zg h m)=w1 at*
 obtain⟨q0,q1,q2,q3,q4,q5,q6⟩:=HBX.out;have HX:Hid (Below w1.heap.size w1 w1):=zH (zb _ _);cases d1
 ·have E2:=zH (show vI m=false by unfold vI;rw[D1.out];rfl);go_wp2_with(go_at_call 83;(with_reducible refine(q5a HI HX HN HNM D1).mono ?_);rintro e w5 ⟨rfl,hb⟩;have HX:=zj HX hb;obtain⟨q0,q1,q2,q3,q4,q5,q6⟩:=HBX.out.keep HX.out HZ.out;clear hb)
  exact Yv
 ·cases d2
  ·have E2:=zH (show vI m=false by unfold vI;rw[D1.out,D2.out];rfl);go_wp2_with((first|(go_at_call 83;(with_reducible refine(q5a HI HX HN HNM D1).mono ?_))|(go_at_call 84;(with_reducible refine(q97 HI HX D2).mono ?_)));rintro e w5 ⟨rfl,hb⟩;have HX:=zj HX hb;obtain⟨q0,q1,q2,q3,q4,q5,q6⟩:=HBX.out.keep HX.out HZ.out;clear hb)
   exact Yv
  ·have HS:=D2;go_upto_region 4 with(first|((first|(go_at_call 83;(with_reducible refine(q5a HI HX HN HNM D1).mono ?_))|(go_at_call 84;(with_reducible refine(q97 HI HX D2).mono ?_)));rintro e w5 ⟨rfl,hb⟩;have HX:=zj HX hb;obtain⟨q0,q1,q2,q3,q4,q5,q6⟩:=HBX.out.keep HX.out HZ.out;clear hb)|(go_at_call 85;(with_reducible refine(qga _ _ _ _).mono ?_);rintro e w6 ⟨rfl,hw6⟩;have HK:Hid (ZB w6 w5.heap.size h m):=zH (by rw[hw6];exact qvf h m w5);have HX:=zH (show Below w1.heap.size w1 w6 by rw[hw6];exact HX.out.alloc HX.out.size _);obtain⟨q0,q1,q2,q3,q4,q5,q6⟩:=HBX.out.keep HX.out HZ.out;clear hw6))
   generalize w5.heap.size=N at*
   go_wp2_with fail
   go_loopw [24] (fun i wr=>∃k:Nat,k≤m.classes.length∧i= .int .i64 k∧Hid (∀j<k,Yf m j=true)∧Hid (ZB wr N h m)∧Hid (Below w1.heap.size w1 wr)) (fun i _=>m.classes.length - (intOf i).toNat)
   case atStart=>exact⟨0,by omega,rfl,zH (by intro j hj;omega),HK,HX⟩
   case round=>
    clear HX HK q0 q1 q2 q3 q4 q5 q6;obtain⟨k,hk,rfl,HNC,HK,HX⟩:=hrel;obtain⟨q0,q1,q2,q3,q4,q5,q6⟩:=HBX.out.keep HX.out HZ.out;by_cases hlt:k<m.classes.length
    ·have HG:=zH (Xc hlt);generalize m.classes[k]=x at*
     have hsx:=q1j D2.out HG.out;have HSX:Hid (x.sup<m.classes.length):=zH (by omega);have HPQ:=zH (qr9 HNC.out hsx HP.out);have HCA:=zH (q2l HG.out);have hki:(k:Int)<(m.classes.length:Int):=by omega
     obtain⟨L,hL⟩:∃L,qh m.classes (k:Int)=L:=⟨_,rfl⟩
     rw[hL]at HCA;have HL:=zH hL;obtain⟨d3,hd3⟩:∃d,vX m k x=d:=⟨_,rfl⟩
     have D3:=zH hd3;clear hd3 hL hsx;by_cases c8:L.length≤8
     ·have ct8:¬(8:Int)<(L.length:Int):=by omega
      cases d3
      ·have E2:=zH (show vI m=false by unfold vI;rw[D1.out,D2.out,qab hlt (HCA.out.trans (by rw[D3.out];simp))];rfl);go_wp2_with(first|(go_at_call 128;(with_reducible refine(q6k HI HX HK HS HT hki HL).mono ?_);rintro e w7 ⟨rfl,rfl⟩)|(go_at_call 86;(with_reducible refine(qau HI HX HG HP HSX HT HPQ D3).mono ?_);rintro e w7 ⟨rfl,hb⟩;have HX:=zj HX hb;obtain⟨q0,q1,q2,q3,q4,q5,q6⟩:=HBX.out.keep HX.out HZ.out;have HK:=zH (HK.out.now hb);clear hb))
       exact Yv
      ·have HY:Hid (∀j<k+1,Yf m j=true):=zH (fun j hj=>by
        by_cases e:j=k
        ·subst e;rw[HCA.out,D3.out,Xm c8];rfl
        ·exact HNC.out j (by omega))
       go_wp2_with(first|(go_at_call 128;(with_reducible refine(q6k HI HX HK HS HT hki HL).mono ?_);rintro e w7 ⟨rfl,rfl⟩)|(go_at_call 86;(with_reducible refine(qau HI HX HG HP HSX HT HPQ D3).mono ?_);rintro e w7 ⟨rfl,hb⟩;have HX:=zj HX hb;obtain⟨q0,q1,q2,q3,q4,q5,q6⟩:=HBX.out.keep HX.out HZ.out;have HK:=zH (HK.out.now hb);clear hb))
       go_roundw;case rel=>exact⟨k+1,by omega,by go_num,HY,HK,HX⟩
       case measure=>simp[intOf];omega
     ·have ct8:(8:Int)<(L.length:Int):=by omega
      have E2:=zH (show vI m=false by unfold vI;rw[D1.out,D2.out,qab hlt (HCA.out.trans (by rw[Xg c8];rfl))];rfl);go_wp2_with(go_at_call 128;(with_reducible refine(q6k HI HX HK HS HT hki HL).mono ?_);rintro e w7 ⟨rfl,rfl⟩)
      exact Yv
    ·have HCO:=zH (show q3o m=true from Xx.mpr fun j hj=>HNC.out j (by have:=XR.mp hj;omega));go_wp2_with fail
     go_loopw [41] (fun i wr=>∃k:Nat,k≤m.methods.length∧i= .int .i64 k∧Hid (∀x ∈m.methods.take k,vi m x=true)∧Hid (ZB wr N h m)∧Hid (Below w1.heap.size w1 wr)) (fun i _=>m.methods.length - (intOf i).toNat)
     case atStart=>exact⟨0,by omega,rfl,zH (by simp),HK,HX⟩
     case round=>
      clear HX HK q0 q1 q2 q3 q4 q5 q6 hlt hk;obtain⟨k,hk,rfl,HNM2,HK,HX⟩:=hrel;obtain⟨q0,q1,q2,q3,q4,q5,q6⟩:=HBX.out.keep HX.out HZ.out;by_cases hlt:k<m.methods.length
      ·obtain⟨ad,e0,hab,hc⟩:=HI.out.methods.row.at_ hlt;have HNO:=zH (fun g:vi m m.methods[k]=false=>vK hlt g);have HYE:=zH (fun g:vi m m.methods[k]=true=>vH hlt HNM2.out g);have HU:=zH (HTM.out _ (Xf hlt));generalize m.methods[k]=x at*
       obtain⟨⟨A0,k0,s0,hs0⟩,⟨A1,k1,s1,hs1⟩,s2,s3,⟨A4,k4,s4,hs4⟩,s5,s6,⟨A7,k7,s7,hs7⟩⟩:=hc;have hP:(ad.add (k*8)).block<w1.heap.size:=by rw[zu];exact hab
       have s0:=(HX.out.cell hP).trans s0;have s1:=(HX.out.cell (p:=zf (ad.add (k*8)) 1) hP).trans s1;have s2:=(HX.out.cell (p:=zf (ad.add (k*8)) 2) hP).trans s2;have s3:=(HX.out.cell (p:=zf (ad.add (k*8)) 3) hP).trans s3;have s4:=(HX.out.cell (p:=zf (ad.add (k*8)) 4) hP).trans s4;have s5:=(HX.out.cell (p:=zf (ad.add (k*8)) 5) hP).trans s5;have s6:=(HX.out.cell (p:=zf (ad.add (k*8)) 6) hP).trans s6;have s7:=(HX.out.cell (p:=zf (ad.add (k*8)) 7) hP).trans s7;have HMX:Hid (jt w1 w1.heap.size ⟨A0,A1,A4,A7,k0,k1,k4,k7⟩ x):=zH ⟨hs0,hs1,hs4,hs7⟩;rw[e0];obtain⟨d4,hd4⟩:∃d,vi m x=d:=⟨_,rfl⟩
       have D4:=zH hd4;clear hd4 e0 hs0 hs1 hs4 hs7 hP hab;go_upto_region 13 with fail
       have HB3:=zH (qr wr [.slice A0 x.args.length k0,.slice A1 x.locals.length k1,.int .i64 x.ret.1,.int .i64 x.ret.2,.slice A4 x.code.length k4,.int .i64 x.depth,.int .i64 x.pot,.slice A7 x.phi.length k7] 53);have HK:=zH (HK.out.now ((zb wr.heap.size wr).alloc (zn _) (.cells ([.slice A0 x.args.length k0,.slice A1 x.locals.length k1,.int .i64 x.ret.1,.int .i64 x.ret.2,.slice A4 x.code.length k4,.int .i64 x.depth,.int .i64 x.pot,.slice A7 x.phi.length k7]:List Value).toArray 53)));have HX:=zH (HX.out.alloc HX.out.size (.cells ([.slice A0 x.args.length k0,.slice A1 x.locals.length k1,.int .i64 x.ret.1,.int .i64 x.ret.2,.slice A4 x.code.length k4,.int .i64 x.depth,.int .i64 x.pot,.slice A7 x.phi.length k7]:List Value).toArray 53));have HB3:Hid (zW (wr.alloc (.cells ([.slice A0 x.args.length k0,.slice A1 x.locals.length k1,.int .i64 x.ret.1,.int .i64 x.ret.2,.slice A4 x.code.length k4,.int .i64 x.depth,.int .i64 x.pot,.slice A7 x.phi.length k7]:List Value).toArray 53)) wr.heap.size [.slice A0 x.args.length k0,.slice A1 x.locals.length k1,.int .i64 x.ret.1,.int .i64 x.ret.2,.slice A4 x.code.length k4,.int .i64 x.depth,.int .i64 x.pot,.slice A7 x.phi.length k7]):=HB3;clear q0 q1 q2 q3 q4 q5 q6 s0 s1 s2 s3 s4 s5 s6 s7;generalize wr.alloc (.cells ([.slice A0 x.args.length k0,.slice A1 x.locals.length k1,.int .i64 x.ret.1,.int .i64 x.ret.2,.slice A4 x.code.length k4,.int .i64 x.depth,.int .i64 x.pot,.slice A7 x.phi.length k7]:List Value).toArray 53)=w3 at*
       generalize wr.heap.size=gb at*
       obtain⟨b0,b1,b2,b3,b4,b5,b6,b7⟩:=zY HB3.out;obtain⟨q0,q1,q2,q3,q4,q5,q6⟩:=HBX.out.keep HX.out HZ.out;cases d4
       ·have E2:=zH (show vI m=false by unfold vI;rw[D1.out,D2.out,HCO.out,HNO.out D4.out];rfl);go_wp2_with(go_at_call 87;(with_reducible refine(q99 HI HMX HX HK HT HU HS D4).mono ?_);rintro e w7 ⟨rfl,hb⟩;have HX:=zj HX hb;obtain⟨q0,q1,q2,q3,q4,q5,q6⟩:=HBX.out.keep HX.out HZ.out;have HK:=zH (HK.out.now hb);clear hb)
        exact Yv
       ·have HY:=zH (HYE.out D4.out);go_wp2_with(go_at_call 87;(with_reducible refine(q99 HI HMX HX HK HT HU HS D4).mono ?_);rintro e w7 ⟨rfl,hb⟩;have HX:=zj HX hb;obtain⟨q0,q1,q2,q3,q4,q5,q6⟩:=HBX.out.keep HX.out HZ.out;have HK:=zH (HK.out.now hb);clear hb)
        go_roundw;case rel=>exact⟨k+1,by omega,by go_num,HY,HK,HX⟩
        case measure=>simp[intOf];omega
      ·have HMA:=zH (show m.methods.all (vi m)=true from vL HNM2.out (by omega));go_wp2_with fail
       go_loopw [54] (fun i wr=>∃k:Nat,k≤m.entries.length∧i= .int .i64 k∧Hid (∀n ∈m.entries.take k,vj m n=true)∧Hid (ZB wr N h m)∧Hid (Below w1.heap.size w1 wr)) (fun i _=>m.entries.length - (intOf i).toNat)
       case atStart=>exact⟨0,by omega,rfl,zH (by simp),HK,HX⟩
       case round=>
        clear HX HK q0 q1 q2 q3 q4 q5 q6 hlt hk;obtain⟨k,hk,rfl,HNE,HK,HX⟩:=hrel;obtain⟨q0,q1,q2,q3,q4,q5,q6⟩:=HBX.out.keep HX.out HZ.out;by_cases hlt:k<m.entries.length
        ·obtain⟨ad,e0,hab,hc⟩:=HI.out.entries.row.at_ hlt;have hp:=HPE.out _ (Xf hlt);have HNO:=zH (fun g:vj m m.entries[k]=false=>vK hlt g);have HYE:=zH (fun g:vj m m.entries[k]=true=>vH hlt HNE.out g);generalize m.entries[k]=n0 at*
         obtain⟨n,rfl⟩:=Xq hp;rw[Xz]at hc;have t0:=(HX.out.cell (p:=ad.add k) (by rw[zu];exact hab)).trans hc;rw[e0];obtain⟨d5,hd5⟩:∃d,vj m (n:Int)=d:=⟨_,rfl⟩
         have D5:=zH hd5;clear hd5 e0 hc hab hp;cases d5
         ·have E2:=zH (show vI m=false by unfold vI;rw[D1.out,D2.out,HCO.out,HMA.out,HNO.out D5.out];rfl);go_wp2_with(go_at_call 88;(with_reducible refine(qb0 HI HX D5).mono ?_);rintro e w7 ⟨rfl,hb⟩;have HX:=zj HX hb;obtain⟨q0,q1,q2,q3,q4,q5,q6⟩:=HBX.out.keep HX.out HZ.out;have HK:=zH (HK.out.now hb);clear hb)
          exact Yv
         ·have HY:=zH (HYE.out D5.out);go_wp2_with(go_at_call 88;(with_reducible refine(qb0 HI HX D5).mono ?_);rintro e w7 ⟨rfl,hb⟩;have HX:=zj HX hb;obtain⟨q0,q1,q2,q3,q4,q5,q6⟩:=HBX.out.keep HX.out HZ.out;have HK:=zH (HK.out.now hb);clear hb)
          go_roundw;case rel=>exact⟨k+1,by omega,by go_num,HY,HK,HX⟩
          case measure=>simp[intOf];omega
        ·have E2:=zH (show vI m=true by unfold vI;rw[D1.out,D2.out,HCO.out,HMA.out,show m.entries.all (vj m)=true from vL HNE.out (by omega)];rfl);go_wp2_with fail
         exact Yv
theorem ql2{m:za}(h:zK m=true):∀x ∈m.methods,qd x.ret=true∧∀t ∈x.args,qd t=true:=fun x hx=>by
 unfold zK at h;simp only[Xr]at h;have h1:=Xx.mp h.2.2 x hx;unfold qD at h1;simp only[Xr]at h1;exact⟨h1.2.2.1,(Xy h1.1:_∧_).2⟩
theorem q2r{t:Int×Int}{k:Int}(h:qd t=true)(hk:k≠3):(t=(k,0))↔t.1=k:=by
 have h:=Xy h;constructor
 ·rintro rfl;rfl
 ·intro e;have:t.2=0:=by omega
  exact Prod.ext e this
theorem qlf{m:za}(h:zK m=true)(n:Int):vj m n=Ye m n:=by
 unfold vj Ye;cases hf:m.methods[n.toNat]? with
 |none=>rfl
 |some f=>
  obtain⟨h1,h2⟩:=ql2 h f (Xs hf);dsimp only;rw[XV];simp only[Xr,Wf,Xx,Xt];rw[q2r h1 (by decide),q2r h1 (by decide)];constructor
  ·rintro⟨g1,g2⟩;exact⟨g2,fun t ht=>(q2r (h2 t ht) (by decide)).mp (g1 t ht)⟩
  ·rintro⟨g2,g1⟩;exact⟨fun t ht=>(q2r (h2 t ht) (by decide)).mpr (g1 t ht),g2⟩
theorem qos(m:za)(c:Int):Vl (kr m m.methods.length) c=true↔vw m.statics c=true∧(∀x ∈m.classes,vw x.fields c=true)∧∀x ∈m.methods,vw x.args c=true∧vw x.locals c=true:=by
 unfold Vl kr;rw[XK (zn _)];simp only[List.all_cons,List.all_append,Xr,Xx,XW,List.mem_flatMap];constructor
 ·rintro⟨h1,h2,h3⟩;refine⟨h1,fun x hx=>h2 _ ⟨x,hx,rfl⟩,fun x hx=>⟨h3 _ ⟨x,hx,by simp⟩,h3 _ ⟨x,hx,by simp⟩⟩⟩
 ·rintro⟨h1,h2,h3⟩;refine⟨h1,?_,?_⟩
  ·rintro l ⟨x,hx,rfl⟩;exact h2 x hx
  ·rintro l ⟨x,hx,hl⟩;simp at hl;rcases hl with rfl|rfl
   ·exact(h3 x hx).1
   ·exact(h3 x hx).2
theorem qqj(m:za):Jd m m.classes.length=true↔∀(i:Nat) x,m.classes[i]? =some x→kV m (i:Int) x=true:=by
 constructor
 ·intro h i x hx;obtain⟨hi,_⟩:=XM.mp hx;exact qdw h hi hx
 ·intro h;refine Xx.mpr fun i hi=> ?_;cases hx:m.classes[i]? with
  |none=>rfl
  |some x=>exact h i x hx
theorem qlx(m:za):q3o m=true↔∀(i:Nat) x,m.classes[i]? =some x→(qh m.classes (i:Int)).length≤8∧vX m i x=true:=by
 constructor
 ·intro h i x hx;obtain⟨hi,_⟩:=XM.mp hx;have:=Xx.mp h i (XR.mpr hi);rw[q2l hx]at this;simpa using this
 ·intro h;refine Xx.mpr fun i hi=> ?_;cases hx:m.classes[i]? with
  |none=>unfold Yf;rw[hx]
  |some x=>
   rw[q2l hx];simpa using h i x hx
theorem qrp(cl:List zJ):kX cl=true↔∀(i:Nat) x,cl[i]? =some x→x.sup<(i:Int):=by
 constructor
 ·intro h i x hx;exact q1j h hx
 ·intro h;refine Xx.mpr fun i hi=> ?_;unfold supB;cases hx:cl[i]? with
  |none=>rfl
  |some x=>exact Xm (h i x hx)
theorem qc6(m:za)(i:Nat)(x:zJ):kV m (i:Int) x=true↔x.sup<(i:Int)∧vw x.fields m.classes.length=true∧(qh m.classes (i:Int)).length≤8∧vX m i x=true:=by
 unfold kV vX;simp only[Xr,Xt]
theorem q9r(m:za)(x:zh):Vc m x=true↔vw x.args m.classes.length=true∧vw x.locals m.classes.length=true∧kL x.ret m.classes.length=true∧vi m x=true:=by
 unfold Vc vi;simp only[Xr]
theorem qk4{m:za}(h:zK m=true):vI m=okB m:=by
 rw[XV];unfold vI okB Jq;simp only[Xr];rw[qos,qrp,qlx,qqj,show m.entries.all (vj m)=m.entries.all (Ye m)by rw[show vj m=Ye m from funext (qlf h)]];unfold q1z;simp only[Xx];constructor
 ·rintro⟨⟨r,s,f,t⟩,u,c,x,e⟩;exact⟨s,fun i y hy=>(qc6 m i y).mpr ⟨u i y hy,f y (Xs hy),(c i y hy).1,(c i y hy).2⟩,fun y hy=>(q9r m y).mpr ⟨(t y hy).1,(t y hy).2,r y hy,x y hy⟩,e⟩
 ·rintro⟨s,c,x,e⟩;have c':=fun i y hy=>(qc6 m i y).mp (c i y hy);have x':=fun y hy=>(q9r m y).mp (x y hy);refine⟨⟨fun y hy=>(x' y hy).2.2.1,s,fun y hy=> ?_,fun y hy=>⟨(x' y hy).1,(x' y hy).2.1⟩⟩,fun i y hy=>(c' i y hy).1,fun i y hy=>⟨(c' i y hy).2.2.1,(c' i y hy).2.2.2⟩,fun y hy=>(x' y hy).2.2.2,e⟩;obtain⟨i,hi⟩:=List.getElem?_of_mem hy;exact(c' i y hi).2.1
theorem q7w{P:Prop}(h:P:=by
 go_wp2_with(first|(go_at_call 48;(with_reducible refine(q5o m h _ _ (zn _) HI.out).mono ?_);rintro e w2 ⟨he,hb⟩;rw[R.out]at he;subst he;have HX:=zH hb;obtain⟨q0,q1,q2,q3,q4,q5,q6⟩:=HBX.out.keep HX.out HZ.out;clear hb)|(go_at_call 49;(with_reducible refine(qit m h _ (HI.out.now HX.out) HF.out).mono ?_);rintro e w3 ⟨he,hb⟩;rw[D.out]at he;subst he;have HX:=zj HX hb;clear hb))
 go_ret;exact⟨by rw[EN.out];rfl,HW.out.trans (HX.out.mono HW.out.size)⟩):P:=h
set_option maxHeartbeats 800000 in
theorem qj4(m:za)(h:zi)(w:World)(H:zm w w.heap.size h m):
  Calls Tryz.prog 21 #[zp h m] w fun e w'=>e= .returned (.int .i64 (qR m))∧Below w.heap.size w w':=by
 have HW:=zH (vr (w:=w) (h:=h) (m:=m));have HBX:=zH (ql w h m);have HZ:Hid (w.heap.size<(w.alloc (zg h m)).heap.size):=zH (by simp);have HI:=zH (H.now HW.out);clear H;obtain⟨r,hr⟩:∃r,zK m=r:=⟨_,rfl⟩
 have R:=zH hr;clear hr;go_enter Tryz.func21,Tryz.ntmps21;go_upto_region 1 with fail
 generalize w.alloc (zg h m)=w1 at*
 obtain⟨q0,q1,q2,q3,q4,q5,q6⟩:=HBX.out;cases r
 ·have EN:=zH (q3c R.out);go_wp2_with(go_at_call 48;(with_reducible refine(q5o m h _ _ (zn _) HI.out).mono ?_);rintro e w2 ⟨he,hb⟩;rw[R.out]at he;subst he;have HX:=zH hb;obtain⟨q0,q1,q2,q3,q4,q5,q6⟩:=HBX.out.keep HX.out HZ.out;clear hb)
  go_ret;exact⟨by rw[EN.out];rfl,HW.out.trans (HX.out.mono HW.out.size)⟩
 ·have HF:=zH (Yb R.out);have HS:=zH (qk4 R.out);obtain⟨d,hd⟩:∃d,vI m=d:=⟨_,rfl⟩
  have D:=zH hd;have HOK:=zH (HS.out.symm.trans hd);clear hd HS;cases d
  ·have EN:=zH (q6r R.out HOK.out);exact q7w
  ·have EN:=zH (q67 R.out HOK.out);exact q7w
theorem qsy:(Tryz.prog.info? 148).map (fun i=>(i.zero,i.size,i.bytes))=some (some (.agg #[.int .i64 0,.int .i64 0,.int .i64 0]),3,24):=by kernel_rfl
theorem qpj{m:za}{h:zi}{f pc:Int}{st L:List (Int×Int)}{NL:List Int}{er:Int}{A:Option Addr}{cap n:Nat}{w0 w:World}(HI:Hid (zm w0 w0.heap.size h m))(HX:Hid (Below w0.heap.size w0 w))(HM:Hid (zN m))(HN:Hid (st.length=n))(HS:Hid (ze zc 2 w w.heap.size A cap st))(hs:n≤4000)(HR:Hid (zR m f pc st=⟨L,NL,er⟩)):
  Calls Tryz.prog 90 #[zp h m,.int .i64 f,.int .i64 pc,.slice A n cap] w fun e w'=>∃A c A' c',e= .returned (.tuple #[.slice A L.length c,.slice A' NL.length c',.int .i64 er])∧ze zl 1 w' w'.heap.size A' c' NL∧(∀ad,A'=some ad→w.heap.size≤ad.block)∧Below w.heap.size w w':=by
 obtain rfl:=HN.out;have H:=qbz m f pc st A cap h w (HI.out.now HX.out) HM.out HS.out hs;rw[HR.out]at H;exact H.mono fun e w' ⟨A,c,A',c',h1,h2,h3,h4,h5,h6⟩=>⟨A,c,A',c',h1,h3,h5,h6⟩
theorem qp2{w:World}{B c:Nat}{A:Option Addr}{L:List Int}(h:ze zl 1 w B A c L):zq w B A (L.map (Value.int .i64)):=fun j u hu=>by
 rw[XB]at hu;cases hL:L[j]? with
 |none=>rw[hL]at hu;cases hu
 |some x=>
  rw[hL]at hu;cases hu;obtain⟨ad,e,hb,hc⟩:=h.row j x hL;exact⟨ad,e,hb,by have hc:w.cell? (ad.add (j*1))=_:=hc;rw[Xz]at hc;exact hc⟩
theorem zq.mono'{w:World}{B C:Nat}{A:Option Addr}{xs:List Value}(h:zq w B A xs)(hB:B≤C):zq w C A xs:=fun j u hu=>by
 obtain⟨ad,e,hb,hc⟩:=h j u hu;exact⟨ad,e,Xj hb hB,hc⟩
theorem qqm(w:World)(x y z:Int):∀(j:Nat) (u:Value),[Value.int .i64 x,.int .i64 y,.int .i64 z][j]? =some u→(w.alloc (.cells #[.int .i64 x,.int .i64 y,.int .i64 z] 148)).cell? ((⟨w.heap.size,0,none⟩:Addr).add j)=some u:=fun j u hj=>by
 have hc:=qr w [.int .i64 x,.int .i64 y,.int .i64 z] 148;have e:(⟨w.heap.size,0,none⟩:Addr).add j=⟨w.heap.size,j,none⟩:=by unfold Addr.add;split<;>simp_all
 rw[e];exact hc j u hj
theorem qqg(l:List (Int×Int×Int))(t:Int×Int×Int):QN (l++[t])=QN l++codC t:=by unfold QN;simp
structure JC(w1 wr:World)(v:Value)(L:List (Int×Int×Int))(B:Nat)(A:Option Addr)(NQ:List Int)(Ni:Nat)(op a b:Int):Prop where
 row:wr.ownsRow w1.heap.size 148 3 v L.length (QN L)
 apart:Je v A
 next:zq wr B A (NQ.map (Value.int .i64))
 room:B≤wr.heap.size
 ins:zd wr Ni [.int .i64 op,.int .i64 a,.int .i64 b] 55
 low:Below w1.heap.size w1 wr
theorem JC.keep{w1 wr w':World}{v:Value}{L:List (Int×Int×Int)}{B Ni:Nat}{A:Option Addr}{NQ:List Int}{op a b:Int}(h:JC w1 wr v L B A NQ Ni op a b)(hb:Below wr.heap.size wr w'):JC w1 w' v L B A NQ Ni op a b:=
 ⟨zT h.row hb (zL h.row),h.apart,(h.next.below_to hb h.room),Xd h.room hb.size,h.ins.keep hb (zd.lt h.ins),h.low.trans (hb.mono h.low.size)⟩
theorem JC.app{w1 wr w9:World}{v:Value}{L:List (Int×Int×Int)}{B Ni g9 c9 n:Nat}{A:Option Addr}{NQ:List Int}{op a b:Int}{t:Int×Int×Int}{o:Obj}(h:JC w1 wr v L B A NQ Ni op a b)(hn:L.length=n)(hA:∀ad,A=some ad→ad.block<B)(hown:w9.ownsRow w1.heap.size 148 3 (.slice (some ⟨g9,0,none⟩) (n+1) c9) (n+1) (QN L++codC t))(hgrow:(wr.alloc o).grownBy w9 v.ownBlock)(hor:v.ownBlock=some g9∨g9=(wr.alloc o).heap.size):
  JC w1 w9 (.slice (some ⟨g9,0,none⟩) (n+1) c9) (L++[t]) B A NQ Ni op a b:=by
 subst hn;have h1:Below wr.heap.size wr (wr.alloc o):=(zb _ _).alloc (zn _) _;refine⟨by rw[qqg,Xe];exact hown,q2o h.apart hA hor (by have:=h.room;simp;omega),q4y h.next h.room hgrow h.apart,Xd (Xd h.room h1.size) hgrow.size,?_,?_⟩
 ·exact qc4 (h.ins.keep h1 (zd.lt h.ins)) hgrow (qf3 h.row h.ins (by decide))
 ·exact jV (h.low.trans (h1.mono h.low.size)) (zT h.row h1 (zL h.row)) (Xd h.low.size h1.size) hgrow
set_option maxHeartbeats 12800000 in
theorem qnz(m:za)(l:List (List zo))(f:Nat)(x:zh)(A:Option Addr)(c:Nat)(h:zi)(w:World)(H:zm w w.heap.size h m)(hm:zN m)(hT:jy m w A c l)(hx:m.methods[f]? =some x):
  Calls Tryz.prog 93 #[zp h m,.slice A l.length c,.int .i64 f] w fun e w'=>∃v,e= .returned v∧w'.ownsRow w.heap.size 148 3 v (Qf m l f).length (QN (Qf m l f))∧Below w.heap.size w w':=by
 obtain⟨hM,hMZ,hLL,hFD⟩:=hT;obtain⟨i0,hi,hz0,hz1,hz2⟩:=jU qsy;have hfm:f<m.methods.length:=(XM.mp hx).1;have hfl:f<l.length:=by omega
 have hxe:m.methods[f]=x:=(XM.mp hx).2;have HW:=zH (vr (w:=w) (h:=h) (m:=m));have HBX:=zH (ql w h m);have HZ:Hid (w.heap.size<(w.alloc (zg h m)).heap.size):=zH (by simp);have HI:=zH (H.now HW.out);have HM:=zH hm;have hle:=H.methods.le;have hcap:=H.methods.cap;have hl1:=hM.le;have hl2:=hM.cap;have HM0:=zH (kF RowAt.keeps hM HW.out);have hxm:x ∈m.methods:=Xs hx;have hxN:zw m (f:Int)=x:=by unfold zw;rw[Xi,hx];rfl
 obtain⟨adM,rfl,habM,A1,c1,r0,hsr⟩:=HM0.out.row.at_ hfl;obtain⟨ad,hxx,eA,hab,hin,hcm⟩:=Qe HI.out hfm;rw[hxe]at hin hcm;have hFS:=hFD f l[f] (Xc hfl);have hW0:Qf m l f=vV m f x l[f] x.code.length:=by unfold Qf;rw[hxN,Xc hfl];rfl
 rw[hW0];have hSl:l[f].length=x.code.length:=by rw[hFS.grow.len,hxN]
 obtain⟨S,hS⟩:∃S,l[f]=S:=⟨_,rfl⟩
 rw[hS]at hsr hFS hSl r0⊢
 replace r0:(w.alloc (zg h m)).cell? (adM.add f)=some (.slice A1 S.length c1):=by have:=r0;rw[Xz]at this;exact this
 obtain⟨n,hn⟩:∃n,x.code.length=n:=⟨_,rfl⟩
 have hn64:n≤64:=by rw[←hn];exact(hm.method hxm).fits.cl
 have HXM:=zH hxm;have HGX:=zH hx;have HFS:=zH hFS;have HSR:=zH hsr;have HCN:=zH hn;have HSL:Hid (S.length=n):=zH (by rw[hSl,hn]);rw[hn];rw[HSL.out]at r0;obtain⟨A0,Ab,A2,A3,A4,k0,k1,k2,k3,k4⟩:=h;dsimp only at eA hle hcap;subst eA;obtain⟨b0,b1,b2,b3,b4,b5,b6,b7⟩:=hcm;have HIC:=zH hin.code;have hcc1:=hin.code.le;have hcc2:=hin.code.cap;obtain⟨xA0,xA1,xA4,xA7,kx0,kx1,kx4,kx7⟩:=hxx;dsimp only at b4 HIC hcc1 hcc2;rw[hn]at b4 hcc1;have HB4:=zH b4;have HAB:Hid (ad.block<(w.alloc (zg ⟨A0,Ab,A2,some ad,A4,k0,k1,k2,k3,k4⟩ m)).heap.size):=zH hab;have hfi:¬(l.length:Int)≤(f:Int):=by omega
 have hfj:(f:Int)<(l.length:Int):=by omega
 have hfk:(f:Int)<(m.methods.length:Int):=by omega
 have hS1:=hsr.le;have hS2:=hsr.cap;rw[HSL.out]at hS1;clear H hm hM hMZ hFD hx hxe hxm hxN hin b0 b1 b2 b3 b4 b5 b6 b7 hFS hsr hSl hS hn hab hLL hW0;go_enter Tryz.func93,Tryz.ntmps93;go_upto_region 1 with fail
 generalize w.alloc (zg ⟨A0,Ab,A2,some ad,A4,k0,k1,k2,k3,k4⟩ m)=w1 at*
 have HX0:Hid (Below w1.heap.size w1 w1):=zH (zb _ _);go_wp2_with fail
 go_loopw [7,25] (fun v i wr=>∃pc:Nat,pc≤n∧i= .int .i64 pc∧Hid (wr.ownsRow w1.heap.size 148 3 v (vV m f x S pc).length (QN (vV m f x S pc)))∧Hid (Below w1.heap.size w1 wr)) (fun _ i _=>n - (intOf i).toNat)
 case atStart=>exact⟨0,Xp _,rfl,zH (XQ _ _ _ _),HX0⟩
 case round=>
  clear HX0 r0;obtain⟨pc,hpc,rfl,HO,HX⟩:=hrel;by_cases hpn:pc<n;rotate_left
  ·obtain rfl:pc=n:=by omega
   go_wp2_with fail
   go_ret;exact⟨_,rfl,ja HO.out HW.out.size,HW.out.trans (HX.out.mono HW.out.size)⟩
  have hpi:(pc:Int)<(n:Int):=by omega
  obtain⟨adS,eS,habS,u0,Ast,cst,u1,hu⟩:=HSR.out.row.at_ (show pc<S.length by rw[HSL.out];exact hpn);subst eS;have hNp:zt S (pc:Int)=S[pc]'(by rw[HSL.out];exact hpn):=QU (by rw[HSL.out];exact hpn)
  have hst1:(S[pc]'(by rw[HSL.out];exact hpn)).stack.length≤8:=HFS.out.grow.small _ (Xf _);generalize S[pc]'(by rw[HSL.out];exact hpn)=s at*
  have HNP:=zH hNp;have HU:=zH hu;have HWS:Hid (vV m f x S (pc+1)=vV m f x S pc++Zu m f x S pc):=zH rfl;have hwl:(vV m f x S pc).length≤2*pc:=q61 m f x S (fun p=>q4w m f S p) pc;obtain⟨WL,hWL⟩:∃WL,vV m f x S pc=WL:=⟨_,rfl⟩
  rw[hWL]at HO HWS hwl;have u0:=(HX.out.cell (p:=adS.add (pc*2)) (by rw[zu];exact habS)).trans u0;have u1:=(HX.out.cell (p:=zf (adS.add (pc*2)) 1) (by show(adS.add _).block<_;rw[zu];exact habS)).trans u1;have HC3:=zH (qr wr [.bool s.seen,.slice Ast s.stack.length cst] 75);have hA3:Below wr.heap.size wr (wr.alloc (.cells #[.bool s.seen,.slice Ast s.stack.length cst] 75)):=(zb _ _).alloc (zn _) _;have HX3:Hid (Below w1.heap.size w1 (wr.alloc (.cells #[.bool s.seen,.slice Ast s.stack.length cst] 75))):=zj HX hA3;have HO3:Hid ((wr.alloc (.cells #[.bool s.seen,.slice Ast s.stack.length cst] 75)).ownsRow w1.heap.size 148 3 u7 WL.length (QN WL)):=zH (zT HO.out hA3 (zL HO.out));clear hu hNp hWL hA3 HO;go_upto_region 7 with fail
  generalize wr.alloc (.cells #[.bool s.seen,.slice Ast s.stack.length cst] 75)=w3 at*
  have d0:=HC3.out 0 _ rfl;have d1:=HC3.out 1 _ rfl;clear u0 u1;by_cases hse:s.seen=true;rotate_left
  ·have hse':s.seen=false:=by simpa using hse
   have HY:Hid (vV m f x S (pc+1)=WL):=zH (by rw[HWS.out];unfold Zu;rw[HNP.out,Xa hse,List.append_nil]);rw[hse']at d0;go_wp2_with fail
   go_roundw;case rel=>exact⟨pc+1,by omega,by go_num,by rw[HY.out];exact HO3,HX3⟩
   case measure=>simp[intOf];omega
  have hfd:=HFS.out.done pc (by rw[HSL.out];exact hpn) (by rw[HNP.out];exact hse);rw[HNP.out]at hfd;have HSE:=zH hse;rw[hse]at d0;obtain⟨q0,q1,q2,q3,q4,q5,q6⟩:=HBX.out.keep HX3.out HZ.out;obtain⟨⟨L,NL,er⟩,hrs⟩:∃r,zR m (f:Int) (pc:Int) s.stack=r:=⟨_,rfl⟩
  have hne:er=0:=by have:=hfd.1;rw[hrs]at this;exact this
  subst hne;have HRS:=zH hrs;have HNX:Hid (vZ m f S pc=NL):=zH (by unfold vZ;rw[HNP.out,hrs]);have HSD:Hid (ze zc 2 w3 w3.heap.size Ast cst s.stack):=zH (kF zc.keeps HU.out HX3.out);have hst4:s.stack.length≤4000:=by omega
  clear hrs hse hfd;go_upto_region 9 with(go_at_call 90;(with_reducible refine(qpj HI HX3 HM (zH rfl) HSD hst4 HRS).mono ?_);rintro e w6 ⟨A7,c7,A8,c8,rfl,hs8,h8,hb⟩;have H8:=zH hs8;have HA8:=zH h8;have HX6:=zj HX3 hb;have HO6:=zH (zT HO3.out hb (zL HO3.out));have HOL:=zH (zL HO3.out);have HZ36:=zH hb.size;clear hs8 hb h8)
  clear q0 q1 q2 q3 q4 q5 q6 d0 d1;obtain⟨q0,q1,q2,q3,q4,q5,q6⟩:=HBX.out.keep HX6.out HZ.out;have b4:=(HX6.out.cell (p:=zf (ad.add (f*8)) 4) (by show(ad.add _).block<_;rw[zu];exact HAB.out)).trans HB4.out;obtain⟨ac,rfl,hac,i0',i1',i2'⟩:=HIC.out.row.at_ (show pc<x.code.length by rw[HCN.out];exact hpn);have hip:x.code[pc]? =some (x.code[pc]'(by rw[HCN.out];exact hpn)):=Xc _;generalize x.code[pc]'(by rw[HCN.out];exact hpn)=ins at*
  obtain⟨op,a,b⟩:=ins;dsimp only at i0' i1' i2';have HIP:=zH hip;have j0:=(HX6.out.cell (p:=ac.add (pc*3)) (by rw[zu];exact hac)).trans i0';have j1:=(HX6.out.cell (p:=zf (ac.add (pc*3)) 1) (by show(ac.add _).block<_;rw[zu];exact hac)).trans i1';have j2:=(HX6.out.cell (p:=zf (ac.add (pc*3)) 2) (by show(ac.add _).block<_;rw[zu];exact hac)).trans i2';clear hip i0' i1' i2';go_upto_region 11 with fail
  have hA7:Below w6.heap.size w6 (w6.alloc (.cells #[.int .i64 op,.int .i64 a,.int .i64 b] 55)):=(zb _ _).alloc (zn _) _;have HI7:Hid (zd (w6.alloc (.cells #[.int .i64 op,.int .i64 a,.int .i64 b] 55)) w6.heap.size [.int .i64 op,.int .i64 a,.int .i64 b] 55):=zH (zd.new w6 _ _);have HX7:=zj HX6 hA7;have HO7:=zH (zT HO6.out hA7 (zL HO6.out));have HN7:=zH ((qp2 H8.out).below_to hA7 (zn _));have hq1:=H8.out.le;have hq2:=H8.out.cap;have HZ7:=zH hA7.size;have hZ36:=HZ36.out;clear q0 q1 q2 q3 q4 q5 q6 b4 j0 j1 j2;obtain⟨Ni,hNi⟩:∃z,w6.heap.size=z:=⟨_,rfl⟩
  simp only[hNi]at HI7⊢
  generalize w6.alloc (.cells #[.int .i64 op,.int .i64 a,.int .i64 b] 55)=w7 at*
  have HNG:Hid (NL=qU (pc:Int) op a):=zH (by
   have:=qbg (st:=s.stack) HGX.out HIP.out (by rw[HRS.out]);rw[HRS.out]at this;exact this)
  obtain⟨NQ,hNQ⟩:∃NQ,QC m f S pc=NQ:=⟨_,rfl⟩
  have HNQ:Hid ((op=33→NQ=[-1])∧(¬op=33→NQ=NL)):=zH ⟨fun e=>by
   rw[←hNQ];unfold QC;rw[HNX.out,HNG.out,Xb (q4x.mpr e)],fun e=>by
   rw[←hNQ];unfold QC;rw[HNX.out,HNG.out,Xa (fun h=>e (q4x.mp h))]⟩
  have HLT:=zH hNQ;clear hNQ hA7;have e0:=HI7.out.cells 0 _ rfl;go_upto_if 56 with fail
  go_cut [11] (fun s wx=>∃A9 c9,s= .slice A9 NQ.length c9∧Hid (zq wx wx.heap.size A9 (NQ.map (Value.int .i64)))∧Hid (NQ.length≤c9∧c9≤9223372036854775807)∧Hid (∀ad,A9=some ad→w3.heap.size≤ad.block)∧Hid (Below w7.heap.size w7 wx))
  case first=>
   by_cases h33:op=33
   ·subst h33;have e:=HNQ.out.1 rfl;subst e;go_wp2_with fail
    go_meet
    exact⟨some ⟨w7.heap.size,0,none⟩,1,rfl,zH (q07 w7 _ _),zH ⟨zn _,by omega⟩,zH (fun ad e=>by injection e with e;subst e;exact Xd hZ36 HZ7.out),zH ((zb _ _).alloc (zn _) _)⟩
   ·have e:=HNQ.out.2 h33;subst e;go_wp2_with fail
    go_meet
    exact⟨A8,c8,rfl,zH (HN7.out.mono' HZ7.out),zH ⟨hq1,hq2⟩,HA8,zH (zb _ _)⟩
  case rest=>
   obtain⟨A9,c9,rfl,H9,HQ9,HA9,HX9⟩:=hcut;have hq91:=HQ9.out.1;have hq92:=HQ9.out.2;have hNQl:NQ.length≤2:=by
    rw[←HLT.out];have:=q4w m f S pc;unfold QC;split
    ·exact(show 1≤2 by omega)
    ·exact this
   obtain⟨C,hC⟩:∃C,kd m op a b=C:=⟨_,rfl⟩
   have HCV:=zH hC;have HCP:Hid (Zw m x pc=C):=zH (by unfold Zw;rw[HIP.out];exact hC);have HINS:Hid ((op,a,b) ∈x.code):=zH (Xs HIP.out);have HWR:Hid (JC w1 wc u7 WL wc.heap.size A9 NQ Ni op a b):=zH ⟨zT HO7.out HX9.out (zL HO7.out),fun g hg ad e=>by have h1:=HOL.out g hg;have h2:=HA9.out ad e;omega,H9.out,zn _,HI7.out.keep HX9.out (zd.lt HI7.out),HX7.out.trans (HX9.out.mono HX7.out.size)⟩;have HAL:Hid (∀ad,A9=some ad→0<NQ.length→ad.block<wc.heap.size):=zH (fun ad e hp=>by
    obtain⟨ad',e',hb,_⟩:=H9.out 0 (.int .i64 NQ[0]) (by rw[XB,Xc hp];rfl);rw[e]at e';cases e';exact hb)
   clear hC HO7 HI7 HX7 HN7 HO6 HO3 H8 HA8 H9 HQ9 HX9 e0;go_wp2_with fail
   go_loopw [7,60] (fun v i wr=>∃k:Nat,k≤NQ.length∧i= .int .i64 k∧Hid (JC w1 wr v (WL++(NQ.take k).map (fun q=>((pc:Int),q,C))) wc.heap.size A9 NQ Ni op a b)) (fun _ i _=>NQ.length - (intOf i).toNat)
   case atStart=>exact⟨0,Xp _,rfl,by rw[List.take_zero,List.map_nil,List.append_nil];exact HWR⟩
   case round=>
    clear HWR;obtain⟨k,hk,rfl,HR⟩:=hrel;by_cases hkn:k<NQ.length
    ·have hki:(k:Int)<(NQ.length:Int):=by omega
     obtain⟨ad9,hA9e,hab9,hc9⟩:=HR.out.next k (.int .i64 NQ[k]) (by rw[XB,Xc hkn];rfl);subst hA9e;have HAB9:Hid (∀ad',some ad9=some ad'→ad'.block<wc.heap.size):=zH (fun ad' e=>by cases e;exact hab9);have HTK:Hid (WL++(NQ.take (k+1)).map (fun q=>((pc:Int),q,C))=(WL++(NQ.take k).map (fun q=>((pc:Int),q,C)))++[((pc:Int),NQ[k],C)]):=zH (by rw[XH,Xc hkn,XY,Xu];rfl);have hLL:(WL++(NQ.take k).map (fun q=>((pc:Int),q,C))).length≤1000:=by rw[Xe,Xo,XO];omega
     generalize WL++(NQ.take k).map (fun q=>((pc:Int),q,C))=LL at*
     generalize NQ[k]=to_ at*
     obtain⟨q0,q1,q2,q3,q4,q5,q6⟩:=HBX.out.keep (HR.out.low) HZ.out;have j0:=HR.out.ins.cells 0 _ rfl;have j1:=HR.out.ins.cells 1 _ rfl;have j2:=HR.out.ins.cells 2 _ rfl;have HXR:=zH HR.out.low;go_wp2_with(first
      |(go_at_call 147;(with_reducible refine(qs6 HI HXR HM HXM HINS HCV).mono ?_);rintro e w5 ⟨rfl,hb⟩;have HR5:=zH (HR.out.keep hb);clear hb)
      |(at_builtin;refine wpList_append_lies _ rfl _ _ 145 rfl w1.heap.size 148 i0 (.agg #[.int .i64 0,.int .i64 0,.int .i64 0]) 3 24 Tryz.underlying145 hi hz0 hz1 hz2 rfl (by decide) _ LL.length (QN LL) rfl (HR5.out.row.alloc _) ⟨_,0,none⟩ 1 1 [.int .i64 pc,.int .i64 to_,.int .i64 C] rfl rfl (qqm _ _ _ _) (by simp[Value.oneCell']) (by decide) (by unfold maxLen;omega) (by omega) (by have:=HR5.out.low.size;simp;omega) _ rfl ?_;intro g9 c9' w9 hown hgrow hor hlt9;have HR9:Hid (JC w1 w9 (.slice (some ⟨g9,0,none⟩) (LL.length+1) c9') (LL++[((pc:Int),to_,C)]) wc.heap.size (some ad9) NQ Ni op a b):=zH (HR5.out.app rfl HAB9.out hown hgrow hor);clear hown hgrow hor hlt9))
     go_roundw;case rel=>exact⟨k+1,by omega,by go_num,by rw[HTK.out];exact HR9⟩
     case measure=>simp[intOf];omega
    ·obtain rfl:k=NQ.length:=by omega
     have HEND:Hid (vV m f x S (pc+1)=WL++(NQ.take NQ.length).map (fun q=>((pc:Int),q,C))):=zH (by
      rw[HWS.out,XU];unfold Zu;rw[HNP.out,Xb HSE.out,HLT.out,HCP.out])
     go_wp2_with fail
     go_roundw;case rel=>exact⟨pc+1,by omega,by go_num,by rw[HEND.out];exact zH HR.out.row,zH HR.out.low⟩
     case measure=>simp[intOf];omega
theorem quf{m:za}{l:List (List zo)}{f:Nat}{x:zh}{A:Option Addr}{c:Nat}{h:zi}{w0 w:World}{W:List (Int×Int×Int)}(HI:Hid (zm w0 w0.heap.size h m))(HX:Hid (Below w0.heap.size w0 w))(HM:Hid (zN m))(HT:Hid (jy m w A c l))(HGX:Hid (m.methods[f]? =some x))(HW:Hid (Qf m l f=W)):
  Calls Tryz.prog 93 #[zp h m,.slice A l.length c,.int .i64 f] w fun e w'=>∃v,e= .returned v∧w'.ownsRow w.heap.size 148 3 v W.length (QN W)∧Below w.heap.size w w':=by
 have H:=qnz m l f x A c h w (HI.out.now HX.out) HM.out HT.out HGX.out;rw[HW.out]at H;exact H
theorem q38{m:za}{w w':World}{A:Option Addr}{c:Nat}{l:List (List zo)}(h:jy m w A c l)(hb:Below w.heap.size w w'):jy m w' A c l:=⟨kF RowAt.keeps h.1 hb,h.2⟩
theorem qjx{w:World}{B e size n:Nat}{v:Value}{xs:List Value}(h:w.ownsRow B e size v n xs):∃A c,v= .slice A n c:=by
 rcases Zk h with⟨rfl,rfl⟩|⟨g,c,rfl,_⟩
 ·exact⟨_,_,rfl⟩
 ·exact⟨_,_,rfl⟩
theorem qja{w:World}{B B' e e' k k' n n':Nat}{v v':Value}{xs ys:List Value}(h:w.ownsRow B e k v n xs)(h':w.ownsRow B' e' k' v' n' ys)(hne:e≠e'){g:Nat}(hg:v.ownBlock=some g):v'.ownBlock≠some g:=fun hg'=>by
 rcases h.2 with⟨rfl,_⟩|⟨g1,cap,cur,rfl,_,hh,_⟩
 ·cases hg
 ·have e1:g1=g:=by simpa[Value.ownBlock]using hg
  rcases h'.2 with⟨rfl,_⟩|⟨g2,cap',cur',rfl,_,hh',_⟩
  ·cases hg'
  ·have e2:g2=g:=by simpa[Value.ownBlock]using hg'
   subst e1;subst e2;rw[hh]at hh';injection hh' with h1;injection h1 with _ h2 _;exact hne h2
theorem qs9{w w9:World}{B B' e e' k k' n n':Nat}{v v':Value}{xs ys:List Value}{o:Obj}(h:w.ownsRow B e k v n xs)(h':w.ownsRow B' e' k' v' n' ys)(hne:e≠e')(hg:(w.alloc o).grownBy w9 v'.ownBlock):w9.ownsRow B e k v n xs:=by
 have ha:=zT h ((zb w.heap.size w).alloc (zn _) o) (zL h);refine⟨ha.1,?_⟩;rcases ha.2 with h0|⟨g,cap,cur,hv,hb,hh,rest⟩
 ·exact .inl h0
 ·refine .inr ⟨g,cap,cur,hv,hb,?_,rest⟩;rw[hg.block g (lt_of_block hh) (fun e=>qja h h' hne (g:=g) (by rw[hv];rfl) e.symm)];exact hh
theorem jQ.slc{w:World}{B n g' c:Nat}{gs:List Nat}{L:List Inq}(h:jQ w B (.slice (some ⟨g',0,none⟩) L.length c) n gs L)(hn:n≤1000):ze q1t 2 w w.heap.size (some ⟨g',0,none⟩) c L:=by
 rcases Zk h.row with⟨e,_⟩|⟨g,c',e,h1,h2⟩
 ·cases e
 ·injection e with e1 _ e3;cases e1;cases e3;refine⟨h1,h2,fun i q hi=> ?_⟩;obtain⟨gq,c0,c1,hN,hq,hg',_⟩:=h.at_ hi;refine⟨_,rfl,hg',⟨_,_,?_,hN.slc rfl (by omega)⟩,?_⟩
  ·rw[addg,c0,hq]
  ·rw[addg];exact c1
set_option maxHeartbeats 12800000 in
theorem qjk(m:za)(l:List (List zo))(f:Int)(A:Option Addr)(c:Nat)(h:zi)(w:World)(H:zm w w.heap.size h m)(hm:zN m)(hT:jy m w A c l):
  Calls Tryz.prog 51 #[zp h m,.slice A l.length c,.int .i64 f] w fun e w'=>∃A' c',e= .returned (.slice A' (QA m l f).length c')∧ze q1t 2 w' w'.heap.size A' c' (QA m l f)∧Below w.heap.size w w':=by
 have HW:=zH (vr (w:=w) (h:=h) (m:=m));have HBX:=zH (ql w h m);have HZ:Hid (w.heap.size<(w.alloc (zg h m)).heap.size):=zH (by simp);have hle:=H.methods.le;have hcap:=H.methods.cap;by_cases hf:0≤f∧f<m.methods.length;rotate_left
 ·have e:QA m l f=[]:=by unfold QA;rw[Xa hf]
  rw[e];clear H hT hm e;by_cases h0:f<0
  ·go_enter Tryz.func51,Tryz.ntmps51;go_upto_region 1 with fail
   generalize w.alloc (zg h m)=w1 at*
   obtain⟨q0,q1,q2,q3,q4,q5,q6⟩:=HBX.out;go_wp2_with fail
   go_ret;exact⟨none,0,rfl,kv,HW.out⟩
  ·have h1:¬f<m.methods.length:=fun h1=>hf ⟨by omega,h1⟩;have h2:(m.methods.length:Int)≤f:=by omega
   clear hf;go_enter Tryz.func51,Tryz.ntmps51;go_upto_region 1 with fail
   generalize w.alloc (zg h m)=w1 at*
   obtain⟨q0,q1,q2,q3,q4,q5,q6⟩:=HBX.out;go_wp2_with fail
   go_ret;exact⟨none,0,rfl,kv,HW.out⟩
 obtain⟨f0,f1⟩:=hf;obtain⟨k,rfl⟩:=Xq f0;have hk:k<m.methods.length:=by omega
 have hkl:k<l.length:=by rw[hT.2.2.1];exact hk
 obtain⟨x,hxe⟩:∃x,m.methods[k]=x:=⟨_,rfl⟩
 have hgx:m.methods[k]? =some x:=by rw[Xc hk,hxe]
 have hxm:x ∈m.methods:=Xs hgx;have hxN:zw m (k:Int)=x:=by unfold zw;rw[Xi,hgx];rfl
 obtain⟨n,hn⟩:∃n,x.code.length=n:=⟨_,rfl⟩
 have hn64:n≤64:=by rw[←hn];exact(hm.method hxm).fits.cl
 have hFS:=hT.2.2.2 k l[k] (Xc hkl);have hok:=que hm hgx (Xc hkl) hFS;obtain⟨WL,hWL⟩:∃W,Qf m l k=W:=⟨_,rfl⟩
 have hw2:WL.length≤128:=by
  rw[←hWL];unfold Qf;rw[hxN];have:=q61 m k x (l[k]?.getD []) (fun p=>q4w m k _ p) x.code.length;omega
 have hrules:QA m l (k:Int)=jD n (-1) 0 x.pot::WL.map (ky n):=by
  unfold QA;rw[Xb ⟨f0,f1⟩,Xi,hxN,q9e,hn,←hWL]
  ·unfold Qf;rw[hxN,hn]
  ·intro pc hpc hs hnil;have:=hok.none ((pc:Int),-1,Zw m x pc) (by
    unfold Qf;rw[hxN];have key:∀N,pc<N→((pc:Int),(-1:Int),Zw m x pc) ∈vV m k x (l[k]?.getD []) N:=by
     intro N
     induction N with
     |zero=>intro h;omega
     |succ N ih=>
      intro h;rcases Xk pc N with q|q
      ·exact List.mem_append_left _ (ih q)
      ·obtain rfl:pc=N:=by omega
       refine List.mem_append_right _ ?_;unfold Zu QC;rw[Xb hs,Xb hnil];simp
    exact key _ hpc) (by show(-1:Int)<0;omega)
   exact this
 have HOK:Hid (q7m WL n):=zH (by rw[←hWL,←hn];exact hok);rw[hrules];have HI:=zH (H.now HW.out);have HM:=zH hm;have HTY:=zH (q38 hT HW.out);have HGX:=zH hgx;have HWL:=zH hWL;obtain⟨ad,hxx,eA,hab,hin,hcm⟩:=Qe HI.out hk;rw[hxe]at hin hcm;obtain⟨A0,Ab,A2,A3,A4,k0,k1,k2,k3,k4⟩:=h;dsimp only at eA hle hcap;subst eA;obtain⟨b0,b1,b2,b3,b4,b5,b6,b7⟩:=hcm;obtain⟨xA0,xA1,xA4,xA7,kx0,kx1,kx4,kx7⟩:=hxx;dsimp only at b0 b1 b4 b7;rw[hn]at b4;obtain⟨i0,hi,hz0,hz1,hz2⟩:=jU qkk;have HAB:Hid (ad.block<(w.alloc (zg ⟨A0,Ab,A2,some ad,A4,k0,k1,k2,k3,k4⟩ m)).heap.size):=zH hab;have hf0:¬(k:Int)<0:=by omega
 have hf2:¬(m.methods.length:Int)≤(k:Int):=by omega
 have HN1:Hid (n≤1000):=zH (by omega);obtain⟨R0,hR0⟩:∃R,jD n (-1) 0 x.pot=R:=⟨_,rfl⟩
 have hR2':R0.2=x.pot:=by rw[←hR0];rfl
 have hRl':R0.1.length=n:=by rw[←hR0];exact q3d ..
 have HR0:Hid (jD n (-1) 0 x.pot=(R0.1,x.pot)):=zH (by rw[hR0,←hR2']);rw[hR0];have HRP:=zH (⟨hR2',hRl'⟩:R0.2=x.pot∧R0.1.length=n);clear hR0 hR2' hRl';clear H hm hT hgx hxm hxN hFS hok hWL hrules hin hn hab hxe hkl;go_enter Tryz.func51,Tryz.ntmps51;go_upto_region 1 with fail
 generalize w.alloc (zg ⟨A0,Ab,A2,some ad,A4,k0,k1,k2,k3,k4⟩ m)=w1 at*
 obtain⟨q0,q1,q2,q3,q4,q5,q6⟩:=HBX.out;go_upto_region 5 with fail
 have HX3:Hid (Below w1.heap.size w1 (w1.alloc (.cells #[.slice xA0 x.args.length kx0,.slice xA1 x.locals.length kx1,.int .i64 x.ret.1,.int .i64 x.ret.2,.slice xA4 n kx4,.int .i64 x.depth,.int .i64 x.pot,.slice xA7 x.phi.length kx7] 53))):=zH ((zb _ _).alloc (zn _) _);have HXB:Hid (zd (w1.alloc (.cells #[.slice xA0 x.args.length kx0,.slice xA1 x.locals.length kx1,.int .i64 x.ret.1,.int .i64 x.ret.2,.slice xA4 n kx4,.int .i64 x.depth,.int .i64 x.pot,.slice xA7 x.phi.length kx7] 53)) w1.heap.size [.slice xA0 x.args.length kx0,.slice xA1 x.locals.length kx1,.int .i64 x.ret.1,.int .i64 x.ret.2,.slice xA4 n kx4,.int .i64 x.depth,.int .i64 x.pot,.slice xA7 x.phi.length kx7] 53):=zH (zd.new w1 _ _);clear q0 q1 q2 q3 q4 q5 q6 b0 b1 b2 b3 b4 b5 b6 b7;generalize w1.alloc (.cells #[.slice xA0 x.args.length kx0,.slice xA1 x.locals.length kx1,.int .i64 x.ret.1,.int .i64 x.ret.2,.slice xA4 n kx4,.int .i64 x.depth,.int .i64 x.pot,.slice xA7 x.phi.length kx7] 53)=w3 at*
 have b6:=HXB.out.cells 6 _ rfl;go_upto_region 6 with(go_at_call 92;(with_reducible refine(qbb HN1 HR0).mono ?_);rintro e w4 ⟨g0,rfl,hg0,hN0,hb⟩;have HG0:=zH hg0;have HN0:=zH hN0;have HX4:=zj HX3 hb;clear hg0 hN0 hb)
 clear b6;have hB5:Below w4.heap.size w4 (w4.alloc (.cells #[.slice (some ⟨g0,0,none⟩) n n,.int .i64 x.pot] 101)):=(zb _ _).alloc (zn _) _;have HX5:=zj HX4 hB5;have HQ5:Hid (jQ (w4.alloc (.cells #[.slice (some ⟨g0,0,none⟩) n n,.int .i64 x.pot] 101)) w1.heap.size (.slice (some ⟨w4.heap.size,0,none⟩) 1 1) n [g0] [R0]):=zH (by
  have:=jQ.one (w:=w4) (B:=w1.heap.size) (n:=n) (g:=g0) (q:=R0) ⟨Xd HX3.out.size HG0.out,HN0.out⟩ HRP.out.2 HX4.out.size;rw[HRP.out.1]at this;exact this)
 obtain⟨g5,hg5⟩:∃z,w4.heap.size=z:=⟨_,rfl⟩
 simp only[hg5]at HQ5⊢
 generalize w4.alloc (.cells #[.slice (some ⟨g0,0,none⟩) n n,.int .i64 x.pot] 101)=w5 at*
 have HT5:=zH (q38 HTY.out HX5.out);have hsz5:=HX5.out.size;obtain⟨q0,q1,q2,q3,q4,q5,q6⟩:=HBX.out.keep HX5.out HZ.out;clear hB5;go_wp2_with(go_at_call 93;(with_reducible refine(quf HI HX5 HM HT5 HGX HWL).mono ?_);rintro e w6 ⟨v6,rfl,ho,hb⟩;obtain⟨AW,cW,rfl⟩:=qjx ho;have HO6:=zH (ja ho HX5.out.size);have HX6:=zj HX5 hb;have HQ6:=zH (HQ5.out.keep hb);clear ho hb)
 clear q0 q1 q2 q3 q4 q5 q6;go_loopw [9,39] (fun v i wr=>∃(j g9 c9:Nat) (gs:List Nat),j≤WL.length∧i= .int .i64 j∧v= .slice (some ⟨g9,0,none⟩) (j+1) c9∧Hid (jQ wr w1.heap.size (.slice (some ⟨g9,0,none⟩) (j+1) c9) n gs (R0::(WL.take j).map (ky n)))∧Hid (wr.ownsRow w1.heap.size 148 3 (.slice AW WL.length cW) WL.length (QN WL))∧Hid (Below w1.heap.size w1 wr)) (fun _ i _=>WL.length - (intOf i).toNat)
 case atStart=>exact⟨0,g5,1,[g0],Xp _,rfl,rfl,by rw[List.take_zero];exact HQ6,HO6,HX6⟩
 case round=>
  clear HQ5 HQ6 HO6 HX6;obtain⟨j,g9,c9,gs,hj,rfl,rfl,HQ,HO,HX⟩:=hrel;by_cases hjw:j<WL.length
  ·have hji:(j:Int)<(WL.length:Int):=by omega
   obtain⟨gw,rfl⟩:∃gw,AW=some ⟨gw,0,none⟩:=by
    rcases Zk HO.out with⟨e,h0⟩|⟨g,c',e,_⟩
    ·omega
    ·injection e with e1 _ _;exact⟨g,e1⟩
   obtain⟨_,hcw⟩:=YO HO.out;have hget:=Xc hjw;have u0:=(hcw _ _ (Zo (f:=codC) (k:=3) (fun _=>rfl) WL j 0 _ hget (by decide))).1;have u1:=(hcw _ _ (Zo (f:=codC) (k:=3) (fun _=>rfl) WL j 1 _ hget (by decide))).1;have u2:=(hcw _ _ (Zo (f:=codC) (k:=3) (fun _=>rfl) WL j 2 _ hget (by decide))).1;have hcost:=HOK.out.cost _ (Xf hjw);have HTK:Hid (R0::(WL.take (j+1)).map (ky n)=(R0::(WL.take j).map (ky n))++[ky n WL[j]]):=zH (by rw[XH,hget,XY];rfl);have HLL:Hid ((R0::(WL.take j).map (ky n)).length=j+1):=zH (by rw[XJ,Xo,XO];omega);generalize R0::(WL.take j).map (ky n)=LL at*
   generalize WL[j]=t at*
   obtain⟨a,b,cc⟩:=t;dsimp only at hcost;replace u0:wr.cell? ⟨gw,j*3,none⟩=some (.int .i64 a):=u0;replace u1:wr.cell? ⟨gw,j*3+1,none⟩=some (.int .i64 b):=u1;replace u2:wr.cell? ⟨gw,j*3+2,none⟩=some (.int .i64 cc):=u2;have HRU:Hid (jD n a b (-cc)=((ky n (a,b,cc)).1,-cc)):=zH rfl;have HRW:Hid ((ky n (a,b,cc)).1.length=n∧ky n (a,b,cc)=((ky n (a,b,cc)).1,-cc)):=zH ⟨q3d ..,rfl⟩;obtain⟨R,hR⟩:∃R,ky n (a,b,cc)=R:=⟨_,rfl⟩
   rw[hR]at HRU HRW HTK;clear hR hget hcw;have hA7:Below wr.heap.size wr (wr.alloc (.cells #[.int .i64 a,.int .i64 b,.int .i64 cc] 148)):=(zb _ _).alloc (zn _) _;have HC7:=zH (qr wr [.int .i64 a,.int .i64 b,.int .i64 cc] 148);have HX7:=zj HX hA7;have HQ7:=zH (HQ.out.keep hA7);have HO7:=zH (zT HO.out hA7 (zL HO.out));clear hA7;go_upto_region 9 with fail
   generalize wr.alloc (.cells #[.int .i64 a,.int .i64 b,.int .i64 cc] 148)=w7 at*
   clear u0 u1 u2;have e0:=HC7.out 0 _ rfl;have e1:=HC7.out 1 _ rfl;have e2:=HC7.out 2 _ rfl;go_wp2_with(first
    |(go_at_call 92;(with_reducible refine(qbb HN1 HRU).mono ?_);rintro e w8 ⟨g8,rfl,hg8,hN8,hb⟩;have HG8:=zH (⟨Xd HX7.out.size hg8,hN8⟩:w1.heap.size≤g8∧qg w8 g8 R.1);have HX8:=zj HX7 hb;have HQ8:=zH (HQ7.out.keep hb);have HO8:=zH (zT HO7.out hb (zL HO7.out));have HQR:=zH (HQ8.out.row' HLL.out);clear hg8 hN8 hb)
    |(at_builtin;refine wpList_append_lies _ rfl _ _ 98 rfl w1.heap.size 101 i0 (.agg #[.slice none 0 0,.int .i64 0]) 2 32 Tryz.underlying98 hi hz0 hz1 hz2 rfl (by decide) _ (j+1) _ rfl (HQR.out.alloc _) ⟨_,0,none⟩ 1 1 (Qn n g8 (-cc)) rfl rfl (qv2 _ _ _ _) (qsx _ _ _) (by decide) (by unfold maxLen;omega) (by omega) (by have:=HX8.out.size;simp;omega) _ rfl ?_;intro g10 c10 w10 hown hgrow hor hlt10;have HQ10:Hid (jQ w10 w1.heap.size (.slice (some ⟨g10,0,none⟩) (j+1+1) c10) n (gs++[g8]) (LL++[R])):=zH (HQ8.out.app HLL.out (q:=R) HG8.out HRW.out.1 (by rw[show R.2= -cc by rw[HRW.out.2]];exact hown) hgrow);have HX10:=zH (jV (HX8.out.alloc HX8.out.size _) (HQR.out.alloc _) (by have:=HX8.out.size;simp;omega) hgrow);have HO10:=zH (qs9 HO8.out HQR.out (by decide) hgrow);clear hown hgrow hor hlt10))
   go_roundw;case rel=>exact⟨j+1,g10,c10,gs++[g8],by omega,by go_num,by go_num,by rw[HTK.out];exact HQ10,HO10,HX10⟩
   case measure=>simp[intOf];omega
  ·obtain rfl:j=WL.length:=by omega
   rw[XU]at HQ;have HS:=zH (jQ.slc (by have:(R0::WL.map (ky n)).length=WL.length+1:=(by simp);rw[this];exact HQ.out) HN1.out);go_wp2_with fail
   go_ret;exact⟨_,_,by simp,HS.out,HW.out.trans (HX.out.mono HW.out.size)⟩
theorem qjl{m:za}{l:List (List zo)}{f:Int}{A:Option Addr}{c:Nat}{h:zi}{w0 w:World}{L:List Inq}(HI:Hid (zm w0 w0.heap.size h m))(HX:Hid (Below w0.heap.size w0 w))(HM:Hid (zN m))(HT:Hid (jy m w A c l))(HL:Hid (QA m l f=L)):
  Calls Tryz.prog 51 #[zp h m,.slice A l.length c,.int .i64 f] w fun e w'=>∃A' c',e= .returned (.slice A' L.length c')∧ze q1t 2 w' w'.heap.size A' c' L∧Below w.heap.size w w':=by
 have H:=qjk m l f A c h w (HI.out.now HX.out) HM.out HT.out;rw[HL.out]at H;exact H
theorem qbm{Q L:List Int}{most:Int}{n:Nat}{A B:Option Addr}{c d nl:Nat}{w:World}{r:Bool}(hn:Hid (Q.length=n))(hm:Hid (L.length=nl))(hq:Hid (ze zl 1 w w.heap.size A c Q))(hl:Hid (ze zl 1 w w.heap.size B d L))(hr:Hid ((ZN (Q,most) L).getD false=r)):
  Calls Tryz.prog 52 #[.agg #[.slice A n c,.int .i64 most],.slice B nl d] w fun e w'=>∃k,e= .returned (.tuple #[.bool r,.int .i64 k])∧Below w.heap.size w w':=by
 obtain rfl:=hn.out;obtain rfl:=hm.out;exact(qk8 (Q,most) L A B c d w hq.out hl.out).mono fun e w' ⟨h1,h2⟩=>⟨(if(ZN (Q,most) L).isSome then 0 else 14),by rw[h1,hr.out],h2⟩
set_option maxHeartbeats 12800000 in
theorem qjo(m:za)(l:List (List zo))(A:Option Addr)(c:Nat)(h:zi)(w:World)(H:zm w w.heap.size h m)(hm:zN m)(hT:jy m w A c l):
  Calls Tryz.prog 23 #[zp h m,.slice A l.length c] w fun e w'=>e= .returned (.tuple #[.int .i64 (if 0≤jF m l then jF m l else 0),.int .i64 (if 0≤jF m l then 6 else 0)])∧Below w.heap.size w w':=by
 have HW:=zH (vr (w:=w) (h:=h) (m:=m));have HBX:=zH (ql w h m);have HZ:Hid (w.heap.size<(w.alloc (zg h m)).heap.size):=zH (by simp);have HI:=zH (H.now HW.out);have HM:=zH hm;have hle:=H.methods.le;have hcap:=H.methods.cap;have HTY:=zH (q38 hT HW.out);obtain⟨P,hP⟩:∃P,jF m l=P:=⟨_,rfl⟩
 have HP:=zH hP;rw[hP];clear H hm hT hP;go_enter Tryz.func23,Tryz.ntmps23;go_upto_region 1 with fail
 generalize w.alloc (zg h m)=w1 at*
 obtain⟨q0,q1,q2,q3,q4,q5,q6⟩:=HBX.out;go_wp2_with fail
 clear q0 q1 q2 q3 q4 q5 q6;go_loopw [15] (fun i wr=>∃k:Nat,k≤m.methods.length∧i= .int .i64 k∧Hid (∀g,g<k→JB m l g=false)∧Hid (Below w1.heap.size w1 wr)) (fun i _=>m.methods.length - (intOf i).toNat)
 case atStart=>exact⟨0,Xp _,rfl,zH (fun g hg=>by omega),zH (zb _ _)⟩
 case round=>
  obtain⟨k,hk,rfl,HA,HX⟩:=hrel;by_cases hlt:k<m.methods.length;rotate_left
  ·have hki:¬(k:Int)<(m.methods.length:Int):=by omega
   have hPn:P= -1:=by rw[←HP.out];exact qo1 (fun g hg=>HA.out g (by omega))
   go_wp2_with fail
   go_ret2
   exact⟨by first|rfl|simp,HW.out.trans (HX.out.mono HW.out.size)⟩
  have hki:(k:Int)<(m.methods.length:Int):=by omega
  have hkl:k<l.length:=by rw[HTY.out.2.2.1];exact hlt
  obtain⟨ad,hxx,eA,hab,hin,hcm⟩:=Qe HI.out hlt;have hgx:m.methods[k]? =some m.methods[k]:=Xc hlt;have hrk:=qry HM.out hgx (Xc hkl) (HTY.out.2.2.2 k l[k] (Xc hkl));obtain⟨A0,Ab,A2,A3,A4,k0,k1,k2,k3,k4⟩:=h;dsimp only at eA hle hcap;subst eA;generalize m.methods[k]=x at*
  have HRK:=zH hrk;obtain⟨b0,b1,b2,b3,b4,b5,b6,b7⟩:=hcm.keep HX.out (by rw[zu];exact hab);have HPH:Hid (ze zl 1 w1 w1.heap.size hxx.A7 hxx.k7 x.phi):=zH hin.phi;obtain⟨xA0,xA1,xA4,xA7,kx0,kx1,kx4,kx7⟩:=hxx;dsimp only at b0 b1 b4 b7 HPH;obtain⟨np,hnp⟩:∃np,x.phi.length=np:=⟨_,rfl⟩
  have HNP:=zH hnp;rw[hnp]at b7;have HPF:Hid (JB m l k=true→P=(k:Int)):=zH (fun hb=>by rw[←HP.out];exact quq hlt HA.out hb);obtain⟨L,hL⟩:∃L,QA m l (k:Int)=L:=⟨_,rfl⟩
  have HLR:=zH hL;rw[hL]at HRK;have HA7:Below wr.heap.size wr (wr.alloc (.cells #[.slice xA0 x.args.length kx0,.slice xA1 x.locals.length kx1,.int .i64 x.ret.1,.int .i64 x.ret.2,.slice xA4 x.code.length kx4,.int .i64 x.depth,.int .i64 x.pot,.slice xA7 np kx7] 53)):=(zb _ _).alloc (zn _) _;have HX3:=zj HX HA7;have HXB:Hid (zd (wr.alloc (.cells #[.slice xA0 x.args.length kx0,.slice xA1 x.locals.length kx1,.int .i64 x.ret.1,.int .i64 x.ret.2,.slice xA4 x.code.length kx4,.int .i64 x.depth,.int .i64 x.pot,.slice xA7 np kx7] 53)) wr.heap.size [.slice xA0 x.args.length kx0,.slice xA1 x.locals.length kx1,.int .i64 x.ret.1,.int .i64 x.ret.2,.slice xA4 x.code.length kx4,.int .i64 x.depth,.int .i64 x.pot,.slice xA7 np kx7] 53):=zH (zd.new wr _ _);obtain⟨q0,q1,q2,q3,q4,q5,q6⟩:=HBX.out.keep HX.out HZ.out;clear hgx hrk hin hcm hab hL HA7 hnp;go_upto_region 4 with fail
  clear q0 q1 q2 q3 q4 q5 q6 b0 b1 b2 b3 b4 b5 b6 b7;obtain⟨N,hN⟩:∃z,wr.heap.size=z:=⟨_,rfl⟩
  simp only[hN]at HXB⊢
  generalize wr.alloc (.cells #[.slice xA0 x.args.length kx0,.slice xA1 x.locals.length kx1,.int .i64 x.ret.1,.int .i64 x.ret.2,.slice xA4 x.code.length kx4,.int .i64 x.depth,.int .i64 x.pot,.slice xA7 np kx7] 53)=w3 at*
  obtain⟨q0,q1,q2,q3,q4,q5,q6⟩:=HBX.out.keep HX3.out HZ.out;have HT3:=zH (q38 HTY.out HX3.out);go_wp2_with(go_at_call 51;(with_reducible refine(qjl HI HX3 HM HT3 HLR).mono ?_);rintro e w5 ⟨A5,c5,rfl,hs,hb⟩;have HS5:=zH hs;have HX5:=zj HX3 hb;have HXB5:=zH (HXB.out.keep hb (zd.lt HXB.out));clear hs hb)
  clear q0 q1 q2 q3 q4 q5 q6;have hl51:=HS5.out.le;have hl52:=HS5.out.cap;go_loopw [25] (fun i wr=>∃j:Nat,j≤L.length∧i= .int .i64 j∧Hid ((L.take j).all (kD x)=true)∧Hid (Below w5.heap.size w5 wr)) (fun i _=>L.length - (intOf i).toNat)
  case atStart=>exact⟨0,Xp _,rfl,zH (by rw[List.take_zero];rfl),zH (zb _ _)⟩
  case round=>
   clear HX;obtain⟨j,hj,rfl,HJ,HY⟩:=hrel;by_cases hjl:j<L.length;rotate_left
   ·obtain rfl:j=L.length:=by omega
    rw[XU]at HJ;have HB1:Hid (∀g,g<k+1→JB m l g=false):=zH (fun g hg=>by
     rcases Xk g k with q|q
     ·exact HA.out g q
     ·obtain rfl:g=k:=by omega
      have:=HRK.out;rw[HJ.out]at this;simpa using this.symm)
    have HX9:=zH (HX5.out.trans (HY.out.mono HX5.out.size));go_wp2_with fail
    go_roundw;case rel=>exact⟨k+1,by omega,by go_num,HB1,HX9⟩
    case measure=>simp[intOf];omega
   have hji:(j:Int)<(L.length:Int):=by omega
   obtain⟨ad5,rfl,hab5,⟨Aq,cq,u0,hsq⟩,u1⟩:=HS5.out.row.at_ hjl;have HTK:Hid (L.take (j+1)=L.take j++[L[j]]):=zH (by rw[XH,Xc hjl];rfl);have HIN:Hid (L[j] ∈L):=zH (Xf hjl);generalize L[j]=q at*
   obtain⟨Q,most⟩:=q;dsimp only at u0 u1 hsq;obtain⟨nq,hnq⟩:∃n,Q.length=n:=⟨_,rfl⟩
   have HNQ:=zH hnq;rw[hnq]at u0;have HSQ:=zH hsq;have v0:=(HY.out.cell (p:=ad5.add (j*2)) (by rw[zu];exact hab5)).trans u0;have v1:=(HY.out.cell (p:=zf (ad5.add (j*2)) 1) (by show(ad5.add _).block<_;rw[zu];exact hab5)).trans u1;have hA8:Below wr.heap.size wr (wr.alloc (.cells #[.slice Aq nq cq,.int .i64 most] 101)):=(zb _ _).alloc (zn _) _;have HC8:=zH (qr wr [.slice Aq nq cq,.int .i64 most] 101);have HY8:=zj HY hA8;have HX8:=zH (HX5.out.trans (HY8.out.mono HX5.out.size));clear u0 u1 hnq hsq hA8;go_upto_region 7 with fail
   generalize wr.alloc (.cells #[.slice Aq nq cq,.int .i64 most] 101)=w8 at*
   clear v0 v1;have e0:=HC8.out 0 _ rfl;have e1:=HC8.out 1 _ rfl;have b7:=(HXB5.out.keep HY8.out (zd.lt HXB5.out)).cells 7 _ rfl;have HQ8:Hid (ze zl 1 w8 w8.heap.size Aq cq Q):=zH (kF zl.keeps HSQ.out HY8.out);have HP8:Hid (ze zl 1 w8 w8.heap.size xA7 kx7 x.phi):=zH (kF zl.keeps HPH.out HX8.out);obtain⟨r,hr⟩:∃r,(ZN (Q,most) x.phi).getD false=r:=⟨_,rfl⟩
   have HR:=zH hr;clear hr;cases r
   ·have hPk:P=(k:Int):=HPF.out (by
     have h1:=HRK.out;have h2:L.all (kD x)=false:=by
      rw[Wa];intro ha;have:=Xx.mp ha _ HIN.out;unfold kD at this;rw[HR.out]at this;cases this
     rw[h2]at h1;simpa using h1.symm)
    go_wp2_with(go_at_call 52;(with_reducible refine(qbm HNQ HNP HQ8 HP8 HR).mono ?_);rintro e w9 ⟨ke,rfl,hb⟩;have HX9:=zj HX8 hb;clear hb)
    go_ret2
    exact⟨by first|rfl|simp,HW.out.trans (HX9.out.mono HW.out.size)⟩
   ·have HJ1:Hid ((L.take (j+1)).all (kD x)=true):=zH (by
     rw[HTK.out,List.all_append,HJ.out];show(kD x (Q,most)&& true)=true;unfold kD;rw[HR.out];rfl)
    go_wp2_with(go_at_call 52;(with_reducible refine(qbm HNQ HNP HQ8 HP8 HR).mono ?_);rintro e w9 ⟨ke,rfl,hb⟩;have HY9:=zj HY8 hb;clear hb)
    go_roundw;case rel=>exact⟨j+1,by omega,by go_num,HJ1,HY9⟩
    case measure=>simp[intOf];omega
end Go.Proofs.YtcmiljnbmgkdnaaGreat
