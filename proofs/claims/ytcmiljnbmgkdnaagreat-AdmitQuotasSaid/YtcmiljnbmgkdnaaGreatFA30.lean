import Derived.Test.YtcmiljnbmgkdnaaGreatFA28
import Derived.Test.YtcmiljnbmgkdnaaGreatFA23
import Derived.Test.YtcmiljnbmgkdnaaGreatFA15
import Derived.Test.YtcmiljnbmgkdnaaGreatFA27
import Derived.Test.YtcmiljnbmgkdnaaGreatFA10
namespace Go.Proofs.YtcmiljnbmgkdnaaGreat
set_option maxRecDepth 100000
set_option linter.unusedVariables false
set_option linter.unusedSimpArgs false
open Go.ChangeShapes Go.WideShapes Go.ChangeAt Go.RowKit
def Yi(m:za)(i:Nat):Bool:=match m.classes[i]? with
 |some x=>decide ((zV m.classes (i:Int)).length≤8)&& ky m i x
 |none=>true
def q2p(m:za):Bool:=(List.range m.classes.length).all (Yi m)
theorem q1o{m:za}{i:Nat}{x:zO}(h:m.classes[i]? =some x):Yi m i=(decide ((zV m.classes (i:Int)).length≤8)&& ky m i x):=by
 unfold Yi;rw[h]
theorem q9u{m:za}{i:Nat}(hi:i<m.classes.length)(h:Yi m i=false):q2p m=false:=by
 rw[X9];intro g;have:=Xy.mp g i (XQ.mpr hi);rw[h]at this;cases this
theorem qq2{m:za}{i:Nat}{x:zO}(h:∀j<i,Yi m j=true)(hs:x.sup<(i:Int))(hp:∀y ∈m.classes,∀s ∈y.slots,0≤s):∀q ∈vu m x,0≤q∧∃g,m.methods[q.toNat]? =some g∧0<g.args.length:=fun q hq=>by
 unfold vu at hq;split at hq
 ·cases hy:m.classes[x.sup.toNat]? with
  |none=>rw[hy]at hq;simp at hq
  |some y=>
   rw[hy]at hq;have h1:=h x.sup.toNat (by omega)
   rw[q1o hy]at h1;simp only[Xv]at h1;have h2:=h1.2;unfold ky at h2;simp only[Xv]at h2;obtain⟨j,hj⟩:=q38 _ _ h2.2 q hq;exact⟨hp y (Xo hy) q hq,q74 hj⟩
 ·simp at hq
def kd(m:za):Bool:=Jt m&& (Za m.classes&& (q2p m&& (m.methods.all (vG m)&& m.entries.all (vH m))))
theorem q4h{m:za}{h:zg}{w0 w:World}{r:Bool}(HI:Hid (zi w0 w0.heap.size h m))(HX:Hid (Below w0.heap.size w0 w))(HN:Hid (m.classes.length≤1000))(HN':Hid (m.methods.length≤1000))(HR:Hid (Jt m=r)):
  Calls Tryz.prog 83 #[zk h m] w fun e w'=>e= .returned (.bool r)∧Below w.heap.size w w':=by
 have H:=qhc m h w (HI.out.now HX.out) HN.out HN'.out;rw[HR.out]at H;exact H
theorem q8l{m:za}{h:zg}{w0 w:World}{r:Bool}(HI:Hid (zi w0 w0.heap.size h m))(HX:Hid (Below w0.heap.size w0 w))(HR:Hid (Za m.classes=r)):
  Calls Tryz.prog 84 #[.slice h.A0 m.classes.length h.c0] w fun e w'=>e= .returned (.bool r)∧Below w.heap.size w w':=by
 have H:=qg0 m.classes h.A0 h.c0 w.heap.size w (zn _) (HI.out.now HX.out).classes;rw[HR.out]at H;exact H
theorem qad{m:za}{x:zO}{i:Nat}{h:zg}{w0 w:World}{r:Bool}(HI:Hid (zi w0 w0.heap.size h m))(HX:Hid (Below w0.heap.size w0 w))(HG:Hid (m.classes[i]? =some x))(HP:Hid (∀y ∈m.classes,∀s ∈y.slots,0≤s))(HS:Hid (x.sup<m.classes.length))(HT:Hid (Ql m))
  (HQ:Hid (∀q ∈vu m x,0≤q∧∃g,m.methods[q.toNat]? =some g∧0<g.args.length)) (HR:Hid (ky m i x=r)):
  Calls Tryz.prog 86 #[zk h m,.int .i64 (i:Int)] w fun e w'=>e= .returned (.bool r)∧Below w.heap.size w w':=by
 have H:=qhh m x i h w (HI.out.now HX.out) HG.out HP.out HS.out HT.out.n HQ.out;rw[HR.out]at H;exact H
theorem q8n{m:za}{x:zf}{N:Nat}{h:zg}{hx:qh}{w0 w:World}{r:Bool}(HI:Hid (zi w0 w0.heap.size h m))(HM:Hid (qL w0 w0.heap.size hx x))(HX:Hid (Below w0.heap.size w0 w))(HK:Hid (Zw w N h m))(HT:Hid (Ql m))(HU:Hid (JI x))(HS:Hid (Za m.classes=true))(HR:Hid (vG m x=r)):
  Calls Tryz.prog 87 #[zk h m,jH hx x,cntV N] w fun e w'=>e= .returned (.bool r)∧Below w.heap.size w w':=by
 have H:=qg3 m x N h hx w (HI.out.now HX.out) (HM.out.now HX.out) HK.out HT.out HU.out HS.out;rw[HR.out]at H;exact H
theorem qaj{m:za}{n:Nat}{h:zg}{w0 w:World}{r:Bool}(HI:Hid (zi w0 w0.heap.size h m))(HX:Hid (Below w0.heap.size w0 w))(HR:Hid (vH m (n:Int)=r)):
  Calls Tryz.prog 88 #[zk h m,.int .i64 (n:Int)] w fun e w'=>e= .returned (.bool r)∧Below w.heap.size w w':=by
 have H:=qho m n h w (HI.out.now HX.out);rw[HR.out]at H;exact H
theorem q5n{m:za}{c:Int}{h:zg}{N:Nat}{w0 w:World}{L:List (Int×Int)}(HI:Hid (zi w0 w0.heap.size h m))(HX:Hid (Below w0.heap.size w0 w))(HK:Hid (Zw w N h m))(HS:Hid (Za m.classes=true))(HT:Hid (Ql m))(h1:c<m.classes.length)(HL:Hid (zV m.classes c=L)):
  Calls Tryz.prog 128 #[.int .i64 c,.pointer (some ⟨N,0,none⟩)] w fun e w'=>e= .returned (.int .i64 (L.length:Int))∧w=w':=by
 have H:=q8r m.classes c N h.A0 h.c0 w.heap.size w (zn _) (HI.out.now HX.out).classes HK.out.cell HS.out HT.out.f HT.out.n h1;rw[HL.out]at H;exact H
theorem quw(h:zg)(m:za)(w:World):Zw (w.alloc (.cells #[.slice h.A0 m.classes.length h.c0] 22)) w.heap.size h m:=
 ⟨qa w [.slice h.A0 m.classes.length h.c0] 22 0 _ rfl,by simp⟩
theorem Ys{P:Prop}(h:P:=by
 go_ret;exact⟨by rw[E2.out];rfl,HW.out.trans (HX.out.mono (Xk HZ.out))⟩):P:=h
set_option maxHeartbeats 6400000 in
theorem qhj(m:za)(h:zg)(w:World)(H:zi w w.heap.size h m)(hf:q68 m):
  Calls Tryz.prog 49 #[zk h m] w fun e w'=>e= .returned (.bool (kd m))∧Below w.heap.size w w':=by
 have HW:=zH (jz (w:=w) (h:=h) (m:=m));have HBX:=zH (zX w h m);have HZ:Hid (w.heap.size<(w.alloc (zo h m)).heap.size):=zH (by simp);have HI:=zH (H.now HW.out);have HN:Hid (m.classes.length≤1000):=zH (by have:=hf.cl;omega);have HNM:Hid (m.methods.length≤1000):=zH (by have:=hf.ml;omega);have HT:Hid (Ql m):=zH ⟨by have:=hf.cl;omega,fun x hx=>by have:=(hf.ct x hx).fl;omega⟩;have HTM:Hid (∀x ∈m.methods,JI x):=zH (fun x hx=>⟨by have:=(hf.mt x hx).al;omega,by have:=(hf.mt x hx).ll;omega,fun i hi=>(Qn ((hf.mt x hx).ct i hi)).2.2.1⟩);have HP:Hid (∀y ∈m.classes,∀s ∈y.slots,0≤s):=zH (fun y hy s hs=>((hf.ct y hy).st s hs).1);have HPE:Hid (∀n ∈m.entries,0≤n):=zH (fun n hn=>(hf.et n hn).1);have l0:=H.classes.le;have l0c:=H.classes.cap;have l3:=H.methods.le;have l3c:=H.methods.cap;have l4:=H.entries.le;have l4c:=H.entries.cap;clear H hf;obtain⟨d1,hd1⟩:∃d,Jt m=d:=⟨_,rfl⟩
 have D1:=zH hd1;obtain⟨d2,hd2⟩:∃d,Za m.classes=d:=⟨_,rfl⟩
 have D2:=zH hd2;clear hd1 hd2;go_enter Tryz.func49,Tryz.ntmps49;go_upto_region 1 with fail
 generalize w.alloc (zo h m)=w1 at*
 obtain⟨q0,q1,q2,q3,q4,q5,q6⟩:=HBX.out;have HX:Hid (Below w1.heap.size w1 w1):=zH (zb _ _);cases d1
 ·have E2:=zH (show kd m=false by unfold kd;rw[D1.out];rfl);go_wp2_with(go_at_call 83;(with_reducible refine(q4h HI HX HN HNM D1).mono ?_);rintro e w5 ⟨rfl,hb⟩;have HX:=zl HX hb;obtain⟨q0,q1,q2,q3,q4,q5,q6⟩:=HBX.out.keep HX.out HZ.out;clear hb)
  exact Ys
 ·cases d2
  ·have E2:=zH (show kd m=false by unfold kd;rw[D1.out,D2.out];rfl);go_wp2_with((first|(go_at_call 83;(with_reducible refine(q4h HI HX HN HNM D1).mono ?_))|(go_at_call 84;(with_reducible refine(q8l HI HX D2).mono ?_)));rintro e w5 ⟨rfl,hb⟩;have HX:=zl HX hb;obtain⟨q0,q1,q2,q3,q4,q5,q6⟩:=HBX.out.keep HX.out HZ.out;clear hb)
   exact Ys
  ·have HS:=D2;go_upto_region 4 with(first|((first|(go_at_call 83;(with_reducible refine(q4h HI HX HN HNM D1).mono ?_))|(go_at_call 84;(with_reducible refine(q8l HI HX D2).mono ?_)));rintro e w5 ⟨rfl,hb⟩;have HX:=zl HX hb;obtain⟨q0,q1,q2,q3,q4,q5,q6⟩:=HBX.out.keep HX.out HZ.out;clear hb)|(go_at_call 85;(with_reducible refine(qff _ _ _ _).mono ?_);rintro e w6 ⟨rfl,hw6⟩;have HK:Hid (Zw w6 w5.heap.size h m):=zH (by rw[hw6];exact quw h m w5);have HX:=zH (show Below w1.heap.size w1 w6 by rw[hw6];exact HX.out.alloc HX.out.size _);obtain⟨q0,q1,q2,q3,q4,q5,q6⟩:=HBX.out.keep HX.out HZ.out;clear hw6))
   generalize w5.heap.size=N at*
   go_wp2_with fail
   go_loopw [24] (fun i wr=>∃k:Nat,k≤m.classes.length∧i= .int .i64 k∧Hid (∀j<k,Yi m j=true)∧Hid (Zw wr N h m)∧Hid (Below w1.heap.size w1 wr)) (fun i _=>m.classes.length - (intOf i).toNat)
   case atStart=>exact⟨0,by omega,rfl,zH (by intro j hj;omega),HK,HX⟩
   case round=>
    clear HX HK q0 q1 q2 q3 q4 q5 q6;obtain⟨k,hk,rfl,HNC,HK,HX⟩:=hrel;obtain⟨q0,q1,q2,q3,q4,q5,q6⟩:=HBX.out.keep HX.out HZ.out;by_cases hlt:k<m.classes.length
    ·have HG:=zH (Xc hlt);generalize m.classes[k]=x at*
     have hsx:=q0i D2.out HG.out;have HSX:Hid (x.sup<m.classes.length):=zH (by omega);have HPQ:=zH (qq2 HNC.out hsx HP.out);have HCA:=zH (q1o HG.out);have hki:(k:Int)<(m.classes.length:Int):=by omega
     obtain⟨L,hL⟩:∃L,zV m.classes (k:Int)=L:=⟨_,rfl⟩
     rw[hL]at HCA;have HL:=zH hL;obtain⟨d3,hd3⟩:∃d,ky m k x=d:=⟨_,rfl⟩
     have D3:=zH hd3;clear hd3 hL hsx;by_cases c8:L.length≤8
     ·have ct8:¬(8:Int)<(L.length:Int):=by omega
      cases d3
      ·have E2:=zH (show kd m=false by unfold kd;rw[D1.out,D2.out,q9u hlt (HCA.out.trans (by rw[D3.out];simp))];rfl);go_wp2_with(first|(go_at_call 128;(with_reducible refine(q5n HI HX HK HS HT hki HL).mono ?_);rintro e w7 ⟨rfl,rfl⟩)|(go_at_call 86;(with_reducible refine(qad HI HX HG HP HSX HT HPQ D3).mono ?_);rintro e w7 ⟨rfl,hb⟩;have HX:=zl HX hb;obtain⟨q0,q1,q2,q3,q4,q5,q6⟩:=HBX.out.keep HX.out HZ.out;have HK:=zH (HK.out.now hb);clear hb))
       exact Ys
      ·have HY:Hid (∀j<k+1,Yi m j=true):=zH (fun j hj=>by
        by_cases e:j=k
        ·subst e;rw[HCA.out,D3.out,Xh c8];rfl
        ·exact HNC.out j (by omega))
       go_wp2_with(first|(go_at_call 128;(with_reducible refine(q5n HI HX HK HS HT hki HL).mono ?_);rintro e w7 ⟨rfl,rfl⟩)|(go_at_call 86;(with_reducible refine(qad HI HX HG HP HSX HT HPQ D3).mono ?_);rintro e w7 ⟨rfl,hb⟩;have HX:=zl HX hb;obtain⟨q0,q1,q2,q3,q4,q5,q6⟩:=HBX.out.keep HX.out HZ.out;have HK:=zH (HK.out.now hb);clear hb))
       go_roundw;case rel=>exact⟨k+1,by omega,by go_num,HY,HK,HX⟩
       case measure=>simp[intOf];omega
     ·have ct8:(8:Int)<(L.length:Int):=by omega
      have E2:=zH (show kd m=false by unfold kd;rw[D1.out,D2.out,q9u hlt (HCA.out.trans (by rw[Xf c8];rfl))];rfl);go_wp2_with(go_at_call 128;(with_reducible refine(q5n HI HX HK HS HT hki HL).mono ?_);rintro e w7 ⟨rfl,rfl⟩)
      exact Ys
    ·have HCO:=zH (show q2p m=true from Xy.mpr fun j hj=>HNC.out j (by have:=XQ.mp hj;omega));go_wp2_with fail
     go_loopw [41] (fun i wr=>∃k:Nat,k≤m.methods.length∧i= .int .i64 k∧Hid (∀x ∈m.methods.take k,vG m x=true)∧Hid (Zw wr N h m)∧Hid (Below w1.heap.size w1 wr)) (fun i _=>m.methods.length - (intOf i).toNat)
     case atStart=>exact⟨0,by omega,rfl,zH (by simp),HK,HX⟩
     case round=>
      clear HX HK q0 q1 q2 q3 q4 q5 q6 hlt hk;obtain⟨k,hk,rfl,HNM2,HK,HX⟩:=hrel;obtain⟨q0,q1,q2,q3,q4,q5,q6⟩:=HBX.out.keep HX.out HZ.out;by_cases hlt:k<m.methods.length
      ·obtain⟨ad,e0,hab,hc⟩:=HI.out.methods.row.at_ hlt;have HNO:=zH (fun g:vG m m.methods[k]=false=>vb hlt g);have HYE:=zH (fun g:vG m m.methods[k]=true=>jT hlt HNM2.out g);have HU:=zH (HTM.out _ (Xd hlt));generalize m.methods[k]=x at*
       obtain⟨⟨A0,k0,s0,hs0⟩,⟨A1,k1,s1,hs1⟩,s2,s3,⟨A4,k4,s4,hs4⟩,s5,s6,⟨A7,k7,s7,hs7⟩⟩:=hc;have hP:(ad.add (k*8)).block<w1.heap.size:=by rw[zp];exact hab
       have s0:=(HX.out.cell hP).trans s0;have s1:=(HX.out.cell (p:=zc (ad.add (k*8)) 1) hP).trans s1;have s2:=(HX.out.cell (p:=zc (ad.add (k*8)) 2) hP).trans s2;have s3:=(HX.out.cell (p:=zc (ad.add (k*8)) 3) hP).trans s3;have s4:=(HX.out.cell (p:=zc (ad.add (k*8)) 4) hP).trans s4;have s5:=(HX.out.cell (p:=zc (ad.add (k*8)) 5) hP).trans s5;have s6:=(HX.out.cell (p:=zc (ad.add (k*8)) 6) hP).trans s6;have s7:=(HX.out.cell (p:=zc (ad.add (k*8)) 7) hP).trans s7;have HMX:Hid (qL w1 w1.heap.size ⟨A0,A1,A4,A7,k0,k1,k4,k7⟩ x):=zH ⟨hs0,hs1,hs4,hs7⟩;rw[e0];obtain⟨d4,hd4⟩:∃d,vG m x=d:=⟨_,rfl⟩
       have D4:=zH hd4;clear hd4 e0 hs0 hs1 hs4 hs7 hP hab;go_upto_region 13 with fail
       have HB3:=zH (qa wr [.slice A0 x.args.length k0,.slice A1 x.locals.length k1,.int .i64 x.ret.1,.int .i64 x.ret.2,.slice A4 x.code.length k4,.int .i64 x.depth,.int .i64 x.pot,.slice A7 x.phi.length k7] 53);have HK:=zH (HK.out.now ((zb wr.heap.size wr).alloc (zn _) (.cells ([.slice A0 x.args.length k0,.slice A1 x.locals.length k1,.int .i64 x.ret.1,.int .i64 x.ret.2,.slice A4 x.code.length k4,.int .i64 x.depth,.int .i64 x.pot,.slice A7 x.phi.length k7]:List Value).toArray 53)));have HX:=zH (HX.out.alloc HX.out.size (.cells ([.slice A0 x.args.length k0,.slice A1 x.locals.length k1,.int .i64 x.ret.1,.int .i64 x.ret.2,.slice A4 x.code.length k4,.int .i64 x.depth,.int .i64 x.pot,.slice A7 x.phi.length k7]:List Value).toArray 53));have HB3:Hid (zW (wr.alloc (.cells ([.slice A0 x.args.length k0,.slice A1 x.locals.length k1,.int .i64 x.ret.1,.int .i64 x.ret.2,.slice A4 x.code.length k4,.int .i64 x.depth,.int .i64 x.pot,.slice A7 x.phi.length k7]:List Value).toArray 53)) wr.heap.size [.slice A0 x.args.length k0,.slice A1 x.locals.length k1,.int .i64 x.ret.1,.int .i64 x.ret.2,.slice A4 x.code.length k4,.int .i64 x.depth,.int .i64 x.pot,.slice A7 x.phi.length k7]):=HB3;clear q0 q1 q2 q3 q4 q5 q6 s0 s1 s2 s3 s4 s5 s6 s7;generalize wr.alloc (.cells ([.slice A0 x.args.length k0,.slice A1 x.locals.length k1,.int .i64 x.ret.1,.int .i64 x.ret.2,.slice A4 x.code.length k4,.int .i64 x.depth,.int .i64 x.pot,.slice A7 x.phi.length k7]:List Value).toArray 53)=w3 at*
       generalize wr.heap.size=gb at*
       obtain⟨b0,b1,b2,b3,b4,b5,b6,b7⟩:=ck8 HB3.out;obtain⟨q0,q1,q2,q3,q4,q5,q6⟩:=HBX.out.keep HX.out HZ.out;cases d4
       ·have E2:=zH (show kd m=false by unfold kd;rw[D1.out,D2.out,HCO.out,HNO.out D4.out];rfl);go_wp2_with(go_at_call 87;(with_reducible refine(q8n HI HMX HX HK HT HU HS D4).mono ?_);rintro e w7 ⟨rfl,hb⟩;have HX:=zl HX hb;obtain⟨q0,q1,q2,q3,q4,q5,q6⟩:=HBX.out.keep HX.out HZ.out;have HK:=zH (HK.out.now hb);clear hb)
        exact Ys
       ·have HY:=zH (HYE.out D4.out);go_wp2_with(go_at_call 87;(with_reducible refine(q8n HI HMX HX HK HT HU HS D4).mono ?_);rintro e w7 ⟨rfl,hb⟩;have HX:=zl HX hb;obtain⟨q0,q1,q2,q3,q4,q5,q6⟩:=HBX.out.keep HX.out HZ.out;have HK:=zH (HK.out.now hb);clear hb)
        go_roundw;case rel=>exact⟨k+1,by omega,by go_num,HY,HK,HX⟩
        case measure=>simp[intOf];omega
      ·have HMA:=zH (show m.methods.all (vG m)=true from vc HNM2.out (by omega));go_wp2_with fail
       go_loopw [54] (fun i wr=>∃k:Nat,k≤m.entries.length∧i= .int .i64 k∧Hid (∀n ∈m.entries.take k,vH m n=true)∧Hid (Zw wr N h m)∧Hid (Below w1.heap.size w1 wr)) (fun i _=>m.entries.length - (intOf i).toNat)
       case atStart=>exact⟨0,by omega,rfl,zH (by simp),HK,HX⟩
       case round=>
        clear HX HK q0 q1 q2 q3 q4 q5 q6 hlt hk;obtain⟨k,hk,rfl,HNE,HK,HX⟩:=hrel;obtain⟨q0,q1,q2,q3,q4,q5,q6⟩:=HBX.out.keep HX.out HZ.out;by_cases hlt:k<m.entries.length
        ·obtain⟨ad,e0,hab,hc⟩:=HI.out.entries.row.at_ hlt;have hp:=HPE.out _ (Xd hlt);have HNO:=zH (fun g:vH m m.entries[k]=false=>vb hlt g);have HYE:=zH (fun g:vH m m.entries[k]=true=>jT hlt HNE.out g);generalize m.entries[k]=n0 at*
         obtain⟨n,rfl⟩:=Xm hp;rw[Xq]at hc;have t0:=(HX.out.cell (p:=ad.add k) (by rw[zp];exact hab)).trans hc;rw[e0];obtain⟨d5,hd5⟩:∃d,vH m (n:Int)=d:=⟨_,rfl⟩
         have D5:=zH hd5;clear hd5 e0 hc hab hp;cases d5
         ·have E2:=zH (show kd m=false by unfold kd;rw[D1.out,D2.out,HCO.out,HMA.out,HNO.out D5.out];rfl);go_wp2_with(go_at_call 88;(with_reducible refine(qaj HI HX D5).mono ?_);rintro e w7 ⟨rfl,hb⟩;have HX:=zl HX hb;obtain⟨q0,q1,q2,q3,q4,q5,q6⟩:=HBX.out.keep HX.out HZ.out;have HK:=zH (HK.out.now hb);clear hb)
          exact Ys
         ·have HY:=zH (HYE.out D5.out);go_wp2_with(go_at_call 88;(with_reducible refine(qaj HI HX D5).mono ?_);rintro e w7 ⟨rfl,hb⟩;have HX:=zl HX hb;obtain⟨q0,q1,q2,q3,q4,q5,q6⟩:=HBX.out.keep HX.out HZ.out;have HK:=zH (HK.out.now hb);clear hb)
          go_roundw;case rel=>exact⟨k+1,by omega,by go_num,HY,HK,HX⟩
          case measure=>simp[intOf];omega
        ·have E2:=zH (show kd m=true by unfold kd;rw[D1.out,D2.out,HCO.out,HMA.out,show m.entries.all (vH m)=true from vc HNE.out (by omega)];rfl);go_wp2_with fail
         exact Ys
theorem qk0{m:za}(h:zT m=true):∀x ∈m.methods,qi x.ret=true∧∀t ∈x.args,qi t=true:=fun x hx=>by
 unfold zT at h;simp only[Xv]at h;have h1:=Xy.mp h.2.2 x hx;unfold qY at h1;simp only[Xv]at h1;exact⟨h1.2.2.1,(XN h1.1:_∧_).2⟩
theorem q1u{t:Int×Int}{k:Int}(h:qi t=true)(hk:k≠3):(t=(k,0))↔t.1=k:=by
 have h:=XN h;constructor
 ·rintro rfl;rfl
 ·intro e;have:t.2=0:=by omega
  exact Prod.ext e this
theorem qke{m:za}(h:zT m=true)(n:Int):vH m n=vw m n:=by
 unfold vH vw;cases hf:m.methods[n.toNat]? with
 |none=>rfl
 |some f=>
  obtain⟨h1,h2⟩:=qk0 h f (Xo hf);dsimp only;rw[XV];simp only[Xv,We,Xy,Xr];rw[q1u h1 (by decide),q1u h1 (by decide)];constructor
  ·rintro⟨g1,g2⟩;exact⟨g2,fun t ht=>(q1u (h2 t ht) (by decide)).mp (g1 t ht)⟩
  ·rintro⟨g2,g1⟩;exact⟨fun t ht=>(q1u (h2 t ht) (by decide)).mpr (g1 t ht),g2⟩
theorem qnx(m:za)(c:Int):YS (kG m m.methods.length) c=true↔js m.statics c=true∧(∀x ∈m.classes,js x.fields c=true)∧∀x ∈m.methods,js x.args c=true∧js x.locals c=true:=by
 unfold YS kG;rw[XH (zn _)];simp only[List.all_cons,List.all_append,Xv,Xy,XW,List.mem_flatMap];constructor
 ·rintro⟨h1,h2,h3⟩;refine⟨h1,fun x hx=>h2 _ ⟨x,hx,rfl⟩,fun x hx=>⟨h3 _ ⟨x,hx,by simp⟩,h3 _ ⟨x,hx,by simp⟩⟩⟩
 ·rintro⟨h1,h2,h3⟩;refine⟨h1,?_,?_⟩
  ·rintro l ⟨x,hx,rfl⟩;exact h2 x hx
  ·rintro l ⟨x,hx,hl⟩;simp at hl;rcases hl with rfl|rfl
   ·exact(h3 x hx).1
   ·exact(h3 x hx).2
theorem qpe(m:za):vV m m.classes.length=true↔∀(i:Nat) x,m.classes[i]? =some x→qs m (i:Int) x=true:=by
 constructor
 ·intro h i x hx;obtain⟨hi,_⟩:=Xw.mp hx;exact q5o h hi hx
 ·intro h;refine Xy.mpr fun i hi=> ?_;cases hx:m.classes[i]? with
  |none=>rfl
  |some x=>exact h i x hx
theorem qku(m:za):q2p m=true↔∀(i:Nat) x,m.classes[i]? =some x→(zV m.classes (i:Int)).length≤8∧ky m i x=true:=by
 constructor
 ·intro h i x hx;obtain⟨hi,_⟩:=Xw.mp hx;have:=Xy.mp h i (XQ.mpr hi);rw[q1o hx]at this;simpa using this
 ·intro h;refine Xy.mpr fun i hi=> ?_;cases hx:m.classes[i]? with
  |none=>unfold Yi;rw[hx]
  |some x=>
   rw[q1o hx];simpa using h i x hx
theorem qqi(cl:List zO):Za cl=true↔∀(i:Nat) x,cl[i]? =some x→x.sup<(i:Int):=by
 constructor
 ·intro h i x hx;exact q0i h hx
 ·intro h;refine Xy.mpr fun i hi=> ?_;unfold supB;cases hx:cl[i]? with
  |none=>rfl
  |some x=>exact Xh (h i x hx)
theorem qbs(m:za)(i:Nat)(x:zO):qs m (i:Int) x=true↔x.sup<(i:Int)∧js x.fields m.classes.length=true∧(zV m.classes (i:Int)).length≤8∧ky m i x=true:=by
 unfold qs ky;simp only[Xv,Xr]
theorem q97(m:za)(x:zf):qu m x=true↔js x.args m.classes.length=true∧js x.locals m.classes.length=true∧vY x.ret m.classes.length=true∧vG m x=true:=by
 unfold qu vG;simp only[Xv]
theorem qj5{m:za}(h:zT m=true):kd m=okB m:=by
 rw[XV];unfold kd okB Jt;simp only[Xv];rw[qnx,qqi,qku,qpe,show m.entries.all (vH m)=m.entries.all (vw m)by rw[show vH m=vw m from funext (qke h)]];unfold q0z;simp only[Xy];constructor
 ·rintro⟨⟨r,s,f,t⟩,u,c,x,e⟩;exact⟨s,fun i y hy=>(qbs m i y).mpr ⟨u i y hy,f y (Xo hy),(c i y hy).1,(c i y hy).2⟩,fun y hy=>(q97 m y).mpr ⟨(t y hy).1,(t y hy).2,r y hy,x y hy⟩,e⟩
 ·rintro⟨s,c,x,e⟩;have c':=fun i y hy=>(qbs m i y).mp (c i y hy);have x':=fun y hy=>(q97 m y).mp (x y hy);refine⟨⟨fun y hy=>(x' y hy).2.2.1,s,fun y hy=> ?_,fun y hy=>⟨(x' y hy).1,(x' y hy).2.1⟩⟩,fun i y hy=>(c' i y hy).1,fun i y hy=>⟨(c' i y hy).2.2.1,(c' i y hy).2.2.2⟩,fun y hy=>(x' y hy).2.2.2,e⟩;obtain⟨i,hi⟩:=List.getElem?_of_mem hy;exact(c' i y hi).2.1
theorem q6s{P:Prop}(h:P:=by
 go_wp2_with(first|(go_at_call 48;(with_reducible refine(qbf m h _ _ (zn _) HI.out).mono ?_);rintro e w2 ⟨he,hb⟩;rw[R.out]at he;subst he;have HX:=zH hb;obtain⟨q0,q1,q2,q3,q4,q5,q6⟩:=HBX.out.keep HX.out HZ.out;clear hb)|(go_at_call 49;(with_reducible refine(qhj m h _ (HI.out.now HX.out) HF.out).mono ?_);rintro e w3 ⟨he,hb⟩;rw[D.out]at he;subst he;have HX:=zl HX hb;clear hb))
 go_ret;exact⟨by rw[EN.out];rfl,HW.out.trans (HX.out.mono HW.out.size)⟩):P:=h
set_option maxHeartbeats 800000 in
theorem qhs(m:za)(h:zg)(w:World)(H:zi w w.heap.size h m):
  Calls Tryz.prog 21 #[zk h m] w fun e w'=>e= .returned (.int .i64 (qK m))∧Below w.heap.size w w':=by
 have HW:=zH (jz (w:=w) (h:=h) (m:=m));have HBX:=zH (zX w h m);have HZ:Hid (w.heap.size<(w.alloc (zo h m)).heap.size):=zH (by simp);have HI:=zH (H.now HW.out);clear H;obtain⟨r,hr⟩:∃r,zT m=r:=⟨_,rfl⟩
 have R:=zH hr;clear hr;go_enter Tryz.func21,Tryz.ntmps21;go_upto_region 1 with fail
 generalize w.alloc (zo h m)=w1 at*
 obtain⟨q0,q1,q2,q3,q4,q5,q6⟩:=HBX.out;cases r
 ·have EN:=zH (q0d R.out);go_wp2_with(go_at_call 48;(with_reducible refine(qbf m h _ _ (zn _) HI.out).mono ?_);rintro e w2 ⟨he,hb⟩;rw[R.out]at he;subst he;have HX:=zH hb;obtain⟨q0,q1,q2,q3,q4,q5,q6⟩:=HBX.out.keep HX.out HZ.out;clear hb)
  go_ret;exact⟨by rw[EN.out];rfl,HW.out.trans (HX.out.mono HW.out.size)⟩
 ·have HF:=zH (q0n R.out);have HS:=zH (qj5 R.out);obtain⟨d,hd⟩:∃d,kd m=d:=⟨_,rfl⟩
  have D:=zH hd;have HOK:=zH (HS.out.symm.trans hd);clear hd HS;cases d
  ·have EN:=zH (Ya R.out HOK.out);exact q6s
  ·have EN:=zH (q2h R.out HOK.out);exact q6s
theorem qrw:(Tryz.prog.info? 148).map (fun i=>(i.zero,i.size,i.bytes))=some (some (.agg #[.int .i64 0,.int .i64 0,.int .i64 0]),3,24):=by kernel_rfl
theorem qoh{m:za}{h:zg}{f pc:Int}{st L:List (Int×Int)}{NL:List Int}{er:Int}{A:Option Addr}{cap n:Nat}{w0 w:World}(HI:Hid (zi w0 w0.heap.size h m))(HX:Hid (Below w0.heap.size w0 w))(HM:Hid (zK m))(HN:Hid (st.length=n))(HS:Hid (zd zh 2 w w.heap.size A cap st))(hs:n≤4000)(HR:Hid (zD m f pc st=⟨L,NL,er⟩)):
  Calls Tryz.prog 90 #[zk h m,.int .i64 f,.int .i64 pc,.slice A n cap] w fun e w'=>∃A c A' c',e= .returned (.tuple #[.slice A L.length c,.slice A' NL.length c',.int .i64 er])∧zd zq 1 w' w'.heap.size A' c' NL∧(∀ad,A'=some ad→w.heap.size≤ad.block)∧Below w.heap.size w w':=by
 obtain rfl:=HN.out;have H:=qbi m f pc st A cap h w (HI.out.now HX.out) HM.out HS.out hs;rw[HR.out]at H;exact H.mono fun e w' ⟨A,c,A',c',h1,h2,h3,h4,h5,h6⟩=>⟨A,c,A',c',h1,h3,h5,h6⟩
theorem qo6{w:World}{B c:Nat}{A:Option Addr}{L:List Int}(h:zd zq 1 w B A c L):zx w B A (L.map (Value.int .i64)):=fun j u hu=>by
 rw[Xx]at hu;cases hL:L[j]? with
 |none=>rw[hL]at hu;cases hu
 |some x=>
  rw[hL]at hu;cases hu;obtain⟨ad,e,hb,hc⟩:=h.row j x hL;exact⟨ad,e,hb,by have hc:w.cell? (ad.add (j*1))=_:=hc;rw[Xq]at hc;exact hc⟩
theorem zx.mono'{w:World}{B C:Nat}{A:Option Addr}{xs:List Value}(h:zx w B A xs)(hB:B≤C):zx w C A xs:=fun j u hu=>by
 obtain⟨ad,e,hb,hc⟩:=h j u hu;exact⟨ad,e,Xp hb hB,hc⟩
theorem qph(w:World)(x y z:Int):∀(j:Nat) (u:Value),[Value.int .i64 x,.int .i64 y,.int .i64 z][j]? =some u→(w.alloc (.cells #[.int .i64 x,.int .i64 y,.int .i64 z] 148)).cell? ((⟨w.heap.size,0,none⟩:Addr).add j)=some u:=fun j u hj=>by
 have hc:=qa w [.int .i64 x,.int .i64 y,.int .i64 z] 148;have e:(⟨w.heap.size,0,none⟩:Addr).add j=⟨w.heap.size,j,none⟩:=by unfold Addr.add;split<;>simp_all
 rw[e];exact hc j u hj
theorem qpb(l:List (Int×Int×Int))(t:Int×Int×Int):QP (l++[t])=QP l++codC t:=by unfold QP;simp
structure JB(w1 wr:World)(v:Value)(L:List (Int×Int×Int))(B:Nat)(A:Option Addr)(NQ:List Int)(Ni:Nat)(op a b:Int):Prop where
 row:wr.ownsRow w1.heap.size 148 3 v L.length (QP L)
 apart:Jf v A
 next:zx wr B A (NQ.map (Value.int .i64))
 room:B≤wr.heap.size
 ins:ze wr Ni [.int .i64 op,.int .i64 a,.int .i64 b] 55
 low:Below w1.heap.size w1 wr
theorem JB.keep{w1 wr w':World}{v:Value}{L:List (Int×Int×Int)}{B Ni:Nat}{A:Option Addr}{NQ:List Int}{op a b:Int}(h:JB w1 wr v L B A NQ Ni op a b)(hb:Below wr.heap.size wr w'):JB w1 w' v L B A NQ Ni op a b:=
 ⟨qo h.row hb (zZ h.row),h.apart,(h.next.below_to hb h.room),Xg h.room hb.size,h.ins.keep hb (ze.lt h.ins),h.low.trans (hb.mono h.low.size)⟩
theorem JB.app{w1 wr w9:World}{v:Value}{L:List (Int×Int×Int)}{B Ni g9 c9 n:Nat}{A:Option Addr}{NQ:List Int}{op a b:Int}{t:Int×Int×Int}{o:Obj}(h:JB w1 wr v L B A NQ Ni op a b)(hn:L.length=n)(hA:∀ad,A=some ad→ad.block<B)(hown:w9.ownsRow w1.heap.size 148 3 (.slice (some ⟨g9,0,none⟩) (n+1) c9) (n+1) (QP L++codC t))(hgrow:(wr.alloc o).grownBy w9 v.ownBlock)(hor:v.ownBlock=some g9∨g9=(wr.alloc o).heap.size):
  JB w1 w9 (.slice (some ⟨g9,0,none⟩) (n+1) c9) (L++[t]) B A NQ Ni op a b:=by
 subst hn;have h1:Below wr.heap.size wr (wr.alloc o):=(zb _ _).alloc (zn _) _;refine⟨by rw[qpb,Xt];exact hown,q1q h.apart hA hor (by have:=h.room;simp;omega),q42 h.next h.room hgrow h.apart,Xg (Xg h.room h1.size) hgrow.size,?_,?_⟩
 ·exact qbn (h.ins.keep h1 (ze.lt h.ins)) hgrow (qee h.row h.ins (by decide))
 ·exact qN (h.low.trans (h1.mono h.low.size)) (qo h.row h1 (zZ h.row)) (Xg h.low.size h1.size) hgrow
set_option maxHeartbeats 12800000 in
theorem qn9(m:za)(l:List (List zm))(f:Nat)(x:zf)(A:Option Addr)(c:Nat)(h:zg)(w:World)(H:zi w w.heap.size h m)(hm:zK m)(hT:qU m w A c l)(hx:m.methods[f]? =some x):
  Calls Tryz.prog 93 #[zk h m,.slice A l.length c,.int .i64 f] w fun e w'=>∃v,e= .returned v∧w'.ownsRow w.heap.size 148 3 v (Qf m l f).length (QP (Qf m l f))∧Below w.heap.size w w':=by
 obtain⟨hM,hMZ,hLL,hFD⟩:=hT;obtain⟨i0,hi,hz0,hz1,hz2⟩:=qQ qrw;have hfm:f<m.methods.length:=(Xw.mp hx).1;have hfl:f<l.length:=by omega
 have hxe:m.methods[f]=x:=(Xw.mp hx).2;have HW:=zH (jz (w:=w) (h:=h) (m:=m));have HBX:=zH (zX w h m);have HZ:Hid (w.heap.size<(w.alloc (zo h m)).heap.size):=zH (by simp);have HI:=zH (H.now HW.out);have HM:=zH hm;have hle:=H.methods.le;have hcap:=H.methods.cap;have hl1:=hM.le;have hl2:=hM.cap;have HM0:=zH (qX RowAt.keeps hM HW.out);have hxm:x ∈m.methods:=Xo hx;have hxN:zu m (f:Int)=x:=by unfold zu;rw[Xe,hx];rfl
 obtain⟨adM,rfl,habM,A1,c1,r0,hsr⟩:=HM0.out.row.at_ hfl;obtain⟨ad,hxx,eA,hab,hin,hcm⟩:=jJ HI.out hfm;rw[hxe]at hin hcm;have hFS:=hFD f l[f] (Xc hfl);have hW0:Qf m l f=kw m f x l[f] x.code.length:=by unfold Qf;rw[hxN,Xc hfl];rfl
 rw[hW0];have hSl:l[f].length=x.code.length:=by rw[hFS.grow.len,hxN]
 obtain⟨S,hS⟩:∃S,l[f]=S:=⟨_,rfl⟩
 rw[hS]at hsr hFS hSl r0⊢
 replace r0:(w.alloc (zo h m)).cell? (adM.add f)=some (.slice A1 S.length c1):=by have:=r0;rw[Xq]at this;exact this
 obtain⟨n,hn⟩:∃n,x.code.length=n:=⟨_,rfl⟩
 have hn64:n≤64:=by rw[←hn];exact(hm.method hxm).fits.cl
 have HXM:=zH hxm;have HGX:=zH hx;have HFS:=zH hFS;have HSR:=zH hsr;have HCN:=zH hn;have HSL:Hid (S.length=n):=zH (by rw[hSl,hn]);rw[hn];rw[HSL.out]at r0;obtain⟨A0,Ab,A2,A3,A4,k0,k1,k2,k3,k4⟩:=h;dsimp only at eA hle hcap;subst eA;obtain⟨b0,b1,b2,b3,b4,b5,b6,b7⟩:=hcm;have HIC:=zH hin.code;have hcc1:=hin.code.le;have hcc2:=hin.code.cap;obtain⟨xA0,xA1,xA4,xA7,kx0,kx1,kx4,kx7⟩:=hxx;dsimp only at b4 HIC hcc1 hcc2;rw[hn]at b4 hcc1;have HB4:=zH b4;have HAB:Hid (ad.block<(w.alloc (zo ⟨A0,Ab,A2,some ad,A4,k0,k1,k2,k3,k4⟩ m)).heap.size):=zH hab;have hfi:¬(l.length:Int)≤(f:Int):=by omega
 have hfj:(f:Int)<(l.length:Int):=by omega
 have hfk:(f:Int)<(m.methods.length:Int):=by omega
 have hS1:=hsr.le;have hS2:=hsr.cap;rw[HSL.out]at hS1;clear H hm hM hMZ hFD hx hxe hxm hxN hin b0 b1 b2 b3 b4 b5 b6 b7 hFS hsr hSl hS hn hab hLL hW0;go_enter Tryz.func93,Tryz.ntmps93;go_upto_region 1 with fail
 generalize w.alloc (zo ⟨A0,Ab,A2,some ad,A4,k0,k1,k2,k3,k4⟩ m)=w1 at*
 have HX0:Hid (Below w1.heap.size w1 w1):=zH (zb _ _);go_wp2_with fail
 go_loopw [7,25] (fun v i wr=>∃pc:Nat,pc≤n∧i= .int .i64 pc∧Hid (wr.ownsRow w1.heap.size 148 3 v (kw m f x S pc).length (QP (kw m f x S pc)))∧Hid (Below w1.heap.size w1 wr)) (fun _ i _=>n - (intOf i).toNat)
 case atStart=>exact⟨0,Xl _,rfl,zH (XT _ _ _ _),HX0⟩
 case round=>
  clear HX0 r0;obtain⟨pc,hpc,rfl,HO,HX⟩:=hrel;by_cases hpn:pc<n;rotate_left
  ·obtain rfl:pc=n:=by omega
   go_wp2_with fail
   go_ret;exact⟨_,rfl,jc HO.out HW.out.size,HW.out.trans (HX.out.mono HW.out.size)⟩
  have hpi:(pc:Int)<(n:Int):=by omega
  obtain⟨adS,eS,habS,u0,Ast,cst,u1,hu⟩:=HSR.out.row.at_ (show pc<S.length by rw[HSL.out];exact hpn);subst eS;have hNp:zr S (pc:Int)=S[pc]'(by rw[HSL.out];exact hpn):=Qw (by rw[HSL.out];exact hpn)
  have hst1:(S[pc]'(by rw[HSL.out];exact hpn)).stack.length≤8:=HFS.out.grow.small _ (Xd _);generalize S[pc]'(by rw[HSL.out];exact hpn)=s at*
  have HNP:=zH hNp;have HU:=zH hu;have HWS:Hid (kw m f x S (pc+1)=kw m f x S pc++Zr m f x S pc):=zH rfl;have hwl:(kw m f x S pc).length≤2*pc:=q5a m f x S (fun p=>q40 m f S p) pc;obtain⟨WL,hWL⟩:∃WL,kw m f x S pc=WL:=⟨_,rfl⟩
  rw[hWL]at HO HWS hwl;have u0:=(HX.out.cell (p:=adS.add (pc*2)) (by rw[zp];exact habS)).trans u0;have u1:=(HX.out.cell (p:=zc (adS.add (pc*2)) 1) (by show(adS.add _).block<_;rw[zp];exact habS)).trans u1;have HC3:=zH (qa wr [.bool s.seen,.slice Ast s.stack.length cst] 75);have hA3:Below wr.heap.size wr (wr.alloc (.cells #[.bool s.seen,.slice Ast s.stack.length cst] 75)):=(zb _ _).alloc (zn _) _;have HX3:Hid (Below w1.heap.size w1 (wr.alloc (.cells #[.bool s.seen,.slice Ast s.stack.length cst] 75))):=zl HX hA3;have HO3:Hid ((wr.alloc (.cells #[.bool s.seen,.slice Ast s.stack.length cst] 75)).ownsRow w1.heap.size 148 3 u7 WL.length (QP WL)):=zH (qo HO.out hA3 (zZ HO.out));clear hu hNp hWL hA3 HO;go_upto_region 7 with fail
  generalize wr.alloc (.cells #[.bool s.seen,.slice Ast s.stack.length cst] 75)=w3 at*
  have d0:=HC3.out 0 _ rfl;have d1:=HC3.out 1 _ rfl;clear u0 u1;by_cases hse:s.seen=true;rotate_left
  ·have hse':s.seen=false:=by simpa using hse
   have HY:Hid (kw m f x S (pc+1)=WL):=zH (by rw[HWS.out];unfold Zr;rw[HNP.out,Xa hse,List.append_nil]);rw[hse']at d0;go_wp2_with fail
   go_roundw;case rel=>exact⟨pc+1,by omega,by go_num,by rw[HY.out];exact HO3,HX3⟩
   case measure=>simp[intOf];omega
  have hfd:=HFS.out.done pc (by rw[HSL.out];exact hpn) (by rw[HNP.out];exact hse);rw[HNP.out]at hfd;have HSE:=zH hse;rw[hse]at d0;obtain⟨q0,q1,q2,q3,q4,q5,q6⟩:=HBX.out.keep HX3.out HZ.out;obtain⟨⟨L,NL,er⟩,hrs⟩:∃r,zD m (f:Int) (pc:Int) s.stack=r:=⟨_,rfl⟩
  have hne:er=0:=by have:=hfd.1;rw[hrs]at this;exact this
  subst hne;have HRS:=zH hrs;have HNX:Hid (vR m f S pc=NL):=zH (by unfold vR;rw[HNP.out,hrs]);have HSD:Hid (zd zh 2 w3 w3.heap.size Ast cst s.stack):=zH (qX zh.keeps HU.out HX3.out);have hst4:s.stack.length≤4000:=by omega
  clear hrs hse hfd;go_upto_region 9 with(go_at_call 90;(with_reducible refine(qoh HI HX3 HM (zH rfl) HSD hst4 HRS).mono ?_);rintro e w6 ⟨A7,c7,A8,c8,rfl,hs8,h8,hb⟩;have H8:=zH hs8;have HA8:=zH h8;have HX6:=zl HX3 hb;have HO6:=zH (qo HO3.out hb (zZ HO3.out));have HOL:=zH (zZ HO3.out);have HZ36:=zH hb.size;clear hs8 hb h8)
  clear q0 q1 q2 q3 q4 q5 q6 d0 d1;obtain⟨q0,q1,q2,q3,q4,q5,q6⟩:=HBX.out.keep HX6.out HZ.out;have b4:=(HX6.out.cell (p:=zc (ad.add (f*8)) 4) (by show(ad.add _).block<_;rw[zp];exact HAB.out)).trans HB4.out;obtain⟨ac,rfl,hac,i0',i1',i2'⟩:=HIC.out.row.at_ (show pc<x.code.length by rw[HCN.out];exact hpn);have hip:x.code[pc]? =some (x.code[pc]'(by rw[HCN.out];exact hpn)):=Xc _;generalize x.code[pc]'(by rw[HCN.out];exact hpn)=ins at*
  obtain⟨op,a,b⟩:=ins;dsimp only at i0' i1' i2';have HIP:=zH hip;have j0:=(HX6.out.cell (p:=ac.add (pc*3)) (by rw[zp];exact hac)).trans i0';have j1:=(HX6.out.cell (p:=zc (ac.add (pc*3)) 1) (by show(ac.add _).block<_;rw[zp];exact hac)).trans i1';have j2:=(HX6.out.cell (p:=zc (ac.add (pc*3)) 2) (by show(ac.add _).block<_;rw[zp];exact hac)).trans i2';clear hip i0' i1' i2';go_upto_region 11 with fail
  have hA7:Below w6.heap.size w6 (w6.alloc (.cells #[.int .i64 op,.int .i64 a,.int .i64 b] 55)):=(zb _ _).alloc (zn _) _;have HI7:Hid (ze (w6.alloc (.cells #[.int .i64 op,.int .i64 a,.int .i64 b] 55)) w6.heap.size [.int .i64 op,.int .i64 a,.int .i64 b] 55):=zH (ze.new w6 _ _);have HX7:=zl HX6 hA7;have HO7:=zH (qo HO6.out hA7 (zZ HO6.out));have HN7:=zH ((qo6 H8.out).below_to hA7 (zn _));have hq1:=H8.out.le;have hq2:=H8.out.cap;have HZ7:=zH hA7.size;have hZ36:=HZ36.out;clear q0 q1 q2 q3 q4 q5 q6 b4 j0 j1 j2;obtain⟨Ni,hNi⟩:∃z,w6.heap.size=z:=⟨_,rfl⟩
  simp only[hNi]at HI7⊢
  generalize w6.alloc (.cells #[.int .i64 op,.int .i64 a,.int .i64 b] 55)=w7 at*
  have HNG:Hid (NL=qE (pc:Int) op a):=zH (by
   have:=qb0 (st:=s.stack) HGX.out HIP.out (by rw[HRS.out]);rw[HRS.out]at this;exact this)
  obtain⟨NQ,hNQ⟩:∃NQ,Qy m f S pc=NQ:=⟨_,rfl⟩
  have HNQ:Hid ((op=33→NQ=[-1])∧(¬op=33→NQ=NL)):=zH ⟨fun e=>by
   rw[←hNQ];unfold Qy;rw[HNX.out,HNG.out,Xb (q41.mpr e)],fun e=>by
   rw[←hNQ];unfold Qy;rw[HNX.out,HNG.out,Xa (fun h=>e (q41.mp h))]⟩
  have HLT:=zH hNQ;clear hNQ hA7;have e0:=HI7.out.cells 0 _ rfl;go_upto_if 56 with fail
  go_cut [11] (fun s wx=>∃A9 c9,s= .slice A9 NQ.length c9∧Hid (zx wx wx.heap.size A9 (NQ.map (Value.int .i64)))∧Hid (NQ.length≤c9∧c9≤9223372036854775807)∧Hid (∀ad,A9=some ad→w3.heap.size≤ad.block)∧Hid (Below w7.heap.size w7 wx))
  case first=>
   by_cases h33:op=33
   ·subst h33;have e:=HNQ.out.1 rfl;subst e;go_wp2_with fail
    go_meet
    exact⟨some ⟨w7.heap.size,0,none⟩,1,rfl,zH (Jv w7 _ _),zH ⟨zn _,by omega⟩,zH (fun ad e=>by injection e with e;subst e;exact Xg hZ36 HZ7.out),zH ((zb _ _).alloc (zn _) _)⟩
   ·have e:=HNQ.out.2 h33;subst e;go_wp2_with fail
    go_meet
    exact⟨A8,c8,rfl,zH (HN7.out.mono' HZ7.out),zH ⟨hq1,hq2⟩,HA8,zH (zb _ _)⟩
  case rest=>
   obtain⟨A9,c9,rfl,H9,HQ9,HA9,HX9⟩:=hcut;have hq91:=HQ9.out.1;have hq92:=HQ9.out.2;have hNQl:NQ.length≤2:=by
    rw[←HLT.out];have:=q40 m f S pc;unfold Qy;split
    ·exact(show 1≤2 by omega)
    ·exact this
   obtain⟨C,hC⟩:∃C,kh m op a b=C:=⟨_,rfl⟩
   have HCV:=zH hC;have HCP:Hid (kN m x pc=C):=zH (by unfold kN;rw[HIP.out];exact hC);have HINS:Hid ((op,a,b) ∈x.code):=zH (Xo HIP.out);have HWR:Hid (JB w1 wc u7 WL wc.heap.size A9 NQ Ni op a b):=zH ⟨qo HO7.out HX9.out (zZ HO7.out),fun g hg ad e=>by have h1:=HOL.out g hg;have h2:=HA9.out ad e;omega,H9.out,zn _,HI7.out.keep HX9.out (ze.lt HI7.out),HX7.out.trans (HX9.out.mono HX7.out.size)⟩;have HAL:Hid (∀ad,A9=some ad→0<NQ.length→ad.block<wc.heap.size):=zH (fun ad e hp=>by
    obtain⟨ad',e',hb,_⟩:=H9.out 0 (.int .i64 NQ[0]) (by rw[Xx,Xc hp];rfl);rw[e]at e';cases e';exact hb)
   clear hC HO7 HI7 HX7 HN7 HO6 HO3 H8 HA8 H9 HQ9 HX9 e0;go_wp2_with fail
   go_loopw [7,60] (fun v i wr=>∃k:Nat,k≤NQ.length∧i= .int .i64 k∧Hid (JB w1 wr v (WL++(NQ.take k).map (fun q=>((pc:Int),q,C))) wc.heap.size A9 NQ Ni op a b)) (fun _ i _=>NQ.length - (intOf i).toNat)
   case atStart=>exact⟨0,Xl _,rfl,by rw[List.take_zero,List.map_nil,List.append_nil];exact HWR⟩
   case round=>
    clear HWR;obtain⟨k,hk,rfl,HR⟩:=hrel;by_cases hkn:k<NQ.length
    ·have hki:(k:Int)<(NQ.length:Int):=by omega
     obtain⟨ad9,hA9e,hab9,hc9⟩:=HR.out.next k (.int .i64 NQ[k]) (by rw[Xx,Xc hkn];rfl);subst hA9e;have HAB9:Hid (∀ad',some ad9=some ad'→ad'.block<wc.heap.size):=zH (fun ad' e=>by cases e;exact hab9);have HTK:Hid (WL++(NQ.take (k+1)).map (fun q=>((pc:Int),q,C))=(WL++(NQ.take k).map (fun q=>((pc:Int),q,C)))++[((pc:Int),NQ[k],C)]):=zH (by rw[XA,Xc hkn,XX,X8];rfl);have hLL:(WL++(NQ.take k).map (fun q=>((pc:Int),q,C))).length≤1000:=by rw[Xt,Xi,XU];omega
     generalize WL++(NQ.take k).map (fun q=>((pc:Int),q,C))=LL at*
     generalize NQ[k]=to_ at*
     obtain⟨q0,q1,q2,q3,q4,q5,q6⟩:=HBX.out.keep (HR.out.low) HZ.out;have j0:=HR.out.ins.cells 0 _ rfl;have j1:=HR.out.ins.cells 1 _ rfl;have j2:=HR.out.ins.cells 2 _ rfl;have HXR:=zH HR.out.low;go_wp2_with(first
      |(go_at_call 147;(with_reducible refine(qr3 HI HXR HM HXM HINS HCV).mono ?_);rintro e w5 ⟨rfl,hb⟩;have HR5:=zH (HR.out.keep hb);clear hb)
      |(at_builtin;refine wpList_append_lies _ rfl _ _ 145 rfl w1.heap.size 148 i0 (.agg #[.int .i64 0,.int .i64 0,.int .i64 0]) 3 24 Tryz.underlying145 hi hz0 hz1 hz2 rfl (by decide) _ LL.length (QP LL) rfl (HR5.out.row.alloc _) ⟨_,0,none⟩ 1 1 [.int .i64 pc,.int .i64 to_,.int .i64 C] rfl rfl (qph _ _ _ _) (by simp[Value.oneCell']) (by decide) (by unfold maxLen;omega) (by omega) (by have:=HR5.out.low.size;simp;omega) _ rfl ?_;intro g9 c9' w9 hown hgrow hor hlt9;have HR9:Hid (JB w1 w9 (.slice (some ⟨g9,0,none⟩) (LL.length+1) c9') (LL++[((pc:Int),to_,C)]) wc.heap.size (some ad9) NQ Ni op a b):=zH (HR5.out.app rfl HAB9.out hown hgrow hor);clear hown hgrow hor hlt9))
     go_roundw;case rel=>exact⟨k+1,by omega,by go_num,by rw[HTK.out];exact HR9⟩
     case measure=>simp[intOf];omega
    ·obtain rfl:k=NQ.length:=by omega
     have HEND:Hid (kw m f x S (pc+1)=WL++(NQ.take NQ.length).map (fun q=>((pc:Int),q,C))):=zH (by
      rw[HWS.out,XP];unfold Zr;rw[HNP.out,Xb HSE.out,HLT.out,HCP.out])
     go_wp2_with fail
     go_roundw;case rel=>exact⟨pc+1,by omega,by go_num,by rw[HEND.out];exact zH HR.out.row,zH HR.out.low⟩
     case measure=>simp[intOf];omega
theorem qt8{m:za}{l:List (List zm)}{f:Nat}{x:zf}{A:Option Addr}{c:Nat}{h:zg}{w0 w:World}{W:List (Int×Int×Int)}(HI:Hid (zi w0 w0.heap.size h m))(HX:Hid (Below w0.heap.size w0 w))(HM:Hid (zK m))(HT:Hid (qU m w A c l))(HGX:Hid (m.methods[f]? =some x))(HW:Hid (Qf m l f=W)):
  Calls Tryz.prog 93 #[zk h m,.slice A l.length c,.int .i64 f] w fun e w'=>∃v,e= .returned v∧w'.ownsRow w.heap.size 148 3 v W.length (QP W)∧Below w.heap.size w w':=by
 have H:=qn9 m l f x A c h w (HI.out.now HX.out) HM.out HT.out HGX.out;rw[HW.out]at H;exact H
theorem q2e{m:za}{w w':World}{A:Option Addr}{c:Nat}{l:List (List zm)}(h:qU m w A c l)(hb:Below w.heap.size w w'):qU m w' A c l:=⟨qX RowAt.keeps h.1 hb,h.2⟩
theorem qiy{w:World}{B e size n:Nat}{v:Value}{xs:List Value}(h:w.ownsRow B e size v n xs):∃A c,v= .slice A n c:=by
 rcases kq h with⟨rfl,rfl⟩|⟨g,c,rfl,_⟩
 ·exact⟨_,_,rfl⟩
 ·exact⟨_,_,rfl⟩
theorem qi2{w:World}{B B' e e' k k' n n':Nat}{v v':Value}{xs ys:List Value}(h:w.ownsRow B e k v n xs)(h':w.ownsRow B' e' k' v' n' ys)(hne:e≠e'){g:Nat}(hg:v.ownBlock=some g):v'.ownBlock≠some g:=fun hg'=>by
 rcases h.2 with⟨rfl,_⟩|⟨g1,cap,cur,rfl,_,hh,_⟩
 ·cases hg
 ·have e1:g1=g:=by simpa[Value.ownBlock]using hg
  rcases h'.2 with⟨rfl,_⟩|⟨g2,cap',cur',rfl,_,hh',_⟩
  ·cases hg'
  ·have e2:g2=g:=by simpa[Value.ownBlock]using hg'
   subst e1;subst e2;rw[hh]at hh';injection hh' with h1;injection h1 with _ h2 _;exact hne h2
theorem qr6{w w9:World}{B B' e e' k k' n n':Nat}{v v':Value}{xs ys:List Value}{o:Obj}(h:w.ownsRow B e k v n xs)(h':w.ownsRow B' e' k' v' n' ys)(hne:e≠e')(hg:(w.alloc o).grownBy w9 v'.ownBlock):w9.ownsRow B e k v n xs:=by
 have ha:=qo h ((zb w.heap.size w).alloc (zn _) o) (zZ h);refine⟨ha.1,?_⟩;rcases ha.2 with h0|⟨g,cap,cur,hv,hb,hh,rest⟩
 ·exact .inl h0
 ·refine .inr ⟨g,cap,cur,hv,hb,?_,rest⟩;rw[hg.block g (lt_of_block hh) (fun e=>qi2 h h' hne (g:=g) (by rw[hv];rfl) e.symm)];exact hh
theorem vj.slc{w:World}{B n g' c:Nat}{gs:List Nat}{L:List Inq}(h:vj w B (.slice (some ⟨g',0,none⟩) L.length c) n gs L)(hn:n≤1000):zd q0v 2 w w.heap.size (some ⟨g',0,none⟩) c L:=by
 rcases kq h.row with⟨e,_⟩|⟨g,c',e,h1,h2⟩
 ·cases e
 ·injection e with e1 _ e3;cases e1;cases e3;refine⟨h1,h2,fun i q hi=> ?_⟩;obtain⟨gq,c0,c1,hN,hq,hg',_⟩:=h.at_ hi;refine⟨_,rfl,hg',⟨_,_,?_,hN.slc rfl (by omega)⟩,?_⟩
  ·rw[addg,c0,hq]
  ·rw[addg];exact c1
set_option maxHeartbeats 12800000 in
theorem qij(m:za)(l:List (List zm))(f:Int)(A:Option Addr)(c:Nat)(h:zg)(w:World)(H:zi w w.heap.size h m)(hm:zK m)(hT:qU m w A c l):
  Calls Tryz.prog 51 #[zk h m,.slice A l.length c,.int .i64 f] w fun e w'=>∃A' c',e= .returned (.slice A' (Qx m l f).length c')∧zd q0v 2 w' w'.heap.size A' c' (Qx m l f)∧Below w.heap.size w w':=by
 have HW:=zH (jz (w:=w) (h:=h) (m:=m));have HBX:=zH (zX w h m);have HZ:Hid (w.heap.size<(w.alloc (zo h m)).heap.size):=zH (by simp);have hle:=H.methods.le;have hcap:=H.methods.cap;by_cases hf:0≤f∧f<m.methods.length;rotate_left
 ·have e:Qx m l f=[]:=by unfold Qx;rw[Xa hf]
  rw[e];clear H hT hm e;by_cases h0:f<0
  ·go_enter Tryz.func51,Tryz.ntmps51;go_upto_region 1 with fail
   generalize w.alloc (zo h m)=w1 at*
   obtain⟨q0,q1,q2,q3,q4,q5,q6⟩:=HBX.out;go_wp2_with fail
   go_ret;exact⟨none,0,rfl,ja,HW.out⟩
  ·have h1:¬f<m.methods.length:=fun h1=>hf ⟨by omega,h1⟩;have h2:(m.methods.length:Int)≤f:=by omega
   clear hf;go_enter Tryz.func51,Tryz.ntmps51;go_upto_region 1 with fail
   generalize w.alloc (zo h m)=w1 at*
   obtain⟨q0,q1,q2,q3,q4,q5,q6⟩:=HBX.out;go_wp2_with fail
   go_ret;exact⟨none,0,rfl,ja,HW.out⟩
 obtain⟨f0,f1⟩:=hf;obtain⟨k,rfl⟩:=Xm f0;have hk:k<m.methods.length:=by omega
 have hkl:k<l.length:=by rw[hT.2.2.1];exact hk
 obtain⟨x,hxe⟩:∃x,m.methods[k]=x:=⟨_,rfl⟩
 have hgx:m.methods[k]? =some x:=by rw[Xc hk,hxe]
 have hxm:x ∈m.methods:=Xo hgx;have hxN:zu m (k:Int)=x:=by unfold zu;rw[Xe,hgx];rfl
 obtain⟨n,hn⟩:∃n,x.code.length=n:=⟨_,rfl⟩
 have hn64:n≤64:=by rw[←hn];exact(hm.method hxm).fits.cl
 have hFS:=hT.2.2.2 k l[k] (Xc hkl);have hok:=qt7 hm hgx (Xc hkl) hFS;obtain⟨WL,hWL⟩:∃W,Qf m l k=W:=⟨_,rfl⟩
 have hw2:WL.length≤128:=by
  rw[←hWL];unfold Qf;rw[hxN];have:=q5a m k x (l[k]?.getD []) (fun p=>q40 m k _ p) x.code.length;omega
 have hrules:Qx m l (k:Int)=jE n (-1) 0 x.pot::WL.map (kJ n):=by
  unfold Qx;rw[Xb ⟨f0,f1⟩,Xe,hxN,q8s,hn,←hWL]
  ·unfold Qf;rw[hxN,hn]
  ·intro pc hpc hs hnil;have:=hok.none ((pc:Int),-1,kN m x pc) (by
    unfold Qf;rw[hxN];have key:∀N,pc<N→((pc:Int),(-1:Int),kN m x pc) ∈kw m k x (l[k]?.getD []) N:=by
     intro N
     induction N with
     |zero=>intro h;omega
     |succ N ih=>
      intro h;rcases Xj pc N with q|q
      ·exact List.mem_append_left _ (ih q)
      ·obtain rfl:pc=N:=by omega
       refine List.mem_append_right _ ?_;unfold Zr Qy;rw[Xb hs,Xb hnil];simp
    exact key _ hpc) (by show(-1:Int)<0;omega)
   exact this
 have HOK:Hid (q6h WL n):=zH (by rw[←hWL,←hn];exact hok);rw[hrules];have HI:=zH (H.now HW.out);have HM:=zH hm;have HTY:=zH (q2e hT HW.out);have HGX:=zH hgx;have HWL:=zH hWL;obtain⟨ad,hxx,eA,hab,hin,hcm⟩:=jJ HI.out hk;rw[hxe]at hin hcm;obtain⟨A0,Ab,A2,A3,A4,k0,k1,k2,k3,k4⟩:=h;dsimp only at eA hle hcap;subst eA;obtain⟨b0,b1,b2,b3,b4,b5,b6,b7⟩:=hcm;obtain⟨xA0,xA1,xA4,xA7,kx0,kx1,kx4,kx7⟩:=hxx;dsimp only at b0 b1 b4 b7;rw[hn]at b4;obtain⟨i0,hi,hz0,hz1,hz2⟩:=qQ qjm;have HAB:Hid (ad.block<(w.alloc (zo ⟨A0,Ab,A2,some ad,A4,k0,k1,k2,k3,k4⟩ m)).heap.size):=zH hab;have hf0:¬(k:Int)<0:=by omega
 have hf2:¬(m.methods.length:Int)≤(k:Int):=by omega
 have HN1:Hid (n≤1000):=zH (by omega);obtain⟨R0,hR0⟩:∃R,jE n (-1) 0 x.pot=R:=⟨_,rfl⟩
 have hR2':R0.2=x.pot:=by rw[←hR0];rfl
 have hRl':R0.1.length=n:=by rw[←hR0];exact q2i ..
 have HR0:Hid (jE n (-1) 0 x.pot=(R0.1,x.pot)):=zH (by rw[hR0,←hR2']);rw[hR0];have HRP:=zH (⟨hR2',hRl'⟩:R0.2=x.pot∧R0.1.length=n);clear hR0 hR2' hRl';clear H hm hT hgx hxm hxN hFS hok hWL hrules hin hn hab hxe hkl;go_enter Tryz.func51,Tryz.ntmps51;go_upto_region 1 with fail
 generalize w.alloc (zo ⟨A0,Ab,A2,some ad,A4,k0,k1,k2,k3,k4⟩ m)=w1 at*
 obtain⟨q0,q1,q2,q3,q4,q5,q6⟩:=HBX.out;go_upto_region 5 with fail
 have HX3:Hid (Below w1.heap.size w1 (w1.alloc (.cells #[.slice xA0 x.args.length kx0,.slice xA1 x.locals.length kx1,.int .i64 x.ret.1,.int .i64 x.ret.2,.slice xA4 n kx4,.int .i64 x.depth,.int .i64 x.pot,.slice xA7 x.phi.length kx7] 53))):=zH ((zb _ _).alloc (zn _) _);have HXB:Hid (ze (w1.alloc (.cells #[.slice xA0 x.args.length kx0,.slice xA1 x.locals.length kx1,.int .i64 x.ret.1,.int .i64 x.ret.2,.slice xA4 n kx4,.int .i64 x.depth,.int .i64 x.pot,.slice xA7 x.phi.length kx7] 53)) w1.heap.size [.slice xA0 x.args.length kx0,.slice xA1 x.locals.length kx1,.int .i64 x.ret.1,.int .i64 x.ret.2,.slice xA4 n kx4,.int .i64 x.depth,.int .i64 x.pot,.slice xA7 x.phi.length kx7] 53):=zH (ze.new w1 _ _);clear q0 q1 q2 q3 q4 q5 q6 b0 b1 b2 b3 b4 b5 b6 b7;generalize w1.alloc (.cells #[.slice xA0 x.args.length kx0,.slice xA1 x.locals.length kx1,.int .i64 x.ret.1,.int .i64 x.ret.2,.slice xA4 n kx4,.int .i64 x.depth,.int .i64 x.pot,.slice xA7 x.phi.length kx7] 53)=w3 at*
 have b6:=HXB.out.cells 6 _ rfl;go_upto_region 6 with(go_at_call 92;(with_reducible refine(qau HN1 HR0).mono ?_);rintro e w4 ⟨g0,rfl,hg0,hN0,hb⟩;have HG0:=zH hg0;have HN0:=zH hN0;have HX4:=zl HX3 hb;clear hg0 hN0 hb)
 clear b6;have hB5:Below w4.heap.size w4 (w4.alloc (.cells #[.slice (some ⟨g0,0,none⟩) n n,.int .i64 x.pot] 101)):=(zb _ _).alloc (zn _) _;have HX5:=zl HX4 hB5;have HQ5:Hid (vj (w4.alloc (.cells #[.slice (some ⟨g0,0,none⟩) n n,.int .i64 x.pot] 101)) w1.heap.size (.slice (some ⟨w4.heap.size,0,none⟩) 1 1) n [g0] [R0]):=zH (by
  have:=vj.one (w:=w4) (B:=w1.heap.size) (n:=n) (g:=g0) (q:=R0) ⟨Xg HX3.out.size HG0.out,HN0.out⟩ HRP.out.2 HX4.out.size;rw[HRP.out.1]at this;exact this)
 obtain⟨g5,hg5⟩:∃z,w4.heap.size=z:=⟨_,rfl⟩
 simp only[hg5]at HQ5⊢
 generalize w4.alloc (.cells #[.slice (some ⟨g0,0,none⟩) n n,.int .i64 x.pot] 101)=w5 at*
 have HT5:=zH (q2e HTY.out HX5.out);have hsz5:=HX5.out.size;obtain⟨q0,q1,q2,q3,q4,q5,q6⟩:=HBX.out.keep HX5.out HZ.out;clear hB5;go_wp2_with(go_at_call 93;(with_reducible refine(qt8 HI HX5 HM HT5 HGX HWL).mono ?_);rintro e w6 ⟨v6,rfl,ho,hb⟩;obtain⟨AW,cW,rfl⟩:=qiy ho;have HO6:=zH (jc ho HX5.out.size);have HX6:=zl HX5 hb;have HQ6:=zH (HQ5.out.keep hb);clear ho hb)
 clear q0 q1 q2 q3 q4 q5 q6;go_loopw [9,39] (fun v i wr=>∃(j g9 c9:Nat) (gs:List Nat),j≤WL.length∧i= .int .i64 j∧v= .slice (some ⟨g9,0,none⟩) (j+1) c9∧Hid (vj wr w1.heap.size (.slice (some ⟨g9,0,none⟩) (j+1) c9) n gs (R0::(WL.take j).map (kJ n)))∧Hid (wr.ownsRow w1.heap.size 148 3 (.slice AW WL.length cW) WL.length (QP WL))∧Hid (Below w1.heap.size w1 wr)) (fun _ i _=>WL.length - (intOf i).toNat)
 case atStart=>exact⟨0,g5,1,[g0],Xl _,rfl,rfl,by rw[List.take_zero];exact HQ6,HO6,HX6⟩
 case round=>
  clear HQ5 HQ6 HO6 HX6;obtain⟨j,g9,c9,gs,hj,rfl,rfl,HQ,HO,HX⟩:=hrel;by_cases hjw:j<WL.length
  ·have hji:(j:Int)<(WL.length:Int):=by omega
   obtain⟨gw,rfl⟩:∃gw,AW=some ⟨gw,0,none⟩:=by
    rcases kq HO.out with⟨e,h0⟩|⟨g,c',e,_⟩
    ·omega
    ·injection e with e1 _ _;exact⟨g,e1⟩
   obtain⟨_,hcw⟩:=JQ HO.out;have hget:=Xc hjw;have u0:=(hcw _ _ (Zm (f:=codC) (k:=3) (fun _=>rfl) WL j 0 _ hget (by decide))).1;have u1:=(hcw _ _ (Zm (f:=codC) (k:=3) (fun _=>rfl) WL j 1 _ hget (by decide))).1;have u2:=(hcw _ _ (Zm (f:=codC) (k:=3) (fun _=>rfl) WL j 2 _ hget (by decide))).1;have hcost:=HOK.out.cost _ (Xd hjw);have HTK:Hid (R0::(WL.take (j+1)).map (kJ n)=(R0::(WL.take j).map (kJ n))++[kJ n WL[j]]):=zH (by rw[XA,hget,XX];rfl);have HLL:Hid ((R0::(WL.take j).map (kJ n)).length=j+1):=zH (by rw[XL,Xi,XU];omega);generalize R0::(WL.take j).map (kJ n)=LL at*
   generalize WL[j]=t at*
   obtain⟨a,b,cc⟩:=t;dsimp only at hcost;replace u0:wr.cell? ⟨gw,j*3,none⟩=some (.int .i64 a):=u0;replace u1:wr.cell? ⟨gw,j*3+1,none⟩=some (.int .i64 b):=u1;replace u2:wr.cell? ⟨gw,j*3+2,none⟩=some (.int .i64 cc):=u2;have HRU:Hid (jE n a b (-cc)=((kJ n (a,b,cc)).1,-cc)):=zH rfl;have HRW:Hid ((kJ n (a,b,cc)).1.length=n∧kJ n (a,b,cc)=((kJ n (a,b,cc)).1,-cc)):=zH ⟨q2i ..,rfl⟩;obtain⟨R,hR⟩:∃R,kJ n (a,b,cc)=R:=⟨_,rfl⟩
   rw[hR]at HRU HRW HTK;clear hR hget hcw;have hA7:Below wr.heap.size wr (wr.alloc (.cells #[.int .i64 a,.int .i64 b,.int .i64 cc] 148)):=(zb _ _).alloc (zn _) _;have HC7:=zH (qa wr [.int .i64 a,.int .i64 b,.int .i64 cc] 148);have HX7:=zl HX hA7;have HQ7:=zH (HQ.out.keep hA7);have HO7:=zH (qo HO.out hA7 (zZ HO.out));clear hA7;go_upto_region 9 with fail
   generalize wr.alloc (.cells #[.int .i64 a,.int .i64 b,.int .i64 cc] 148)=w7 at*
   clear u0 u1 u2;have e0:=HC7.out 0 _ rfl;have e1:=HC7.out 1 _ rfl;have e2:=HC7.out 2 _ rfl;go_wp2_with(first
    |(go_at_call 92;(with_reducible refine(qau HN1 HRU).mono ?_);rintro e w8 ⟨g8,rfl,hg8,hN8,hb⟩;have HG8:=zH (⟨Xg HX7.out.size hg8,hN8⟩:w1.heap.size≤g8∧zY w8 g8 R.1);have HX8:=zl HX7 hb;have HQ8:=zH (HQ7.out.keep hb);have HO8:=zH (qo HO7.out hb (zZ HO7.out));have HQR:=zH (HQ8.out.row' HLL.out);clear hg8 hN8 hb)
    |(at_builtin;refine wpList_append_lies _ rfl _ _ 98 rfl w1.heap.size 101 i0 (.agg #[.slice none 0 0,.int .i64 0]) 2 32 Tryz.underlying98 hi hz0 hz1 hz2 rfl (by decide) _ (j+1) _ rfl (HQR.out.alloc _) ⟨_,0,none⟩ 1 1 (Qi n g8 (-cc)) rfl rfl (qul _ _ _ _) (qrv _ _ _) (by decide) (by unfold maxLen;omega) (by omega) (by have:=HX8.out.size;simp;omega) _ rfl ?_;intro g10 c10 w10 hown hgrow hor hlt10;have HQ10:Hid (vj w10 w1.heap.size (.slice (some ⟨g10,0,none⟩) (j+1+1) c10) n (gs++[g8]) (LL++[R])):=zH (HQ8.out.app HLL.out (q:=R) HG8.out HRW.out.1 (by rw[show R.2= -cc by rw[HRW.out.2]];exact hown) hgrow);have HX10:=zH (qN (HX8.out.alloc HX8.out.size _) (HQR.out.alloc _) (by have:=HX8.out.size;simp;omega) hgrow);have HO10:=zH (qr6 HO8.out HQR.out (by decide) hgrow);clear hown hgrow hor hlt10))
   go_roundw;case rel=>exact⟨j+1,g10,c10,gs++[g8],by omega,by go_num,by go_num,by rw[HTK.out];exact HQ10,HO10,HX10⟩
   case measure=>simp[intOf];omega
  ·obtain rfl:j=WL.length:=by omega
   rw[XP]at HQ;have HS:=zH (vj.slc (by have:(R0::WL.map (kJ n)).length=WL.length+1:=(by simp);rw[this];exact HQ.out) HN1.out);go_wp2_with fail
   go_ret;exact⟨_,_,by simp,HS.out,HW.out.trans (HX.out.mono HW.out.size)⟩
theorem qik{m:za}{l:List (List zm)}{f:Int}{A:Option Addr}{c:Nat}{h:zg}{w0 w:World}{L:List Inq}(HI:Hid (zi w0 w0.heap.size h m))(HX:Hid (Below w0.heap.size w0 w))(HM:Hid (zK m))(HT:Hid (qU m w A c l))(HL:Hid (Qx m l f=L)):
  Calls Tryz.prog 51 #[zk h m,.slice A l.length c,.int .i64 f] w fun e w'=>∃A' c',e= .returned (.slice A' L.length c')∧zd q0v 2 w' w'.heap.size A' c' L∧Below w.heap.size w w':=by
 have H:=qij m l f A c h w (HI.out.now HX.out) HM.out HT.out;rw[HL.out]at H;exact H
theorem qb6{Q L:List Int}{most:Int}{n:Nat}{A B:Option Addr}{c d nl:Nat}{w:World}{r:Bool}(hn:Hid (Q.length=n))(hm:Hid (L.length=nl))(hq:Hid (zd zq 1 w w.heap.size A c Q))(hl:Hid (zd zq 1 w w.heap.size B d L))(hr:Hid ((ZK (Q,most) L).getD false=r)):
  Calls Tryz.prog 52 #[.agg #[.slice A n c,.int .i64 most],.slice B nl d] w fun e w'=>∃k,e= .returned (.tuple #[.bool r,.int .i64 k])∧Below w.heap.size w w':=by
 obtain rfl:=hn.out;obtain rfl:=hm.out;exact(qj9 (Q,most) L A B c d w hq.out hl.out).mono fun e w' ⟨h1,h2⟩=>⟨(if(ZK (Q,most) L).isSome then 0 else 14),by rw[h1,hr.out],h2⟩
set_option maxHeartbeats 12800000 in
theorem qip(m:za)(l:List (List zm))(A:Option Addr)(c:Nat)(h:zg)(w:World)(H:zi w w.heap.size h m)(hm:zK m)(hT:qU m w A c l):
  Calls Tryz.prog 23 #[zk h m,.slice A l.length c] w fun e w'=>e= .returned (.tuple #[.int .i64 (if 0≤jL m l then jL m l else 0),.int .i64 (if 0≤jL m l then 6 else 0)])∧Below w.heap.size w w':=by
 have HW:=zH (jz (w:=w) (h:=h) (m:=m));have HBX:=zH (zX w h m);have HZ:Hid (w.heap.size<(w.alloc (zo h m)).heap.size):=zH (by simp);have HI:=zH (H.now HW.out);have HM:=zH hm;have hle:=H.methods.le;have hcap:=H.methods.cap;have HTY:=zH (q2e hT HW.out);obtain⟨P,hP⟩:∃P,jL m l=P:=⟨_,rfl⟩
 have HP:=zH hP;rw[hP];clear H hm hT hP;go_enter Tryz.func23,Tryz.ntmps23;go_upto_region 1 with fail
 generalize w.alloc (zo h m)=w1 at*
 obtain⟨q0,q1,q2,q3,q4,q5,q6⟩:=HBX.out;go_wp2_with fail
 clear q0 q1 q2 q3 q4 q5 q6;go_loopw [15] (fun i wr=>∃k:Nat,k≤m.methods.length∧i= .int .i64 k∧Hid (∀g,g<k→ZO m l g=false)∧Hid (Below w1.heap.size w1 wr)) (fun i _=>m.methods.length - (intOf i).toNat)
 case atStart=>exact⟨0,Xl _,rfl,zH (fun g hg=>by omega),zH (zb _ _)⟩
 case round=>
  obtain⟨k,hk,rfl,HA,HX⟩:=hrel;by_cases hlt:k<m.methods.length;rotate_left
  ·have hki:¬(k:Int)<(m.methods.length:Int):=by omega
   have hPn:P= -1:=by rw[←HP.out];exact qas (fun g hg=>HA.out g (by omega))
   go_wp2_with fail
   go_ret2
   exact⟨by first|rfl|simp,HW.out.trans (HX.out.mono HW.out.size)⟩
  have hki:(k:Int)<(m.methods.length:Int):=by omega
  have hkl:k<l.length:=by rw[HTY.out.2.2.1];exact hlt
  obtain⟨ad,hxx,eA,hab,hin,hcm⟩:=jJ HI.out hlt;have hgx:m.methods[k]? =some m.methods[k]:=Xc hlt;have hrk:=qqt HM.out hgx (Xc hkl) (HTY.out.2.2.2 k l[k] (Xc hkl));obtain⟨A0,Ab,A2,A3,A4,k0,k1,k2,k3,k4⟩:=h;dsimp only at eA hle hcap;subst eA;generalize m.methods[k]=x at*
  have HRK:=zH hrk;obtain⟨b0,b1,b2,b3,b4,b5,b6,b7⟩:=hcm.keep HX.out (by rw[zp];exact hab);have HPH:Hid (zd zq 1 w1 w1.heap.size hxx.A7 hxx.k7 x.phi):=zH hin.phi;obtain⟨xA0,xA1,xA4,xA7,kx0,kx1,kx4,kx7⟩:=hxx;dsimp only at b0 b1 b4 b7 HPH;obtain⟨np,hnp⟩:∃np,x.phi.length=np:=⟨_,rfl⟩
  have HNP:=zH hnp;rw[hnp]at b7;have HPF:Hid (ZO m l k=true→P=(k:Int)):=zH (fun hb=>by rw[←HP.out];exact q5w hlt HA.out hb);obtain⟨L,hL⟩:∃L,Qx m l (k:Int)=L:=⟨_,rfl⟩
  have HLR:=zH hL;rw[hL]at HRK;have HA7:Below wr.heap.size wr (wr.alloc (.cells #[.slice xA0 x.args.length kx0,.slice xA1 x.locals.length kx1,.int .i64 x.ret.1,.int .i64 x.ret.2,.slice xA4 x.code.length kx4,.int .i64 x.depth,.int .i64 x.pot,.slice xA7 np kx7] 53)):=(zb _ _).alloc (zn _) _;have HX3:=zl HX HA7;have HXB:Hid (ze (wr.alloc (.cells #[.slice xA0 x.args.length kx0,.slice xA1 x.locals.length kx1,.int .i64 x.ret.1,.int .i64 x.ret.2,.slice xA4 x.code.length kx4,.int .i64 x.depth,.int .i64 x.pot,.slice xA7 np kx7] 53)) wr.heap.size [.slice xA0 x.args.length kx0,.slice xA1 x.locals.length kx1,.int .i64 x.ret.1,.int .i64 x.ret.2,.slice xA4 x.code.length kx4,.int .i64 x.depth,.int .i64 x.pot,.slice xA7 np kx7] 53):=zH (ze.new wr _ _);obtain⟨q0,q1,q2,q3,q4,q5,q6⟩:=HBX.out.keep HX.out HZ.out;clear hgx hrk hin hcm hab hL HA7 hnp;go_upto_region 4 with fail
  clear q0 q1 q2 q3 q4 q5 q6 b0 b1 b2 b3 b4 b5 b6 b7;obtain⟨N,hN⟩:∃z,wr.heap.size=z:=⟨_,rfl⟩
  simp only[hN]at HXB⊢
  generalize wr.alloc (.cells #[.slice xA0 x.args.length kx0,.slice xA1 x.locals.length kx1,.int .i64 x.ret.1,.int .i64 x.ret.2,.slice xA4 x.code.length kx4,.int .i64 x.depth,.int .i64 x.pot,.slice xA7 np kx7] 53)=w3 at*
  obtain⟨q0,q1,q2,q3,q4,q5,q6⟩:=HBX.out.keep HX3.out HZ.out;have HT3:=zH (q2e HTY.out HX3.out);go_wp2_with(go_at_call 51;(with_reducible refine(qik HI HX3 HM HT3 HLR).mono ?_);rintro e w5 ⟨A5,c5,rfl,hs,hb⟩;have HS5:=zH hs;have HX5:=zl HX3 hb;have HXB5:=zH (HXB.out.keep hb (ze.lt HXB.out));clear hs hb)
  clear q0 q1 q2 q3 q4 q5 q6;have hl51:=HS5.out.le;have hl52:=HS5.out.cap;go_loopw [25] (fun i wr=>∃j:Nat,j≤L.length∧i= .int .i64 j∧Hid ((L.take j).all (kM x)=true)∧Hid (Below w5.heap.size w5 wr)) (fun i _=>L.length - (intOf i).toNat)
  case atStart=>exact⟨0,Xl _,rfl,zH (by rw[List.take_zero];rfl),zH (zb _ _)⟩
  case round=>
   clear HX;obtain⟨j,hj,rfl,HJ,HY⟩:=hrel;by_cases hjl:j<L.length;rotate_left
   ·obtain rfl:j=L.length:=by omega
    rw[XP]at HJ;have HB1:Hid (∀g,g<k+1→ZO m l g=false):=zH (fun g hg=>by
     rcases Xj g k with q|q
     ·exact HA.out g q
     ·obtain rfl:g=k:=by omega
      have:=HRK.out;rw[HJ.out]at this;simpa using this.symm)
    have HX9:=zH (HX5.out.trans (HY.out.mono HX5.out.size));go_wp2_with fail
    go_roundw;case rel=>exact⟨k+1,by omega,by go_num,HB1,HX9⟩
    case measure=>simp[intOf];omega
   have hji:(j:Int)<(L.length:Int):=by omega
   obtain⟨ad5,rfl,hab5,⟨Aq,cq,u0,hsq⟩,u1⟩:=HS5.out.row.at_ hjl;have HTK:Hid (L.take (j+1)=L.take j++[L[j]]):=zH (by rw[XA,Xc hjl];rfl);have HIN:Hid (L[j] ∈L):=zH (Xd hjl);generalize L[j]=q at*
   obtain⟨Q,most⟩:=q;dsimp only at u0 u1 hsq;obtain⟨nq,hnq⟩:∃n,Q.length=n:=⟨_,rfl⟩
   have HNQ:=zH hnq;rw[hnq]at u0;have HSQ:=zH hsq;have v0:=(HY.out.cell (p:=ad5.add (j*2)) (by rw[zp];exact hab5)).trans u0;have v1:=(HY.out.cell (p:=zc (ad5.add (j*2)) 1) (by show(ad5.add _).block<_;rw[zp];exact hab5)).trans u1;have hA8:Below wr.heap.size wr (wr.alloc (.cells #[.slice Aq nq cq,.int .i64 most] 101)):=(zb _ _).alloc (zn _) _;have HC8:=zH (qa wr [.slice Aq nq cq,.int .i64 most] 101);have HY8:=zl HY hA8;have HX8:=zH (HX5.out.trans (HY8.out.mono HX5.out.size));clear u0 u1 hnq hsq hA8;go_upto_region 7 with fail
   generalize wr.alloc (.cells #[.slice Aq nq cq,.int .i64 most] 101)=w8 at*
   clear v0 v1;have e0:=HC8.out 0 _ rfl;have e1:=HC8.out 1 _ rfl;have b7:=(HXB5.out.keep HY8.out (ze.lt HXB5.out)).cells 7 _ rfl;have HQ8:Hid (zd zq 1 w8 w8.heap.size Aq cq Q):=zH (qX zq.keeps HSQ.out HY8.out);have HP8:Hid (zd zq 1 w8 w8.heap.size xA7 kx7 x.phi):=zH (qX zq.keeps HPH.out HX8.out);obtain⟨r,hr⟩:∃r,(ZK (Q,most) x.phi).getD false=r:=⟨_,rfl⟩
   have HR:=zH hr;clear hr;cases r
   ·have hPk:P=(k:Int):=HPF.out (by
     have h1:=HRK.out;have h2:L.all (kM x)=false:=by
      rw[X9];intro ha;have:=Xy.mp ha _ HIN.out;unfold kM at this;rw[HR.out]at this;cases this
     rw[h2]at h1;simpa using h1.symm)
    go_wp2_with(go_at_call 52;(with_reducible refine(qb6 HNQ HNP HQ8 HP8 HR).mono ?_);rintro e w9 ⟨ke,rfl,hb⟩;have HX9:=zl HX8 hb;clear hb)
    go_ret2
    exact⟨by first|rfl|simp,HW.out.trans (HX9.out.mono HW.out.size)⟩
   ·have HJ1:Hid ((L.take (j+1)).all (kM x)=true):=zH (by
     rw[HTK.out,List.all_append,HJ.out];show(kM x (Q,most)&& true)=true;unfold kM;rw[HR.out];rfl)
    go_wp2_with(go_at_call 52;(with_reducible refine(qb6 HNQ HNP HQ8 HP8 HR).mono ?_);rintro e w9 ⟨ke,rfl,hb⟩;have HY9:=zl HY8 hb;clear hb)
    go_roundw;case rel=>exact⟨j+1,by omega,by go_num,HJ1,HY9⟩
    case measure=>simp[intOf];omega
end Go.Proofs.YtcmiljnbmgkdnaaGreat
