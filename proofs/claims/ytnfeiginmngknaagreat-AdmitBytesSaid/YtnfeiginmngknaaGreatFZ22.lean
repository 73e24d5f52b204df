import Derived.Test.YtnfeiginmngknaaGreatFZ20
import Derived.Test.YtnfeiginmngknaaGreatFZ21
namespace Go.Proofs.YtnfeiginmngknaaGreat
set_option maxRecDepth 100000
set_option linter.unusedVariables false
set_option linter.unusedSimpArgs false
open Go.ChangeShapes Go.WideShapes Go.ChangeAt Go.RowKit
def rF(m:za)(i:Nat):Bool:=match m.classes[i]? with
 |some x=>decide ((qg m.classes (i:Int)).length<=8)&& Jo m i x
 |none=>true
def ET(m:za):Bool:=(List.range m.classes.length).all (rF m)
theorem DK{m:za}{i:Nat}{x:zW}(h:m.classes[i]? =some x):rF m i=(decide ((qg m.classes (i:Int)).length<=8)&& Jo m i x):=by
 unfold rF;rw[h]
theorem Sv{m:za}{i:Nat}(hi:i<m.classes.length)(h:rF m i=false):ET m=false:=by
 rw[X6];intro g;have:=Xy.mp g i (Wb.mpr hi);rw[h]at this;cases this
theorem qf9{m:za}{i:Nat}{x:zW}(h:∀j<i,rF m j=true)(hs:x.sup<(i:Int))(hp:∀y ∈m.classes,∀s ∈y.slots,0<=s):∀q ∈Zw m x,0<=q/\∃g,m.methods[q.toNat]? =some g/\0<g.args.length:=fun q hq=>by
 unfold Zw at hq;split at hq
 ·cases hy:m.classes[x.sup.toNat]? with
  |none=>rw[hy]at hq;simp at hq
  |some y=>
   rw[hy]at hq;have h1:=h x.sup.toNat (by omega)
   rw[DK hy]at h1;simp only[Xt]at h1;have h2:=h1.2;unfold Jo at h2;simp only[Xt]at h2;obtain⟨j,hj⟩:=Im _ _ h2.2 q hq;exact⟨hp y (Xr hy) q hq,Pn hj⟩
 ·simp at hq
def QN(m:za):Bool:=gW m&& (Yy m.classes&& (ET m&& (m.methods.all (ZO m)&& m.entries.all (ZP m))))
theorem Kl{m:za}{h:zh}{w0 w:World}{r:Bool}(HI:Hid (zr w0 w0.heap.size h m))(HX:Hid (Below w0.heap.size w0 w))(HN:Hid (m.classes.length<=1000))(Db:Hid (m.methods.length<=1000))(HR:Hid (gW m=r)):
  Calls Tryz.prog 98 #[zv h m] w fun e w'=>e= .returned (.bool r)/\Below w.heap.size w w':=by
 have H:=q5w m h w (HI.out.now HX.out) HN.out Db.out;rw[HR.out]at H;exact H
theorem Rq{m:za}{h:zh}{w0 w:World}{r:Bool}(HI:Hid (zr w0 w0.heap.size h m))(HX:Hid (Below w0.heap.size w0 w))(HR:Hid (Yy m.classes=r)):
  Calls Tryz.prog 99 #[.slice h.A0 m.classes.length h.c0] w fun e w'=>e= .returned (.bool r)/\Below w.heap.size w w':=by
 have H:=q4h m.classes h.A0 h.c0 w.heap.size w (zn _) (HI.out.now HX.out).classes;rw[HR.out]at H;exact H
theorem Tc{m:za}{x:zW}{i:Nat}{h:zh}{w0 w:World}{r:Bool}(HI:Hid (zr w0 w0.heap.size h m))(HX:Hid (Below w0.heap.size w0 w))(HG:Hid (m.classes[i]? =some x))(HP:Hid (∀y ∈m.classes,∀s ∈y.slots,0<=s))(HS:Hid (x.sup<m.classes.length))(HT:Hid (aO m))
  (HQ:Hid (∀q ∈Zw m x,0<=q/\∃g,m.methods[q.toNat]? =some g/\0<g.args.length)) (HR:Hid (Jo m i x=r)):
  Calls Tryz.prog 101 #[zv h m,.int .i64 (i:Int)] w fun e w'=>e= .returned (.bool r)/\Below w.heap.size w w':=by
 have H:=q61 m x i h w (HI.out.now HX.out) HG.out HP.out HS.out HT.out.n HQ.out;rw[HR.out]at H;exact H
theorem Ru{m:za}{x:zl}{N:Nat}{h:zh}{hx:qH}{w0 w:World}{r:Bool}(HI:Hid (zr w0 w0.heap.size h m))(HM:Hid (jR w0 w0.heap.size hx x))(HX:Hid (Below w0.heap.size w0 w))(HK:Hid (Va w N h m))(HT:Hid (aO m))(HU:Hid (iE x))(HS:Hid (Yy m.classes=true))(HR:Hid (ZO m x=r)):
  Calls Tryz.prog 102 #[zv h m,ZD hx x,cntV N] w fun e w'=>e= .returned (.bool r)/\Below w.heap.size w w':=by
 have H:=q4k m x N h hx w (HI.out.now HX.out) (HM.out.now HX.out) HK.out HT.out HU.out HS.out;rw[HR.out]at H;exact H
theorem Tk{m:za}{n:Nat}{h:zh}{w0 w:World}{r:Bool}(HI:Hid (zr w0 w0.heap.size h m))(HX:Hid (Below w0.heap.size w0 w))(HR:Hid (ZP m (n:Int)=r)):
  Calls Tryz.prog 103 #[zv h m,.int .i64 (n:Int)] w fun e w'=>e= .returned (.bool r)/\Below w.heap.size w w':=by
 have H:=q69 m n h w (HI.out.now HX.out);rw[HR.out]at H;exact H
theorem Li{m:za}{c:Int}{h:zh}{N:Nat}{w0 w:World}{L:List (Int×Int)}(HI:Hid (zr w0 w0.heap.size h m))(HX:Hid (Below w0.heap.size w0 w))(HK:Hid (Va w N h m))(HS:Hid (Yy m.classes=true))(HT:Hid (aO m))(h1:c<m.classes.length)(HL:Hid (qg m.classes c=L)):
  Calls Tryz.prog 132 #[.int .i64 c,.pointer (some ⟨N,0,none⟩)] w fun e w'=>e= .returned (.int .i64 (L.length:Int))/\w=w':=by
 have H:=Rz m.classes c N h.A0 h.c0 w.heap.size w (zn _) (HI.out.now HX.out).classes HK.out.cell HS.out HT.out.f HT.out.n h1;rw[HL.out]at H;exact H
theorem qk8(h:zh)(m:za)(w:World):Va (w.alloc (.cells #[.slice h.A0 m.classes.length h.c0] 23)) w.heap.size h m:=
 ⟨qr w [.slice h.A0 m.classes.length h.c0] 23 0 _ rfl,by simp⟩
theorem oP{P:Prop}(h:P:=by
 go_ret;exact⟨by rw[E2.out];rfl,HW.out.trans (HX.out.mono (Xg HZ.out))⟩):P:=h
set_option maxHeartbeats 6400000 in
theorem q63(m:za)(h:zh)(w:World)(H:zr w w.heap.size h m)(hf:LJ m):
  Calls Tryz.prog 55 #[zv h m] w fun e w'=>e= .returned (.bool (QN m))/\Below w.heap.size w w':=by
 have HW:=zH (vU (w:=w) (h:=h) (m:=m));have HBX:=zH (qd w h m);have HZ:Hid (w.heap.size<(w.alloc (ze h m)).heap.size):=zH (by simp);have HI:=zH (H.now HW.out);have HN:Hid (m.classes.length<=1000):=zH (by have:=hf.cl;omega);have aX:Hid (m.methods.length<=1000):=zH (by have:=hf.ml;omega);have HT:Hid (aO m):=zH ⟨by have:=hf.cl;omega,fun x hx=>by have:=(hf.ct x hx).fl;omega⟩;have MN:Hid (∀x ∈m.methods,iE x):=zH (fun x hx=>⟨by have:=(hf.mt x hx).al;omega,by have:=(hf.mt x hx).ll;omega,fun i hi=>(YN ((hf.mt x hx).ct i hi)).2.2.1⟩);have HP:Hid (∀y ∈m.classes,∀s ∈y.slots,0<=s):=zH (fun y hy s hs=>((hf.ct y hy).st s hs).1);have CE:Hid (∀n ∈m.entries,0<=n):=zH (fun n hn=>(hf.et n hn).1);have l0:=H.classes.le;have BF:=H.classes.cap;have l3:=H.methods.le;have bz:=H.methods.cap;have l4:=H.entries.le;have l4c:=H.entries.cap;clear H hf;obtain⟨d1,hd1⟩:∃d,gW m=d:=⟨_,rfl⟩
 have D1:=zH hd1;obtain⟨d2,hd2⟩:∃d,Yy m.classes=d:=⟨_,rfl⟩
 have D2:=zH hd2;clear hd1 hd2;go_enter Tryz.func55,Tryz.ntmps55;go_upto_region 1 with fail
 generalize w.alloc (ze h m)=w1 at*
 obtain⟨q0,q1,q2,q3,q4,q5,q6⟩:=HBX.out;have HX:=qP w1;cases d1
 ·have E2:=zH (show QN m=false by unfold QN;rw[D1.out];rfl);go_wp2_with(go_at_call 98;(with_reducible refine(Kl HI HX HN aX D1).mono ?_);rintro e w5 ⟨rfl,hb⟩;have HX:=zi HX hb;obtain⟨q0,q1,q2,q3,q4,q5,q6⟩:=HBX.out.keep HX.out HZ.out;clear hb)
  exact oP
 ·cases d2
  ·have E2:=zH (show QN m=false by unfold QN;rw[D1.out,D2.out];rfl);go_wp2_with((first|(go_at_call 98;(with_reducible refine(Kl HI HX HN aX D1).mono ?_))|(go_at_call 99;(with_reducible refine(Rq HI HX D2).mono ?_)));rintro e w5 ⟨rfl,hb⟩;have HX:=zi HX hb;obtain⟨q0,q1,q2,q3,q4,q5,q6⟩:=HBX.out.keep HX.out HZ.out;clear hb)
   exact oP
  ·have HS:=D2;go_upto_region 4 with(first|((first|(go_at_call 98;(with_reducible refine(Kl HI HX HN aX D1).mono ?_))|(go_at_call 99;(with_reducible refine(Rq HI HX D2).mono ?_)));rintro e w5 ⟨rfl,hb⟩;have HX:=zi HX hb;obtain⟨q0,q1,q2,q3,q4,q5,q6⟩:=HBX.out.keep HX.out HZ.out;clear hb)|(go_at_call 100;(with_reducible refine(q3q _ _ _ _).mono ?_);rintro e w6 ⟨rfl,Ov⟩;have HK:Hid (Va w6 w5.heap.size h m):=zH (by rw[Ov];exact qk8 h m w5);have HX:=zH (show Below w1.heap.size w1 w6 by rw[Ov];exact HX.out.alloc HX.out.size _);obtain⟨q0,q1,q2,q3,q4,q5,q6⟩:=HBX.out.keep HX.out HZ.out;clear Ov))
   generalize w5.heap.size=N at*
   go_wp2_with fail
   go_loopw [24] (fun i wr=>∃k:Nat,k<=m.classes.length/\i= .int .i64 k/\Hid (∀j<k,rF m j=true)/\Hid (Va wr N h m)/\Hid (Below w1.heap.size w1 wr)) (fun i _=>m.classes.length - (intOf i).toNat)
   case atStart=>exact⟨0,by omega,rfl,zH (by intro j hj;omega),HK,HX⟩
   case round=>
    clear HX HK q0 q1 q2 q3 q4 q5 q6;obtain⟨k,hk,rfl,iY,HK,HX⟩:=hrel;obtain⟨q0,q1,q2,q3,q4,q5,q6⟩:=HBX.out.keep HX.out HZ.out;by_cases hlt:k<m.classes.length
    ·have HG:=zH (Xc hlt);generalize m.classes[k]=x at*
     have hsx:=AQ D2.out HG.out;have HSX:Hid (x.sup<m.classes.length):=zH (by omega);have yz:=zH (qf9 iY.out hsx HP.out);have aP:=zH (DK HG.out);have hki:(k:Int)<(m.classes.length:Int):=by omega
     obtain⟨L,hL⟩:=zj (qg m.classes (k:Int));rw[hL]at aP;have HL:=zH hL;obtain⟨d3,hd3⟩:∃d,Jo m k x=d:=⟨_,rfl⟩
     have D3:=zH hd3;clear hd3 hL hsx;by_cases c8:L.length<=8
     ·have ct8:¬(8:Int)<(L.length:Int):=by omega
      cases d3
      ·have E2:=zH (show QN m=false by unfold QN;rw[D1.out,D2.out,Sv hlt (aP.out.trans (by rw[D3.out];simp))];rfl);go_wp2_with(first|(go_at_call 132;(with_reducible refine(Li HI HX HK HS HT hki HL).mono ?_);rintro e w7 ⟨rfl,rfl⟩)|(go_at_call 101;(with_reducible refine(Tc HI HX HG HP HSX HT yz D3).mono ?_);rintro e w7 ⟨rfl,hb⟩;have HX:=zi HX hb;obtain⟨q0,q1,q2,q3,q4,q5,q6⟩:=HBX.out.keep HX.out HZ.out;have HK:=zH (HK.out.now hb);clear hb))
       exact oP
      ·have HY:Hid (∀j<k+1,rF m j=true):=zH (fun j hj=>by
        by_cases e:j=k
        ·subst e;rw[aP.out,D3.out,Xi c8];rfl
        ·exact iY.out j (by omega))
       go_wp2_with(first|(go_at_call 132;(with_reducible refine(Li HI HX HK HS HT hki HL).mono ?_);rintro e w7 ⟨rfl,rfl⟩)|(go_at_call 101;(with_reducible refine(Tc HI HX HG HP HSX HT yz D3).mono ?_);rintro e w7 ⟨rfl,hb⟩;have HX:=zi HX hb;obtain⟨q0,q1,q2,q3,q4,q5,q6⟩:=HBX.out.keep HX.out HZ.out;have HK:=zH (HK.out.now hb);clear hb))
       go_roundw;case rel=>exact⟨k+1,by omega,by go_num,HY,HK,HX⟩
       case measure=>simp[intOf];omega
     ·have ct8:(8:Int)<(L.length:Int):=by omega
      have E2:=zH (show QN m=false by unfold QN;rw[D1.out,D2.out,Sv hlt (aP.out.trans (by rw[Xf c8];rfl))];rfl);go_wp2_with(go_at_call 132;(with_reducible refine(Li HI HX HK HS HT hki HL).mono ?_);rintro e w7 ⟨rfl,rfl⟩)
      exact oP
    ·have HCO:=zH (show ET m=true from Xy.mpr fun j hj=>iY.out j (by have:=Wb.mp hj;omega));go_wp2_with fail
     go_loopw [41] (fun i wr=>∃k:Nat,k<=m.methods.length/\i= .int .i64 k/\Hid (∀x ∈m.methods.take k,ZO m x=true)/\Hid (Va wr N h m)/\Hid (Below w1.heap.size w1 wr)) (fun i _=>m.methods.length - (intOf i).toNat)
     case atStart=>exact⟨0,by omega,rfl,zH (by simp),HK,HX⟩
     case round=>
      clear HX HK q0 q1 q2 q3 q4 q5 q6 hlt hk;obtain⟨k,hk,rfl,q1w,HK,HX⟩:=hrel;obtain⟨q0,q1,q2,q3,q4,q5,q6⟩:=HBX.out.keep HX.out HZ.out;by_cases hlt:k<m.methods.length
      ·obtain⟨ad,e0,hab,hc⟩:=HI.out.methods.row.at_ hlt;have qz:=zH (fun g:ZO m m.methods[k]=false=>JP hlt g);have HYE:=zH (fun g:ZO m m.methods[k]=true=>Jk hlt q1w.out g);have HU:=zH (MN.out _ (Xd hlt));generalize m.methods[k]=x at*
       obtain⟨⟨A0,k0,s0,hs0⟩,⟨A1,k1,s1,hs1⟩,s2,s3,⟨A4,k4,s4,hs4⟩,s5,s6,⟨A7,k7,s7,hs7⟩⟩:=hc;have hP:(ad.add (k*8)).block<w1.heap.size:=by rw[zC];exact hab
       have s0:=(HX.out.cell hP).trans s0;have s1:=(HX.out.cell (p:=zc (ad.add (k*8)) 1) hP).trans s1;have s2:=(HX.out.cell (p:=zc (ad.add (k*8)) 2) hP).trans s2;have s3:=(HX.out.cell (p:=zc (ad.add (k*8)) 3) hP).trans s3;have s4:=(HX.out.cell (p:=zc (ad.add (k*8)) 4) hP).trans s4;have s5:=(HX.out.cell (p:=zc (ad.add (k*8)) 5) hP).trans s5;have s6:=(HX.out.cell (p:=zc (ad.add (k*8)) 6) hP).trans s6;have s7:=(HX.out.cell (p:=zc (ad.add (k*8)) 7) hP).trans s7;have HMX:Hid (jR w1 w1.heap.size ⟨A0,A1,A4,A7,k0,k1,k4,k7⟩ x):=zH ⟨hs0,hs1,hs4,hs7⟩;rw[e0];obtain⟨d4,hd4⟩:∃d,ZO m x=d:=⟨_,rfl⟩
       have D4:=zH hd4;clear hd4 e0 hs0 hs1 hs4 hs7 hP hab;go_upto_region 13 with fail
       have HB3:=zH (qr wr [.slice A0 x.args.length k0,.slice A1 x.locals.length k1,.int .i64 x.ret.1,.int .i64 x.ret.2,.slice A4 x.code.length k4,.int .i64 x.depth,.int .i64 x.pot,.slice A7 x.phi.length k7] 48);have HK:=zH (HK.out.now (zk (w:=wr) (o:=(.cells ([.slice A0 x.args.length k0,.slice A1 x.locals.length k1,.int .i64 x.ret.1,.int .i64 x.ret.2,.slice A4 x.code.length k4,.int .i64 x.depth,.int .i64 x.pot,.slice A7 x.phi.length k7]:List Value).toArray 48))));have HX:=zH (HX.out.alloc HX.out.size (.cells ([.slice A0 x.args.length k0,.slice A1 x.locals.length k1,.int .i64 x.ret.1,.int .i64 x.ret.2,.slice A4 x.code.length k4,.int .i64 x.depth,.int .i64 x.pot,.slice A7 x.phi.length k7]:List Value).toArray 48));have HB3:Hid (zQ (wr.alloc (.cells ([.slice A0 x.args.length k0,.slice A1 x.locals.length k1,.int .i64 x.ret.1,.int .i64 x.ret.2,.slice A4 x.code.length k4,.int .i64 x.depth,.int .i64 x.pot,.slice A7 x.phi.length k7]:List Value).toArray 48)) wr.heap.size [.slice A0 x.args.length k0,.slice A1 x.locals.length k1,.int .i64 x.ret.1,.int .i64 x.ret.2,.slice A4 x.code.length k4,.int .i64 x.depth,.int .i64 x.pot,.slice A7 x.phi.length k7]):=HB3;clear q0 q1 q2 q3 q4 q5 q6 s0 s1 s2 s3 s4 s5 s6 s7;generalize wr.alloc (.cells ([.slice A0 x.args.length k0,.slice A1 x.locals.length k1,.int .i64 x.ret.1,.int .i64 x.ret.2,.slice A4 x.code.length k4,.int .i64 x.depth,.int .i64 x.pot,.slice A7 x.phi.length k7]:List Value).toArray 48)=w3 at*
       generalize wr.heap.size=gb at*
       obtain⟨b0,b1,b2,b3,b4,b5,b6,b7⟩:=qp HB3.out;obtain⟨q0,q1,q2,q3,q4,q5,q6⟩:=HBX.out.keep HX.out HZ.out;cases d4
       ·have E2:=zH (show QN m=false by unfold QN;rw[D1.out,D2.out,HCO.out,qz.out D4.out];rfl);go_wp2_with(go_at_call 102;(with_reducible refine(Ru HI HMX HX HK HT HU HS D4).mono ?_);rintro e w7 ⟨rfl,hb⟩;have HX:=zi HX hb;obtain⟨q0,q1,q2,q3,q4,q5,q6⟩:=HBX.out.keep HX.out HZ.out;have HK:=zH (HK.out.now hb);clear hb)
        exact oP
       ·have HY:=zH (HYE.out D4.out);go_wp2_with(go_at_call 102;(with_reducible refine(Ru HI HMX HX HK HT HU HS D4).mono ?_);rintro e w7 ⟨rfl,hb⟩;have HX:=zi HX hb;obtain⟨q0,q1,q2,q3,q4,q5,q6⟩:=HBX.out.keep HX.out HZ.out;have HK:=zH (HK.out.now hb);clear hb)
        go_roundw;case rel=>exact⟨k+1,by omega,by go_num,HY,HK,HX⟩
        case measure=>simp[intOf];omega
      ·have FH:=zH (show m.methods.all (ZO m)=true from JQ q1w.out (by omega));go_wp2_with fail
       go_loopw [54] (fun i wr=>∃k:Nat,k<=m.entries.length/\i= .int .i64 k/\Hid (∀n ∈m.entries.take k,ZP m n=true)/\Hid (Va wr N h m)/\Hid (Below w1.heap.size w1 wr)) (fun i _=>m.entries.length - (intOf i).toNat)
       case atStart=>exact⟨0,by omega,rfl,zH (by simp),HK,HX⟩
       case round=>
        clear HX HK q0 q1 q2 q3 q4 q5 q6 hlt hk;obtain⟨k,hk,rfl,jc,HK,HX⟩:=hrel;obtain⟨q0,q1,q2,q3,q4,q5,q6⟩:=HBX.out.keep HX.out HZ.out;by_cases hlt:k<m.entries.length
        ·obtain⟨ad,e0,hab,hc⟩:=HI.out.entries.row.at_ hlt;have hp:=CE.out _ (Xd hlt);have qz:=zH (fun g:ZP m m.entries[k]=false=>JP hlt g);have HYE:=zH (fun g:ZP m m.entries[k]=true=>Jk hlt jc.out g);generalize m.entries[k]=n0 at*
         obtain⟨n,rfl⟩:=Xj hp;rw[Xq]at hc;have t0:=(HX.out.cell (p:=ad.add k) (by exact zZ hab)).trans hc;rw[e0];obtain⟨d5,hd5⟩:∃d,ZP m (n:Int)=d:=⟨_,rfl⟩
         have D5:=zH hd5;clear hd5 e0 hc hab hp;cases d5
         ·have E2:=zH (show QN m=false by unfold QN;rw[D1.out,D2.out,HCO.out,FH.out,qz.out D5.out];rfl);go_wp2_with(go_at_call 103;(with_reducible refine(Tk HI HX D5).mono ?_);rintro e w7 ⟨rfl,hb⟩;have HX:=zi HX hb;obtain⟨q0,q1,q2,q3,q4,q5,q6⟩:=HBX.out.keep HX.out HZ.out;have HK:=zH (HK.out.now hb);clear hb)
          exact oP
         ·have HY:=zH (HYE.out D5.out);go_wp2_with(go_at_call 103;(with_reducible refine(Tk HI HX D5).mono ?_);rintro e w7 ⟨rfl,hb⟩;have HX:=zi HX hb;obtain⟨q0,q1,q2,q3,q4,q5,q6⟩:=HBX.out.keep HX.out HZ.out;have HK:=zH (HK.out.now hb);clear hb)
          go_roundw;case rel=>exact⟨k+1,by omega,by go_num,HY,HK,HX⟩
          case measure=>simp[intOf];omega
        ·have E2:=zH (show QN m=true by unfold QN;rw[D1.out,D2.out,HCO.out,FH.out,show m.entries.all (ZP m)=true from JQ jc.out (by omega)];rfl);go_wp2_with fail
         exact oP
theorem q8p{m:za}(h:zV m=true):∀x ∈m.methods,qG x.ret=true/\∀t ∈x.args,qG t=true:=fun x hx=>by
 unfold zV at h;simp only[Xt]at h;have h1:=Xy.mp h.2.2 x hx;unfold vi at h1;simp only[Xt]at h1;exact⟨h1.2.2.1,(XD h1.1:_/\_).2⟩
theorem Kj{t:Int×Int}{k:Int}(h:qG t=true)(hk:k≠3):(t=(k,0))↔t.1=k:=by
 have h:=XD h
 grind
theorem q93{m:za}(h:zV m=true)(n:Int):ZP m n=Zz m n:=by
 unfold ZP Zz;cases hf:m.methods[n.toNat]? with
 |none=>rfl
 |some f=>
  obtain⟨h1,h2⟩:=q8p h f (by grind);dsimp only;rw[XQ];simp only[Xt,Wr,Xy,Xw];rw[Kj h1 (by decide),Kj h1 (by decide)];constructor
  ·grind
  ·rintro⟨g2,g1⟩;exact⟨fun t ht=>(by grind [Kj]),g2⟩
theorem qcs(m:za)(c:Int):rE (JI m m.methods.length) c=true↔vC m.statics c=true/\(∀x ∈m.classes,vC x.fields c=true)/\∀x ∈m.methods,vC x.args c=true/\vC x.locals c=true:=by
 unfold rE JI
 grind
theorem qek(m:za):YY m m.classes.length=true↔∀(i:Nat) x,m.classes[i]? =some x->jG m (i:Int) x=true:=by
 constructor
 ·grind [Lj]
 ·intro h;refine Xy.mpr fun i hi=> ?_
  grind
theorem q9k(m:za):ET m=true↔∀(i:Nat) x,m.classes[i]? =some x->(qg m.classes (i:Int)).length<=8/\Jo m i x=true:=by
 constructor
 ·intro h i x hx;obtain⟨hi,_⟩:=Xv.mp hx;have:=Xy.mp h i (by grind)
  grind [DK]
 ·intro h;refine Xy.mpr fun i hi=> ?_;cases hx:m.classes[i]? with
  |none=>grind
  |some x=>
   grind [DK]
theorem qfp(cl:List zW):Yy cl=true↔∀(i:Nat) x,cl[i]? =some x->x.sup<(i:Int):=by
 constructor
 ·intro h i x hx;exact AQ h hx
 ·intro h;refine Xy.mpr fun i hi=> ?_;unfold supB
  grind
theorem qem(m:za)(i:Nat)(x:zW):jG m (i:Int) x=true↔x.sup<(i:Int)/\vC x.fields m.classes.length=true/\(qg m.classes (i:Int)).length<=8/\Jo m i x=true:=by
 unfold jG Jo
 grind
theorem q7s(m:za)(x:zl):jK m x=true↔vC x.args m.classes.length=true/\vC x.locals m.classes.length=true/\Qu x.ret m.classes.length=true/\ZO m x=true:=by
 unfold jK ZO
 grind
theorem q7r{m:za}(h:zV m=true):QN m=okB m:=by
 rw[XQ];unfold QN okB gW;simp only[Xt];rw[qcs,qfp,q9k,qek,show m.entries.all (ZP m)=m.entries.all (Zz m)by rw[show ZP m=Zz m from funext (q93 h)]];unfold Bj;simp only[Xy]
 grind [qem,Xr,q7s,List.getElem?_of_mem]
theorem O6{P:Prop}(h:P:=by
 go_wp2_with(first|(go_at_call 48;(with_reducible refine(KI m h _ _ (zn _) HI.out).mono ?_);rintro e w2 ⟨he,hb⟩;rw[R.out]at he;subst he;have HX:=zH hb;obtain⟨q0,q1,q2,q3,q4,q5,q6⟩:=HBX.out.keep HX.out HZ.out;clear hb)|(go_at_call 55;(with_reducible refine(q63 m h _ (HI.out.now HX.out) HF.out).mono ?_);rintro e w3 ⟨he,hb⟩;rw[D.out]at he;subst he;have HX:=zi HX hb;clear hb))
 go_ret;exact⟨by rw[EN.out];rfl,zD HW HX⟩):P:=h
set_option maxHeartbeats 800000 in
theorem q6d(m:za)(h:zh)(w:World)(H:zr w w.heap.size h m):
  Calls Tryz.prog 34 #[zv h m] w fun e w'=>e= .returned (.int .i64 (jQ m))/\Below w.heap.size w w':=by
 have HW:=zH (vU (w:=w) (h:=h) (m:=m));have HBX:=zH (qd w h m);have HZ:Hid (w.heap.size<(w.alloc (ze h m)).heap.size):=zH (by simp);have HI:=zH (H.now HW.out);clear H;obtain⟨r,hr⟩:=zj (zV m);have R:=zH hr;clear hr;go_enter Tryz.func34,Tryz.ntmps34;go_upto_region 1 with fail
 generalize w.alloc (ze h m)=w1 at*
 obtain⟨q0,q1,q2,q3,q4,q5,q6⟩:=HBX.out;cases r
 ·have EN:=zH (Az R.out);go_wp2_with(go_at_call 48;(with_reducible refine(KI m h _ _ (zn _) HI.out).mono ?_);rintro e w2 ⟨he,hb⟩;rw[R.out]at he;subst he;have HX:=zH hb;clear hb)
  go_ret;exact⟨by rw[EN.out];rfl,zD HW HX⟩
 ·have HF:=zH (ru R.out);have HS:=zH (q7r R.out);obtain⟨d,hd⟩:=zj (QN m);have D:=zH hd;have vQ:=zH (HS.out.symm.trans hd);clear hd HS;cases d
  ·have EN:=zH (mr R.out vQ.out);exact O6
  ·have EN:=zH (Ey R.out vQ.out);exact O6
