import Derived.Test.YtnfeiginmngknaaGreatFZ34
import Derived.Test.YtnfeiginmngknaaGreatFZ33
namespace Go.Proofs.YtnfeiginmngknaaGreat
set_option maxRecDepth 100000
set_option linter.unusedVariables false
set_option linter.unusedSimpArgs false
open Go.ChangeShapes Go.WideShapes Go.ChangeAt Go.RowKit
def KW(m:za)(f:Int)(w:World)(e:Ending)(w':World):Prop:=∃ok A c S,e= .returned (.tuple #[.slice A (S:List zq).length c,.bool ok])/\Below w.heap.size w w'/\
 (ok=true->∃g X,A=some ⟨g,0,none⟩/\S=X.map zg.shp/\c=S.length/\w.heap.size<=g/\qJ w' g X/\wO m f S/\Yx m f S)/\
 (ok=false->∀R,vL m f R=false)
theorem IB{m:za}{f:Int}{w w':World}(hb:Below w.heap.size w w')(h:∀R,vL m f R=false):KW m f w (.returned (.tuple #[.slice none 0 0,.bool false])) w':=⟨false,none,0,[],rfl,hb,(fun h=>by cases h),fun _=>h⟩
theorem TQ(n:Nat):(⟨true,none,0,[]⟩::List.replicate n (⟨false,none,0,[]⟩:zg)).map zg.shp=⟨true,[]⟩::List.replicate n (⟨false,[]⟩:zq):=by simp[zg.shp]
theorem q56{m:za}{f:Nat}{x:zl}{n:Nat}(hx:zA m (f:Int)=x)(hn:x.code.length=n+1):YA m f ((⟨true,none,0,[]⟩::List.replicate n (⟨false,none,0,[]⟩:zg)).map zg.shp):=by
 have h:=q8e (m:=m) (f:=f) (n:=n) hx hn;rw[TQ]at h⊢
 exact YA.start h (by rw[hx];exact hn)
theorem q59{m:za}{f:Int}{S:List zq}(h:YA m f S)(h0:0<S.length)(hd:∀pc:Nat,pc<S.length->kR m f S (pc:Int)=true):wO m f S/\Yx m f S:=
 ⟨⟨h.grow,fun pc hpc hs=>by
  obtain⟨e,g⟩:=uS.mp (hd pc hpc) hs;exact⟨e,fun n hn=>⟨(g n hn).1,(g n hn).2.1⟩⟩⟩,⟨h.low.done h0 hd,fun R hR=>h.low.over hR,h.low.small,fun s hs=>⟨h.nul s hs,h.dry s hs⟩⟩⟩
set_option maxHeartbeats 12800000 in
theorem q3t(m:za)(x:zl)(f:Nat)(h:zh)(w:World)(H:zr w w.heap.size h m)(hm:zP m)(hx:m.methods[f]? =some x):
  Calls Tryz.prog 52 #[zv h m,.int .i64 f] w (KW m f w):=by
 obtain⟨M9,hi,hz0,hz1,hz2⟩:=jJ R7;have HW:=zH (vU (w:=w) (h:=h) (m:=m));have HBX:=zH (qd w h m);have HZ:Hid (w.heap.size<(w.alloc (ze h m)).heap.size):=zH (by simp);have HI:=zH (H.now HW.out);have HM:=zH hm;have HG:=zH hx;have hle:=H.methods.le;have hcap:=H.methods.cap;have hcl:m.classes.length<=1000:=by have:=hm.fits.cl;omega
 have hxm:=hm.method (Xr hx);have hxl:x.code.length<=1000:=by have:=hxm.fits.cl;omega
 have hxp:=hxm.cp;have hfl:=(Xv.mp hx).1;have hfe:=(Xv.mp hx).2;obtain⟨ad,A4c,j4,ea,hab,hc4⟩:=Ua HI.out hfl;rw[hfe]at hc4;obtain⟨A0,Ab,A2,A3,A4,k0,k1,k2,k3,k4⟩:=h;dsimp only at ea hle hcap;subst ea;have CL:zA m (f:Int)=x:=by unfold zA;rw[Xo,hx];rfl
 have YJ:=zH CL;clear H hm hx hxm hfe CL;go_enter Tryz.func52,Tryz.ntmps52;go_upto_region 1 with fail
 change Code.wp _ _ _ _ (w.alloc (ze ⟨A0,Ab,A2,some ad,A4,k0,k1,k2,k3,k4⟩ m));generalize w.alloc (ze ⟨A0,Ab,A2,some ad,A4,k0,k1,k2,k3,k4⟩ m)=w1 at*
 obtain⟨q0,q1,q2,q3,q4,q5,q6⟩:=HBX.out;have hie:((x.code.length:Int)==0)=false:=XG.mpr (by omega);go_upto_region 3 with(at_make;refine wpList_make_full _ rfl _ _ 79 rfl w1.heap.size 81 M9 (.agg #[.bool false,.slice none 0 0]) 2 Tryz.underlying79 hi hz0 hz1 .i64 .i64 _ _ x.code.length rfl rfl rfl rfl (by rw[hz2];omega) (by unfold maxLen;omega) (zn _) ?_;intro w2 hown hgrow;have qm:=zH hown;have HB2:=zH ((zb w1.heap.size w1).grown hgrow (zn _) (fun k hk=>by cases hk));clear hown hgrow)
 obtain⟨n1,hn1⟩:∃n,x.code.length=n+1:=⟨x.code.length - 1,by omega⟩
 have HL:=zH hn1;have kx:Hid (qJ w2 w1.heap.size (⟨false,none,0,[]⟩::List.replicate n1 ⟨false,none,0,[]⟩)):=zH (by
  have h1:=TA qm.out;rw[PW,hn1]at h1;exact⟨h1,fun y hy=>by
   rcases XZ.mp hy with q|q
   ·rw[q];exact va
   ·rw[(List.mem_replicate.mp q).2];exact va⟩)
 have YF:=zH (q56 (n:=n1) YJ.out hn1);obtain⟨R0,hR0⟩:∃r,AA m n1=r:=⟨_,rfl⟩
 have ky:Hid (R0<=AA m ((zA m (f:Int)).code.length - 1)):=zH (by rw[YJ.out,hn1,<-hR0];exact zn _);have fJ:Hid (qx (zy m.classes).length ((⟨true,none,0,[]⟩::List.replicate n1 (⟨false,none,0,[]⟩:zg)).map zg.shp)+0<=R0):=zH (by rw[<-hR0,TQ];exact zn _);clear hR0;clear qm hn1 q0 q1 q2 q3 q4 q5 q6;have s0:=kx.out.seen_at (i:=0) (by simp)
 have f0:=kx.out.blk.free 0;have s0:w2.cell? ⟨w1.heap.size,0,none⟩=some (.bool false):=s0;go_upto_region 6 with fail
 have kf:=zH (TE (n:=n1) kx.out);have HB3:Hid (Below w1.heap.size w1 (w2.setCell ⟨w1.heap.size,0,none⟩ (.bool true))):=zH (HB2.out.setCell (p:=⟨w1.heap.size,0,none⟩) (zn _) _);clear s0 f0 kx HB2;generalize w2.setCell ⟨w1.heap.size,0,none⟩ (.bool true)=w3 at*
 have QH:Hid ((⟨true,none,0,[]⟩::List.replicate n1 (⟨false,none,0,[]⟩:zg)).length=x.code.length):=zH (by rw[HL.out];simp);generalize(⟨true,none,0,[]⟩::List.replicate n1 (⟨false,none,0,[]⟩:zg))=X3 at*
 have hwp:IntKind.i64.wrap ((x.code.length:Int) - 1)=(x.code.length:Int) - 1:=IntWalk.i64_in _ (by omega);go_wp2_with fail
 go_loopw [8] (fun i wr=>∃(k:Nat) (X:List zg),k<=4000/\i= .int .i64 k/\X.length=x.code.length/\Hid (qJ wr w1.heap.size X)/\Hid (YA m f (X.map zg.shp))/\Hid (Below w1.heap.size w1 wr)/\Hid (qx (zy m.classes).length (X.map zg.shp)+k<=R0)) (fun i _=>4000 - (intOf i).toNat)
 case atStart=>exact⟨0,X3,Xn _,rfl,QH.out,kf,YF,HB3,fJ⟩
 case round=>
  clear kf YF HB3 QH fJ;obtain⟨k,X,hk,rfl,lN,HO,YF,HX,fJ⟩:=hrel;by_cases hk4:k<4000;rotate_left
  ·have hki:¬(k:Int)<4000:=by omega
   have HBAD:Hid False:=zH (by
    have h1:=fJ.out;have h2:=ky.out;have hx64:x.code.length<=64:=(HM.out.method (Xr HG.out)).fits.cl;have h3:=q6p (m:=m) (S:=X.map zg.shp) (n:=(zA m (f:Int)).code.length - 1) (by rw[Xm,YJ.out];have:=HL.out;omega) (by rw[YJ.out];omega) HM.out.fits.cl YF.out.lens (fun s hs=>YF.out.grow.small s hs);omega)
   exact HBAD.out.elim
  have hki:(k:Int)<4000:=by omega
  obtain⟨Rk,hRk⟩:∃r,qx (zy m.classes).length (X.map zg.shp)=r:=⟨_,rfl⟩
  have qkx:Hid (Rk+k<=R0):=zH (by rw[<-hRk];exact fJ.out);have YI:Hid (qx (zy m.classes).length (X.map zg.shp)<=Rk/\(false=true->qx (zy m.classes).length (X.map zg.shp)<Rk)):=zH ⟨Nat.le_of_eq hRk,fun e=>by cases e⟩;clear hRk fJ;go_wp2_with fail
  go_loopw [9,10] (fun tb i wr=>∃(p:Nat) (z:Int) (t:Bool) (X:List zg),p<=x.code.length/\i= .int .i64 z/\z=(p:Int) - 1/\tb= .bool t/\X.length=x.code.length/\Hid (qJ wr w1.heap.size X)/\Hid (YA m f (X.map zg.shp))/\Hid (Below w1.heap.size w1 wr)/\Hid (t=false->∀p':Nat,p<=p'->p'<x.code.length->kR m f (X.map zg.shp) (p':Int)=true)/\Hid (qx (zy m.classes).length (X.map zg.shp)<=Rk/\(t=true->qx (zy m.classes).length (X.map zg.shp)<Rk))) (fun _ i _=>(intOf i+1).toNat)
  case atStart=>exact⟨x.code.length,_,false,X,zn _,rfl,rfl,rfl,lN,HO,YF,HX,zH (fun _ p h1 h2=>by omega),YI⟩
  case round=>
   clear HO YF HX lN YI;obtain⟨p,z,t,X,hp,rfl,hz,rfl,lN,HO,YF,HX,HT,YI⟩:=hrel;rcases p with _|j
   ·obtain rfl:z= -1:=by omega
    clear hz;cases t
    ·have hpl:∀pc:Nat,pc<(X.map zg.shp).length->kR m f (X.map zg.shp) (pc:Int)=true:=fun pc hpc=>HT.out rfl pc (Xn _) (by rw[Xm]at hpc;omega);have FV:=zH (q59 YF.out (by rw[Xm];omega) hpl);clear hpl;go_wp2_with fail
     go_ret2
     exact⟨true,_,_,X.map zg.shp,by rw[Xm,lN];rfl,HW.out.trans (HX.out.mono (Xg HZ.out)),fun _=>⟨_,X,rfl,rfl,by rw[Xm,lN],Xg HZ.out,HO.out,FV.out.1,FV.out.2⟩,fun e=>by cases e⟩
    ·have xR:Hid (qx (zy m.classes).length (X.map zg.shp)+(k+1)<=R0):=zH (by have h1:=YI.out.2 rfl;have h2:=qkx.out;omega);go_wp2_with fail
     go_roundw;case rel=>exact⟨k+1,X,by omega,by go_num,lN,HO,YF,HX,xR⟩
     case measure=>simp[intOf];omega
   ·obtain rfl:z=(j:Int):=by omega
    clear hz;have nP:j<X.length:=by omega
    have hjl:j<x.code.length:=by omega
    have c0:=HO.out.seen_at nP;have c1:=HO.out.stack_at nP;have hjn:zx (X.map zg.shp) (j:Int)=X[j].shp:=mf nP;have jD:=zH (HO.out.row _ (Xd nP));have hsm:X[j].stack.length<=8:=YF.out.grow.small X[j].shp (X9.mpr ⟨_,Xd nP,rfl⟩);have hwq:IntKind.i64.wrap ((j:Int) - 1)=(j:Int) - 1:=IntWalk.i64_in _ (by omega);have uD:=zH hjn;clear hjn;obtain⟨y,hy⟩:=zj (X[j]);rw[hy]at c0 c1 jD hsm uD;clear hy;by_cases hse:y.seen=true;rotate_left
    ·have tZ:y.seen=false:=by simpa using hse
     have HT2:Hid (t=false->∀p':Nat,j<=p'->p'<x.code.length->kR m f (X.map zg.shp) (p':Int)=true):=zH (fun g p' h1 h2=>by
      rcases Xl j p' with q|q
      ·exact HT.out g p' q h2
      ·obtain rfl:p'=j:=by omega
       exact qge (by rw[uD.out];exact tZ))
     go_wp2_with fail
     go_roundw;case rel=>exact⟨j,_,t,X,by omega,rfl,rfl,rfl,lN,HO,YF,HX,HT2,YI⟩
     case measure=>(simp[intOf];try omega)
    have QB:=zH hse;obtain⟨⟨L,NL,er⟩,hrs⟩:∃r,zI m (f:Int) (j:Int) y.stack=r:=⟨_,rfl⟩
    have kK:=zH hrs;have qy:Hid (Below w1.heap.size w1 wr.drew):=zH HX.out.drew;have CB:=zH (slcDr zf.keeps jD.out);have fF:Hid (∀W,Below w1.heap.size w1 W->Below wr.heap.size wr W->(fun w'=>I7 w.heap.size A0 Ab A2 (some ad) A4 k0 k1 k2 k3 k4 m w' (w'.cell? ⟨w1.heap.size,j*2+1,none⟩=some (.slice y.A y.stack.length y.c))) W):=zH (fun W hW hV=>by
     obtain⟨d0,d1,d2,d3,d4,d5,d6⟩:=HBX.out.keep hW HZ.out;exact⟨d0,d1,d2,d3,d4,d5,d6,(hV.cell (p:=⟨w1.heap.size,j*2+1,none⟩) HO.out.blk.lt).trans c1⟩)
    have ui:Hid (Below wr.heap.size wr wr.drew):=zH (zb _ _).drew;clear hrs;go_wp2_with fail
    go_region_held3 (fun w'=>I7 w.heap.size A0 Ab A2 (some ad) A4 k0 k1 k2 k3 k4 m w' (w'.cell? ⟨w1.heap.size,j*2+1,none⟩=some (.slice y.A y.stack.length y.c))) (first|exact fF.out _ qy.out ui.out|exact fF.out _ HX6.out Yl.out) (first|(go_at_call 54;(with_reducible refine(UR HI qy HM (zH rfl) CB (Xe hsm (by decide)) kK).mono ?_);rintro e w6 ⟨A7,c7,A8,c8,rfl,hs7,QW,hb⟩;have H7:=zH hs7;have H8:=zH QW;have HX6:=zi qy hb;have Yl:=zi ui hb;clear hs7 QW hb))
    rename_i hHeld;clear hHeld c0 c1;by_cases her:er=0;rotate_left
    ·have hne:(er !=0)=true:=by simpa using her
     have HBAD:Hid (∀R,vL m f R=false):=zH (YF.out.low.none_err (pc:=j) HM.out (by rw[Xm];exact nP) (by rw[uD.out];exact QB.out) (by rw[uD.out];show ¬(zI m (f:Int) (j:Int) y.stack).err=0;rw[kK.out];exact her));go_wp2_with fail
     go_ret2
     exact IB (HW.out.trans (HX6.out.mono (Xg HZ.out))) HBAD.out
    subst her;have HO6:=zH (HO.out.keep Yl.out);have hm1:=H8.out.le;have hm2:=H8.out.cap;have CS:=H7.out.le;have hm4:=H7.out.cap;have OY:Hid (NL=rD m f j/\L.length<=8/\∀n ∈NL,0<=n/\n<(x.code.length:Int)):=zH (by
     have hjx:j<x.code.length:=by omega
     obtain⟨⟨op,a,bb⟩,hi⟩:∃i,x.code[j]? =some i:=⟨_,Xc hjx⟩
     have hxm:=HM.out.method (Xr HG.out);have him:=Xr hi;have e1:=pG (st:=y.stack) HG.out hi;rw[kK.out]at e1;have h1:=AY (m:=m) (st:=y.stack) (F:=0) (hxm.fits.ct _ him) (hxm.co _ him) (by rw[<-e1]);have h2:=PP (m:=m) (x:=x) (pc:=(j:Int)) (op:=op) (a:=a) (b:=bb) (st:=y.stack) (by rw[<-e1]);rw[<-e1]at h1 h2;exact⟨by rw[qcm HG.out hi];exact h2.1,h2.2,h1⟩)
    have hL8:=OY.out.2.1;go_wp2_with fail
    have iX:Hid ((zx (X.map zg.shp) (j:Int)).seen=true):=zH (by rw[uD.out];exact QB.out);have HRJ:Hid (zI m (f:Int) (j:Int) (zx (X.map zg.shp) (j:Int)).stack=⟨L,NL,0⟩):=zH (by rw[uD.out];exact kK.out);have HST:=zH (YF.out.step (pc:=j) HM.out (by rw[Xm];exact nP) iX.out HRJ.out);have Yj:Hid (Qo (X.map zg.shp) y.stack.length):=zH ⟨y.shp,by rw[<-uD.out];exact eF (by rw[Xm];exact nP),QB.out,rfl⟩;have HSG:Hid (L.length<=y.stack.length+1):=zH (by have h1:=qaz (m:=m) (f:=(f:Int)) (pc:=(j:Int)) (st:=y.stack) (by rw[kK.out]);rw[kK.out]at h1;exact h1);go_loopw [9,14] (fun tb i wr=>∃(q:Nat) (t':Bool) (X':List zg),q<=NL.length/\i= .int .i64 q/\tb= .bool t'/\X'.length=x.code.length/\Hid (qJ wr w1.heap.size X')/\Hid (YA m f (X'.map zg.shp))/\Hid (Below w1.heap.size w1 wr)/\Hid (zd zf 2 wr wr.heap.size A7 c7 L)/\Hid (zd zu 1 wr wr.heap.size A8 c8 NL)/\Hid ((zx (X'.map zg.shp) (j:Int)).seen=true)/\Hid (Qo (X'.map zg.shp) y.stack.length)/\
      Hid (t'=false->t=false/\X'=X/\∀n ∈NL.take q,(zx (X.map zg.shp) n).seen=true/\zL (zy m.classes) L (zx (X.map zg.shp) n).stack)/\Hid (qx (zy m.classes).length (X'.map zg.shp)<=Rk/\(t'=true->qx (zy m.classes).length (X'.map zg.shp)<Rk))) (fun _ i _=>NL.length - (intOf i).toNat)
    case atStart=>exact⟨0,t,X,Xn _,rfl,rfl,lN,HO6,YF,HX6,H7,H8,iX,Yj,zH (fun g=>⟨g,rfl,fun n hn=>by simp at hn⟩),YI⟩
    case round=>
     clear HO6 HX6 H7 H8 iX Yj qy ui Yl HX HO fF;clear YI;obtain⟨q,t',X',hq,rfl,rfl,Gf,HO,gI,HX,H7,H8,iX,Yj,YK,YI⟩:=hrel;by_cases fV:q<NL.length;rotate_left
     ·have HT3:Hid (t'=false->∀p':Nat,j<=p'->p'<x.code.length->kR m f (X'.map zg.shp) (p':Int)=true):=zH (fun g p' h1 h2=>by
       obtain⟨g1,g2,g3⟩:=YK.out g;subst g2;rcases Xl j p' with z|z
       ·exact HT.out g1 p' z h2
       ·obtain rfl:p'=j:=by omega
        rw[XA (by omega)]at g3;rw[uS];intro _;rw[HRJ.out];exact⟨rfl,g3⟩)
      go_wp2_with fail
      go_roundw;case rel=>exact⟨j,_,t',X',by omega,rfl,rfl,rfl,Gf,HO,gI,HX,HT3,YI⟩
      case measure=>(simp[intOf];try omega)
     obtain⟨bq,Gr,MS,v0⟩:=H8.out.row.at_ fV;have v0:wr.cell? (bq.add q)=some (.int .i64 NL[q]):=by have:=v0;rw[Xq]at this;exact this
     have HEA8:=zH Gr;obtain⟨GR,nr1⟩:=OY.out.2.2 _ (Xd fV);have qO:Hid (NL[q] ∈rD m f j):=zH (by have:=Xd fV;have e:=OY.out.1;rw[<-e];exact this);have aX:Hid (NL[q] ∈NL):=zH (Xd fV);have Hu:Hid (t'=false->(zx (X'.map zg.shp) NL[q]).seen=true->zL (zy m.classes) L (zx (X'.map zg.shp) NL[q]).stack->t=false/\X'=X/\∀n ∈NL.take (q+1),(zx (X.map zg.shp) n).seen=true/\zL (zy m.classes) L (zx (X.map zg.shp) n).stack):=zH (fun g h1 h2=>by
      obtain⟨g1,g2,g3⟩:=YK.out g;subst g2;refine⟨g1,rfl,fun n hn=> ?_⟩;rw[List.take_succ_eq_append_getElem fV]at hn;rcases Xu.mp hn with z|z
      ·exact g3 n z
      ·rw[XR.mp z];exact⟨h1,h2⟩)
     generalize NL[q]=nn at*
     obtain⟨tg,rfl⟩:=Xj GR;have jv:tg<X'.length:=by omega
     have q30:j<X'.length:=by omega
     have c0:=HO.out.seen_at jv;have c1:=HO.out.stack_at jv;have htn:zx (X'.map zg.shp) (tg:Int)=X'[tg].shp:=mf jv;have Fw:=zH (HO.out.row _ (Xd jv));have q2z:X'[tg].stack.length<=8:=gI.out.grow.small X'[tg].shp (X9.mpr ⟨_,Xd jv,rfl⟩);obtain⟨⟨sn,Ay,cy,JC⟩,hy2⟩:∃y,X'[tg]=y:=⟨_,rfl⟩
     rw[hy2]at c0 c1 htn Fw q2z;dsimp only[zg.shp]at c0 c1 htn Fw q2z;have kA:=zH htn;have hyX:=zH hy2;clear hy2 htn;have Cm:=HO.out.blk.free (tg*2);have BV:=HO.out.blk.free (tg*2+1);subst Gr;by_cases hs2:sn=true;rotate_left
     ·have qml:sn=false:=by simpa using hs2
      have CV:Hid (qJ (vh wr w1.heap.size tg ⟨true,A7,c7,L⟩) w1.heap.size (X'.set tg ⟨true,A7,c7,L⟩)):=zH (HO.out.put jv H7.out);have hcf:ZT (zy m.classes) (zx (X'.map zg.shp) (tg:Int)) L L true:=Sr (by rw[kA.out];exact qml) HST.out.2.1;have Cs:Hid (YA m f ((X'.set tg ⟨true,A7,c7,L⟩).map zg.shp)):=zH (by rw[Wd];exact gI.out.put (J:=L) (by rw[Xm];exact jv) (by rw[Xm];exact q30) iX.out qO.out HST.out.1 aX.out hcf (by omega) HST.out.2.2 Yj.out HSG.out);have dG:Hid (qx (zy m.classes).length ((X'.set tg ⟨true,A7,c7,L⟩).map zg.shp)<=Rk/\(true=true->qx (zy m.classes).length ((X'.set tg ⟨true,A7,c7,L⟩).map zg.shp)<Rk)):=zH (by
       have h1:qx (zy m.classes).length ((X'.set tg ⟨true,A7,c7,L⟩).map zg.shp)<qx (zy m.classes).length (X'.map zg.shp):=by rw[Wd];exact KQ (by rw[Xm];exact jv) hcf (by omega)
       have h2:=YI.out.1;exact⟨by omega,fun _=>by omega⟩)
      have OP:Hid (Qo ((X'.set tg ⟨true,A7,c7,L⟩).map zg.shp) y.stack.length):=zH (by rw[Wd];exact Yj.out.put (by rw[Xm];exact jv) hcf);clear hcf;have OI:Hid ((zx ((X'.set tg ⟨true,A7,c7,L⟩).map zg.shp) (j:Int)).seen=true):=zH (by rw[Wd,pQ (by rw[Xm];exact jv)];exact UO rfl iX.out);have CZ:Hid (Below w1.heap.size w1 (vh wr w1.heap.size tg ⟨true,A7,c7,L⟩)):=zH ((HX.out.setCell (p:=⟨w1.heap.size,tg*2,none⟩) (zn _) _).setCell (p:=⟨w1.heap.size,tg*2+1,none⟩) (zn _) _);have sK:(vh wr w1.heap.size tg ⟨true,A7,c7,L⟩).heap.size=wr.heap.size:=by simp[vh]
      have CP:Hid (zd zf 2 (vh wr w1.heap.size tg ⟨true,A7,c7,L⟩) (vh wr w1.heap.size tg ⟨true,A7,c7,L⟩).heap.size A7 c7 L):=zH (pM H7.out (by rw[sK];exact zn _) (y9 _ _ _ _) (fun i hi=>HO.out.ty_apart H7.out hi));have Ci:Hid (zd zu 1 (vh wr w1.heap.size tg ⟨true,A7,c7,L⟩) (vh wr w1.heap.size tg ⟨true,A7,c7,L⟩).heap.size (some bq) c8 NL):=zH (TY H8.out (by rw[sK];exact zn _) (y9 _ _ _ _) (fun i hi=>HO.out.int_apart H8.out hi));clear sK;go_wp2_with fail
      go_roundw;case rel=>exact⟨q+1,true,X'.set tg ⟨true,A7,c7,L⟩,by omega,by go_num,rfl,by rw[XH];exact Gf,CV,Cs,CZ,CP,Ci,OI,OP,zH (fun g=>by cases g),dG⟩
      case measure=>(simp[intOf];try omega)
     have hsz:=HX.out.size;by_cases hll:JC.length=L.length;rotate_left
     ·have hnl:((JC.length:Int) !=(L.length:Int))=true:=XP.mpr (by omega);have HBAD:Hid (∀R,vL m f R=false):=zH (gI.out.low.noneR (by rw[Xm];exact jv) HST.out.1 aX.out (Uo (by rw[kA.out];exact hs2) (by rw[kA.out];show ¬L.length=JC.length;omega)));go_wp2_with fail
      go_ret2
      exact IB (HW.out.trans (HX.out.mono (Xg HZ.out))) HBAD.out
     have hnl:((JC.length:Int) !=(L.length:Int))=false:=X7.mpr (by omega);have hl1:=H7.out.le;have hl2:=H7.out.cap;obtain⟨ti,hti,ht0,ht1,ht2⟩:=jJ bM;go_wp2_with fail
     clear c0 c1 Cm BV v0;obtain⟨wo,hwo⟩:∃W,W=wr:=⟨_,rfl⟩
     subst hwo;go_loopw [16,17] (fun v i wr=>∃(jj:Nat) (BT:List (Int×Int)),jj<=L.length/\i= .int .i64 jj/\BT.length=jj/\Hid (wr.ownsRow wo.heap.size 45 2 v jj (zN BT))/\Hid (Below wo.heap.size wo wr)/\Hid (BT=((JC.zip L).take jj).map (fun p=>kr (zy m.classes) p.1 p.2)/\∀t ∈BT,¬t.1=0)) (fun _ i _=>L.length - (intOf i).toNat)
     case atStart=>exact⟨0,[],Xn _,rfl,rfl,zH (bJ wo _ 2),zH (zk),zH ⟨by simp,fun t ht=>by simp at ht⟩⟩
     case round=>
      obtain⟨jj,BT,hjj,rfl,hBT,NV,HV,tO⟩:=hrel;have qmi:=HV.out.size;have hX1:=HX.out.trans (HV.out.mono hsz);have sG:=zH hX1;by_cases OG:jj<L.length
      ·have hjs:jj<JC.length:=by omega
       obtain⟨VR,e5,su,s0,s1⟩:=(jP zf.keeps Fw.out HV.out).row.at_ hjs;obtain⟨sQ,e7,q2a,t0,t1⟩:=(jP zf.keeps H7.out HV.out).row.at_ OG;have d1:=(HO.out.keep HV.out).stack_at jv;rw[hyX.out]at d1;dsimp only at d1;subst e5 e7;obtain⟨u,hu⟩:=zj (JC[jj]);obtain⟨v,hv⟩:=zj (L[jj]);have NW:Hid (((JC.zip L).take (jj+1)).map (fun p=>kr (zy m.classes) p.1 p.2)=BT++[kr (zy m.classes) u v]):=zH (by rw[q82 hjs OG,hu,hv,<-tO.out.1]);have xn:Hid ((kr (zy m.classes) u v).1=0->∀R,vL m f R=false):=zH (fun z=>gI.out.low.noneR (by rw[Xm];exact jv) HST.out.1 aX.out (q9g (i:=jj) (by rw[kA.out];exact hs2) (by rw[kA.out];exact hjs) OG (gI.out.low.self _ (eF (by rw[Xm];exact jv))) HST.out.2.1 (by simp only[kA.out];rw[hu,hv];exact z)));rw[hu]at s0 s1;rw[hv]at t0 t1;clear hu hv;have dV:=zH ((HO.out.keep HV.out).blk.lt);have Cr:Hid (∀W,Below wr.heap.size wr W->(fun w'=>w'.cell? ⟨w.heap.size,0,none⟩=some (.slice A0 m.classes.length k0)/\w'.cell? ⟨w1.heap.size,tg*2+1,none⟩=some (.slice (some VR) JC.length cy)/\w'.cell? (VR.add (jj*2))=some (.int .i64 u.1)/\w'.cell? (zc (VR.add (jj*2)) 1)=some (.int .i64 u.2)/\w'.cell? (sQ.add (jj*2))=some (.int .i64 v.1)/\w'.cell? (zc (sQ.add (jj*2)) 1)=some (.int .i64 v.2)) W):=zH (fun W hW=>by
        obtain⟨d0,_⟩:=HBX.out.keep (sG.out.trans (hW.mono sG.out.size)) HZ.out;exact⟨d0,(hW.cell (p:=⟨w1.heap.size,tg*2+1,none⟩) dV.out).trans d1,(hW.cell (p:=VR.add (jj*2)) (by exact zZ su)).trans s0,(hW.cell (p:=zc (VR.add (jj*2)) 1) (by show(VR.add _).block<_;rw[zC];exact su)).trans s1,
         (hW.cell (p:=sQ.add (jj*2)) (by exact zZ q2a)).trans t0,(hW.cell (p:=zc (sQ.add (jj*2)) 1) (by show(sQ.add _).block<_;rw[zC];exact q2a)).trans t1⟩)
       clear s0 s1 t0 t1 d1;obtain⟨⟨jk,jn⟩,hjr⟩:∃r,qu (zy m.classes) u.1 u.2 v.1 v.2=r:=⟨_,rfl⟩
       have He:=zH hjr;clear hjr hX1;have Ny:Hid (Below wr.heap.size wr wr.drew):=zH (zb _ _).drew;have ym:Hid (Below wr.heap.size wr (wr.alloc (.cells #[.int .i64 0,.int .i64 0] 45)).drew):=zH (zk).drew;go_wp2_with fail
       go_region_held3 (fun w'=>w'.cell? ⟨w.heap.size,0,none⟩=some (.slice A0 m.classes.length k0)/\w'.cell? ⟨w1.heap.size,tg*2+1,none⟩=some (.slice (some VR) JC.length cy)/\w'.cell? (VR.add (jj*2))=some (.int .i64 u.1)/\w'.cell? (zc (VR.add (jj*2)) 1)=some (.int .i64 u.2)/\w'.cell? (sQ.add (jj*2))=some (.int .i64 v.1)/\w'.cell? (zc (sQ.add (jj*2)) 1)=some (.int .i64 v.2)) (first|exact Cr.out _ Ny.out|exact Cr.out _ ym.out|exact Cr.out _ ul.out|exact Cr.out _ (ul.out.alloc ul.out.size _)|exact Cr.out _ ((ul.out.setCell (p:=⟨wr.heap.size,0,none⟩) (zn _) _).setCell (p:=⟨wr.heap.size,1,none⟩) (zn _) _)) (first
        |(go_at_call 93;(first|((with_reducible refine(UW HI sG Ny (zH hcl) He).mono ?_);have HYW:=Ny)|((with_reducible refine(UW HI sG ym (zH hcl) He).mono ?_);have HYW:=ym));rintro e w9 ⟨rfl,hb⟩;have ul:=zi HYW hb;(first|(have hq:=zm.keep (show zm (wr.alloc (.cells #[.int .i64 0,.int .i64 0] 45)).drew wr.heap.size [.int .i64 0,.int .i64 0] 45 from zm.new wr _ _) hb (by simp))|(have hq:=Xs));(first|(have f0:=hq.free 0;have f1:=hq.free 1;have r0:=hq.cells 0 _ rfl;have r1:=hq.cells 1 _ rfl)|skip);have Ce:=zH hq;clear hq hb))
       all_goals
        first
         |(have YG:Hid (zm ((w9.setCell ⟨wr.heap.size,0,none⟩ (.int .i64 jk)).setCell ⟨wr.heap.size,1,none⟩ (.int .i64 jn)) wr.heap.size [.int .i64 jk,.int .i64 jn] 45):=zH ((Ce.out.set 0 (.int .i64 jk)).set 1 (.int .i64 jn));have qM:Hid (Below wr.heap.size wr ((w9.setCell ⟨wr.heap.size,0,none⟩ (.int .i64 jk)).setCell ⟨wr.heap.size,1,none⟩ (.int .i64 jn))):=zH ((ul.out.setCell (p:=⟨wr.heap.size,0,none⟩) (zn _) (.int .i64 jk)).setCell (p:=⟨wr.heap.size,1,none⟩) (zn _) (.int .i64 jn));generalize((w9.setCell ⟨wr.heap.size,0,none⟩ (.int .i64 jk)).setCell ⟨wr.heap.size,1,none⟩ (.int .i64 jn))=w5 at*)
         |(have YG:=zH (zm.new w9 [.int .i64 jk,.int .i64 jn] 45);have qM:Hid (Below wr.heap.size wr (w9.alloc (.cells #[.int .i64 jk,.int .i64 jn] 45))):=zH (ul.out.alloc ul.out.size _);change Exit.then _ _ _ _ (w9.alloc (.cells #[.int .i64 jk,.int .i64 jn] 45));generalize w9.alloc (.cells #[.int .i64 jk,.int .i64 jn] 45)=w5 at*)
        have hz5:=qM.out.size;have b0:=YG.out.cells 0 _ rfl;have b1:=YG.out.cells 1 _ rfl;have Vk:=zH (Yr NV.out qM.out (vA NV.out));have HV5:=zH (HV.out.trans (qM.out.mono qmi));have hzv:=HV5.out.size;by_cases hk0:jk=0
        ·have hke:(jk==0)=true:=XX.mpr hk0;have HBAD:Hid (∀R,vL m f R=false):=zH (xn.out (by unfold kr;rw[He.out];exact hk0));go_wp2_with fail
         go_ret2
         exact IB (HW.out.trans ((zD sG qM).mono (Xg HZ.out))) HBAD.out
        ·have hke:(jk==0)=false:=XG.mpr hk0;have oL:Hid (BT++[(jk,jn)]=((JC.zip L).take (jj+1)).map (fun p=>kr (zy m.classes) p.1 p.2)/\∀t ∈BT++[(jk,jn)],¬t.1=0):=zH ⟨by rw[NW.out];unfold kr;rw[He.out],fun t ht=>by
          rcases Xu.mp ht with z|z
          ·exact tO.out.2 t z
          ·rw[XR.mp z];exact hk0⟩
         go_wp2_with(at_builtin;refine Zv rfl _ _ 24 rfl wo.heap.size 45 ti (.agg #[.int .i64 0,.int .i64 0]) 2 16 Tryz.underlying24 hti ht0 ht1 ht2 rfl (by decide) _ jj (zN BT) rfl (Vk.out.alloc _) (some ⟨w5.heap.size,0,none⟩) 1 1 _ (zN [(jk,jn)]) rfl rfl (qh5 (by simp) (by go_simp) (by go_simp)) (QM _) (by unfold maxLen;omega) (by omega) (by simp;omega) ?_;intro v6 w6 hown hgrow;have HX6:=zH (jx (HV5.out.alloc hzv _) (Vk.out.alloc _) (by simp;omega) hgrow);have HO6:=zH hown;clear hown hgrow)
         go_roundw;case rel=>exact⟨jj+1,BT++[(jk,jn)],by omega,by go_num,by rw[Xh,hBT];rfl,zH (by show World.ownsRow _ _ _ _ _ _ ((BT++[(jk,jn)]).flatMap tyC);rw[Wa];exact HO6.out),HX6,oL⟩
         case measure=>(simp[intOf];try omega)
      ·have xV:jj=L.length:=by omega
       have hbj:BT=YX (zy m.classes) JC L:=by
        have:=tO.out.1;rw[XA (by rw[List.length_zip];omega)]at this;exact this
       have hcj:=qeg (sup:=zy m.classes) (s:=zx (X'.map zg.shp) (tg:Int)) (st:=L) (by rw[kA.out];exact hs2) (by rw[kA.out];exact hll) (gI.out.low.self _ (eF (by rw[Xm];exact jv))) HST.out.2.1 (gI.out.nul _ (eF (by rw[Xm];exact jv))) HST.out.2.2 (by simp only[kA.out];rw[<-hbj];exact tO.out.2);simp only[kA.out]at hcj;rw[<-hbj]at hcj;have MQ:Hid ((∀gr:Bool,(gr=false->BT=JC)->(gr=true->¬BT=JC)->ZT (zy m.classes) (zx (X'.map zg.shp) (tg:Int)) L BT gr)/\ku BT):=zH (by rw[kA.out];exact hcj);clear hbj hcj tO;subst hBT;have Mm:=zH (HO.out.keep HV.out);have H7X:=zH (jP zf.keeps H7.out HV.out);have H8X:=zH (jP zu.keeps H8.out HV.out);have HZX:=zH (jP zf.keeps Fw.out HV.out);obtain⟨Zi,cb,rfl,hsb,_⟩:=Yq NV.out;have QV:=zH hsb;have c1:=Mm.out.stack_at jv;rw[hyX.out]at c1;dsimp only at c1;obtain⟨r,hr⟩:=zj (decide (BT=JC));have HR:=zH hr;clear hr hsb hX1;cases r
       ·go_upto_region 35 with(go_at_call 28;(with_reducible refine(UQ QV HZX xV hll HR).mono ?_);rintro e w9 ⟨rfl,hb⟩;have QY:=zH hb;clear hb)
        clear HO H7 H8 HX;have HO:=zH (Mm.out.keep QY.out);have H7:=zH (jP zf.keeps H7X.out QY.out);have H8:=zH (jP zu.keeps H8X.out QY.out);have HX:=zH (zD sG QY);have qli:=zH (jP zf.keeps QV.out QY.out);have Cm:=HO.out.blk.free (tg*2);have BV:=HO.out.blk.free (tg*2+1);have c0:=HO.out.seen_at jv;have c1:=HO.out.stack_at jv;have CV:Hid (qJ (vh w9 w1.heap.size tg ⟨true,Zi,cb,BT⟩) w1.heap.size (X'.set tg ⟨true,Zi,cb,BT⟩)):=zH (HO.out.put jv qli.out);have hcf:ZT (zy m.classes) (zx (X'.map zg.shp) (tg:Int)) L BT true:=MQ.out.1 true (fun e=>by cases e) (fun _=>Wi HR.out);have Cs:Hid (YA m f ((X'.set tg ⟨true,Zi,cb,BT⟩).map zg.shp)):=zH (by rw[Wd];exact gI.out.put (J:=BT) (by rw[Xm];exact jv) (by rw[Xm];exact q30) iX.out qO.out HST.out.1 aX.out hcf (by omega) MQ.out.2 Yj.out HSG.out);have dG:Hid (qx (zy m.classes).length ((X'.set tg ⟨true,Zi,cb,BT⟩).map zg.shp)<=Rk/\(true=true->qx (zy m.classes).length ((X'.set tg ⟨true,Zi,cb,BT⟩).map zg.shp)<Rk)):=zH (by
         have h1:qx (zy m.classes).length ((X'.set tg ⟨true,Zi,cb,BT⟩).map zg.shp)<qx (zy m.classes).length (X'.map zg.shp):=by rw[Wd];exact KQ (by rw[Xm];exact jv) hcf (by omega)
         have h2:=YI.out.1;exact⟨by omega,fun _=>by omega⟩)
        have OP:Hid (Qo ((X'.set tg ⟨true,Zi,cb,BT⟩).map zg.shp) y.stack.length):=zH (by rw[Wd];exact Yj.out.put (by rw[Xm];exact jv) hcf);clear hcf;have OI:Hid ((zx ((X'.set tg ⟨true,Zi,cb,BT⟩).map zg.shp) (j:Int)).seen=true):=zH (by rw[Wd,pQ (by rw[Xm];exact jv)];exact UO rfl iX.out);have CZ:Hid (Below w1.heap.size w1 (vh w9 w1.heap.size tg ⟨true,Zi,cb,BT⟩)):=zH ((HX.out.setCell (p:=⟨w1.heap.size,tg*2,none⟩) (zn _) _).setCell (p:=⟨w1.heap.size,tg*2+1,none⟩) (zn _) _);have sK:(vh w9 w1.heap.size tg ⟨true,Zi,cb,BT⟩).heap.size=w9.heap.size:=by simp[vh]
        have CP:Hid (zd zf 2 (vh w9 w1.heap.size tg ⟨true,Zi,cb,BT⟩) (vh w9 w1.heap.size tg ⟨true,Zi,cb,BT⟩).heap.size A7 c7 L):=zH (pM H7.out (by rw[sK];exact zn _) (y9 _ _ _ _) (fun i hi=>HO.out.ty_apart H7.out hi));have Ci:Hid (zd zu 1 (vh w9 w1.heap.size tg ⟨true,Zi,cb,BT⟩) (vh w9 w1.heap.size tg ⟨true,Zi,cb,BT⟩).heap.size (some bq) c8 NL):=zH (TY H8.out (by rw[sK];exact zn _) (y9 _ _ _ _) (fun i hi=>HO.out.int_apart H8.out hi));clear sK;go_wp2_with fail
        have CV:Hid (qJ ((w9.setCell ⟨w1.heap.size,tg*2,none⟩ (.bool true)).setCell ⟨w1.heap.size,tg*2+1,none⟩ (.slice Zi L.length cb)) w1.heap.size (X'.set tg ⟨true,Zi,cb,BT⟩)):=zH (by rw[<-xV];exact CV.out);have CZ:Hid (Below w1.heap.size w1 ((w9.setCell ⟨w1.heap.size,tg*2,none⟩ (.bool true)).setCell ⟨w1.heap.size,tg*2+1,none⟩ (.slice Zi L.length cb))):=zH (by rw[<-xV];exact CZ.out);have CP:Hid (zd zf 2 ((w9.setCell ⟨w1.heap.size,tg*2,none⟩ (.bool true)).setCell ⟨w1.heap.size,tg*2+1,none⟩ (.slice Zi L.length cb)) ((w9.setCell ⟨w1.heap.size,tg*2,none⟩ (.bool true)).setCell ⟨w1.heap.size,tg*2+1,none⟩ (.slice Zi L.length cb)).heap.size A7 c7 L):=zH (by rw[<-xV];exact CP.out);have Ci:Hid (zd zu 1 ((w9.setCell ⟨w1.heap.size,tg*2,none⟩ (.bool true)).setCell ⟨w1.heap.size,tg*2+1,none⟩ (.slice Zi L.length cb)) ((w9.setCell ⟨w1.heap.size,tg*2,none⟩ (.bool true)).setCell ⟨w1.heap.size,tg*2+1,none⟩ (.slice Zi L.length cb)).heap.size (some bq) c8 NL):=zH (by rw[<-xV];exact Ci.out);go_roundw;case rel=>exact⟨q+1,true,X'.set tg ⟨true,Zi,cb,BT⟩,by omega,by go_num,rfl,by rw[XH];exact Gf,CV,Cs,CZ,CP,Ci,OI,OP,zH (fun g=>by cases g),dG⟩
        case measure=>(simp[intOf];try omega)
       ·have HTF:Hid (t'=false->t=false/\X'=X/\∀n ∈NL.take (q+1),(zx (X.map zg.shp) n).seen=true/\zL (zy m.classes) L (zx (X.map zg.shp) n).stack):=zH (fun g=>Hu.out g (by rw[kA.out];exact hs2) (by rw[kA.out];show zL _ L JC;have hbs:BT=JC:=XD HR.out;have h1:=(MQ.out.1 false (fun _=>hbs) (fun e=>by cases e)).up;rw[hbs]at h1;exact h1));go_wp2_with(go_at_call 28;(with_reducible refine(UQ QV HZX xV hll HR).mono ?_);rintro e w9 ⟨rfl,hb⟩;have QY:=zH hb;clear hb)
        have xA:=zH (Mm.out.keep QY.out);have H79:=zH (jP zf.keeps H7X.out QY.out);have H89:=zH (jP zu.keeps H8X.out QY.out);have QU:=zH (zD sG QY);go_roundw;case rel=>exact⟨q+1,t',X',by omega,by go_num,rfl,Gf,xA,gI,QU,H79,H89,iX,Yj,HTF,YI⟩
        case measure=>(simp[intOf];try omega)
def q13(m:za)(w:World)(e:Ending)(w':World):Prop:=∃(A:Option Addr) (n c:Nat) (b:Int),e= .returned (.tuple #[.slice A n c,.int .i64 b])/\Below w.heap.size w w'/\
 (b<0->∃XS,n=m.methods.length/\XS.length=n/\w'.ownsRow w.heap.size 79 1 (.slice A n c) n (aN XS)/\YB w' (.slice A n c) XS/\(∀p ∈XS,w.heap.size<=p.1)/\∀(i:Nat) p,XS[i]? =some p->wO m (i:Int) (p.2.map zg.shp)/\Yx m (i:Int) (p.2.map zg.shp))/\
 (0<=b->∀a,bW m a=false)
theorem q4r{m:za}{x:zl}{f:Nat}{h:zh}{w0 w:World}(HI:Hid (zr w0 w0.heap.size h m))(HX:Hid (Below w0.heap.size w0 w))(HM:Hid (zP m))(HG:Hid (m.methods[f]? =some x)):
  Calls Tryz.prog 52 #[zv h m,.int .i64 f] w (KW m f w):=q3t m x f h w (HI.out.now HX.out) HM.out HG.out
set_option maxHeartbeats 3200000 in
theorem qc1(m:za)(h:zh)(w:World)(H:zr w w.heap.size h m)(hm:zP m)(hml:m.methods.length<=1000):
  Calls Tryz.prog 31 #[zv h m] w (q13 m w):=by
 obtain⟨i0,hi,hz0,hz1,hz2⟩:=jJ P9;have HW:=zH (zk (w:=w) (o:=(ze h m)));have HI:=zH (H.now HW.out);have HM:=zH hm;have HBX:=zH (qd w h m);have HZ:Hid (w.heap.size<(w.alloc (ze h m)).heap.size):=zH (by simp);clear H hm;go_enter Tryz.func31,Tryz.ntmps31;go_upto_region 1 with fail
 generalize w.alloc (ze h m)=w1 at*
 go_wp2_with fail
 go_loopw [4,5] (fun v i wr=>∃(k:Nat) (XS:List (Nat×List zg)),k<=m.methods.length/\i= .int .i64 k/\Hid (XS.length=k)/\Hid (wr.ownsRow w1.heap.size 79 1 v k (aN XS))/\Hid (Below w1.heap.size w1 wr)/\Hid (YB wr v XS)/\Hid (∀p ∈XS,w1.heap.size<=p.1)/\Hid (∀(i:Nat) p,XS[i]? =some p->wO m (i:Int) (p.2.map zg.shp)/\Yx m (i:Int) (p.2.map zg.shp))) (fun _ i _=>m.methods.length - (intOf i).toNat)
 case atStart=>exact⟨0,[],by omega,rfl,zH rfl,zH (gM w1 _),zH (zk),zH (YB.nil w1 _),(by grind [zH]),(by grind [zH])⟩
 case round=>
  obtain⟨k,XS,hk,rfl,HL,HO,HX,HE,HP,HF⟩:=hrel;obtain⟨q0,q1,q2,q3,q4,q5,q6⟩:=HBX.out.keep HX.out HZ.out;have hsz:=HX.out.size;by_cases hlt:k<m.methods.length
  ·obtain⟨x,hx⟩:∃x,m.methods[k]? =some x:=(by simp_all)
   have HG:=zH hx;clear hx;go_upto_region 6 with(go_at_call 52;(with_reducible refine(q4r HI HX HM HG).mono ?_);rintro e w4 ⟨ok,As,cs,S,rfl,hb,hgd,hno⟩;have HO4:=kpO HO hb;have HX4:=zi HX hb;have lm:=zH (HE.out.below (vA HO.out) hb);have iN:=zH hgd;have qz:=zH hno;have hsz4:=HX4.out.size;clear hb hgd hno)
   cases ok
   ·have HBAD:Hid (∀a,bW m a=false):=zH (PS hlt (qz.out rfl));go_wp2_with fail
    go_ret2
    exact⟨none,0,0,k,rfl,zD HW HX4,(fun q=>by omega),fun _=>HBAD.out⟩
   ·obtain⟨g,X,hA,hS,hc,hgb,hout,CY,q1i⟩:=iN.out rfl;clear iN qz;subst hA hS hc;have qX:Hid (∀p ∈XS,p.1<g):=zH (fun p hp=>Xp (HE.out.outs p hp).blk.lt hgb);have lh:Hid (∀b,Value.ownBlock u4=some b->b<g):=zH (fun b e=>Xp (vA HO.out b e) hgb);have HQ:=zH hout;have lG:=zH (And.intro CY q1i);have vz:Hid (w1.heap.size<=g):=zH (Xe hsz hgb);clear hout CY q1i hgb;simp only[Xm];go_wp2_with(at_builtin;refine SE rfl _ _ 35 rfl w1.heap.size 79 i0 24 Tryz.underlying35 hi hz0 hz1 hz2 _ k (aN XS) rfl (HO4.out.alloc _) (lm.out.dry.below (vA HO4.out) (zk)) ⟨w4.heap.size,0,none⟩ _ _ _ _ rfl (cell_one_new w4 _ _ 0 _ rfl) (by unfold maxLen;omega) (by omega) (by simp;omega) _ rfl ?_;intro g9 c9 w6 hown hgrow hor hlt9 CQ;have HX6:=zH (jx (HX4.out.alloc hsz4 _) (HO4.out.alloc _) (by simp;omega) hgrow);have HO6:=zH hown;have HE6:=zH ((lm.out.below (vA HO4.out) (zk)).snoc (HQ.out.keep (zk)) qX.out lh.out hgrow (hor.imp id (fun e=>Nat.le_of_eq e.symm)) CQ);clear hown hgrow hor CQ)
    go_roundw;case rel=>
     refine⟨k+1,XS++[(g,X)],by omega,by go_num,zH (by rw[Xh,HL.out];rfl),zH (by unfold aN;rw[Wc];exact HO6.out),HX6,HE6,zH (fun p hp=> ?_),zH (fun i p hi=> ?_)⟩
     ·rcases Xu.mp hp with q|q
      ·exact HP.out p q
      ·simp at q;subst q;exact vz.out
     ·rcases Xl i XS.length with q|q
      ·rw[XO q]at hi;exact HF.out i p hi
      ·rw[XN q]at hi;have hiz:i - XS.length=0:=by
        rcases Nat.eq_zero_or_pos (i - XS.length)with z|z
        ·exact z
        ·rw[XE (by simp;omega)]at hi;cases hi
       rw[hiz]at hi;simp at hi;subst hi;have hik:i=k:=by have:=HL.out;omega
       subst hik;exact lG.out
    case measure=>simp[intOf];omega
  ·have e:k=m.methods.length:=by omega
   subst e;obtain⟨Ae,ce,he⟩:∃A c,u4= .slice A m.methods.length c:=by
    rcases Je HO.out with⟨e1,hz⟩|⟨g,c,e1,_,_⟩
    ·exact⟨none,0,by rw[e1,hz]⟩
    ·exact⟨_,c,e1⟩
   subst he;go_wp2_with fail
   go_ret2
   exact⟨Ae,m.methods.length,ce,-1,rfl,zD HW HX,fun _=>⟨XS,rfl,HL.out,js HO.out HW.out.size,HE.out,fun p hp=>Xe HW.out.size (HP.out p hp),HF.out⟩,fun q=>by omega⟩
