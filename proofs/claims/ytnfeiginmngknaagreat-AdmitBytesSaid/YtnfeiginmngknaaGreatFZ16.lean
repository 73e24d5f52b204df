import Derived.Deep.DeepCutAuto
import Derived.Test.YtnfeiginmngknaaGreatFZ06
namespace Go.Proofs.YtnfeiginmngknaaGreat
set_option maxRecDepth 100000
set_option linter.unusedVariables false
set_option linter.unusedSimpArgs false
open Go.ChangeShapes Go.WideShapes Go.ChangeAt Go.RowKit
theorem lS{l m:List (Int×Int)}{A A':Option Addr}{cap cap' B:Nat}{w0 w:World}{r:Bool}(HL:Hid (zd zf 2 w0 B A cap l))(HM:Hid (zd zf 2 w0 B A' cap' m))(HB:Hid (B<=w0.heap.size))(HX:Hid (Below w0.heap.size w0 w))(HR:Hid (decide (l=m)=r)):
  Calls Tryz.prog 28 #[.slice A l.length cap,.slice A' m.length cap'] w fun e w'=>e= .returned (.bool r)/\Below w.heap.size w w':=by
 have h:=Ii l m A A' cap cap' B w (Xe HB.out HX.out.size) (HL.out.below_to zf.keeps HX.out HB.out) (HM.out.below_to zf.keeps HX.out HB.out);rw[HR.out]at h;exact h
theorem uG{l m:List Int}{A A':Option Addr}{cap cap' B:Nat}{w0 w:World}{r:Bool}(HL:Hid (zd zu 1 w0 B A cap l))(HM:Hid (zd zu 1 w0 B A' cap' m))(HB:Hid (B<=w0.heap.size))(HX:Hid (Below w0.heap.size w0 w))(HR:Hid (decide (l=m)=r)):
  Calls Tryz.prog 29 #[.slice A l.length cap,.slice A' m.length cap'] w fun e w'=>e= .returned (.bool r)/\Below w.heap.size w w':=by
 have h:=q3g l m A A' cap cap' B w (Xe HB.out HX.out.size) (HL.out.below_to zu.keeps HX.out HB.out) (HM.out.below_to zu.keeps HX.out HB.out);rw[HR.out]at h;exact h
theorem SS(w:World)(T:TypeId)(vs us:List Value):zQ ((w.alloc (.cells vs.toArray T)).alloc (.cells us.toArray T)).drew w.heap.size vs/\zQ ((w.alloc (.cells vs.toArray T)).alloc (.cells us.toArray T)).drew (w.heap.size+1) us/\
  Below w.heap.size w ((w.alloc (.cells vs.toArray T)).alloc (.cells us.toArray T)).drew/\w.heap.size<((w.alloc (.cells vs.toArray T)).alloc (.cells us.toArray T)).drew.heap.size/\w.heap.size+1<((w.alloc (.cells vs.toArray T)).alloc (.cells us.toArray T)).drew.heap.size:=by
 have z1:(w.alloc (.cells vs.toArray T)).heap.size=w.heap.size+1:=by simp
 have z2:((w.alloc (.cells vs.toArray T)).alloc (.cells us.toArray T)).drew.heap.size=w.heap.size+2:=by simp
 have hb:Below (w.heap.size+1) (w.alloc (.cells vs.toArray T)) ((w.alloc (.cells vs.toArray T)).alloc (.cells us.toArray T)).drew:=((zb _ _).alloc (by omega) _).drew;have h2:=qr (w.alloc (.cells vs.toArray T)) us T;rw[z1]at h2;exact⟨(qr w vs T).keep hb (by omega),h2,(zk).trans (hb.mono (by omega)),by omega,by omega⟩
theorem boxAB(w:World)(T:TypeId)(vs us:List Value):Hid (zQ ((w.alloc (.cells vs.toArray T)).alloc (.cells us.toArray T)).drew w.heap.size vs)/\Hid (zQ ((w.alloc (.cells vs.toArray T)).alloc (.cells us.toArray T)).drew (w.heap.size+1) us)/\Hid (Below w.heap.size w ((w.alloc (.cells vs.toArray T)).alloc (.cells us.toArray T)).drew)/\Hid (w.heap.size<((w.alloc (.cells vs.toArray T)).alloc (.cells us.toArray T)).drew.heap.size)/\Hid (w.heap.size+1<((w.alloc (.cells vs.toArray T)).alloc (.cells us.toArray T)).drew.heap.size):=
 have h:=SS w T vs us
 ⟨zH h.1,zH h.2.1,zH h.2.2.1,zH h.2.2.2.1,zH h.2.2.2.2⟩
theorem boxBA(w:World)(T:TypeId)(vs us:List Value):Hid (zQ ((w.alloc (.cells vs.toArray T)).alloc (.cells us.toArray T)).drew (w.heap.size+1) us)/\Hid (zQ ((w.alloc (.cells vs.toArray T)).alloc (.cells us.toArray T)).drew w.heap.size vs)/\Hid (Below w.heap.size w ((w.alloc (.cells vs.toArray T)).alloc (.cells us.toArray T)).drew)/\Hid (w.heap.size+1<((w.alloc (.cells vs.toArray T)).alloc (.cells us.toArray T)).drew.heap.size)/\Hid (w.heap.size<((w.alloc (.cells vs.toArray T)).alloc (.cells us.toArray T)).drew.heap.size):=
 have h:=SS w T vs us
 ⟨zH h.2.1,zH h.1,zH h.2.2.1,zH h.2.2.2.2,zH h.2.2.2.1⟩
theorem nE{r:Bool}{p:Prop}[Decidable p](E:Hid (r=decide p))(h:¬p):Hid (r=false):=zH (E.out.trans (Xf h))
theorem uJ{P:Prop}(h:P:=by
 go_wp2_with((first|(go_at_call 28;(with_reducible refine(lS bf q1v HB HX D1).mono ?_))|(go_at_call 28;(with_reducible refine(lS Zu q2i HB HX D2).mono ?_))|(go_at_call 29;(with_reducible refine(uG lc q25 HB HX D7).mono ?_)));rintro e w' ⟨rfl,hb⟩;have HX:=zi HX hb;have qK:=zi qK hb;obtain⟨VW,gu,uz,Ia,Ct,Gu,Hd,FC⟩:=qp (ak.out.keep qK.out dx.out);obtain⟨nZ,oF,tN,Fz,CX,Ht,GM,GG⟩:=qp (dA.out.keep qK.out lv.out);clear hb)
 go_ret;exact⟨by rw[E2.out];rfl,HW.out.trans (HX.out.mono HZ.out)⟩):P:=h
theorem uI{P:Prop}(h:P:=by
 go_wp2_with((first|(go_at_call 28;(with_reducible refine(lS qZ OZ HB HX H5).mono ?_))|(go_at_call 29;(with_reducible refine(uG Qi OT HB HX H6).mono ?_)));rintro e w' ⟨rfl,hb⟩;have HX:=zi HX hb;obtain⟨q0,q1,q2,q3,q4,q5,q6⟩:=yt.out.keep HX.out BQ.out;obtain⟨p0,p1,p2,p3,p4,p5,p6⟩:=sw.out.keep HX.out Cf.out;dsimp only at q0 q1 q2 q3 q4 q5 q6 p0 p1 p2 p3 p4 p5 p6;clear hb)
 go_ret;exact⟨by rw[E2.out];rfl,HW.out.trans (HX.out.mono HZ.out)⟩):P:=h
theorem Pt{P:Prop}(h:P:=by
 go_wp2_with((first|(go_at_call 28;(with_reducible refine(lS VY q1a HB HX D2).mono ?_))|(go_at_call 29;(with_reducible refine(uG az q2j HB HX D3).mono ?_)));rintro e w' ⟨rfl,hb⟩;have HX:=zi HX hb;have qK:=zi qK hb;obtain⟨VW,gu,uz⟩:=qv (ak.out.keep qK.out dx.out);obtain⟨nZ,oF,tN⟩:=qv (dA.out.keep qK.out lv.out);clear hb)
 go_ret;exact⟨by rw[E2.out];rfl,HW.out.trans (HX.out.mono HZ.out)⟩):P:=h
set_option maxHeartbeats 6400000 in
theorem qbm(a b:za)(ha hb:zh)(B:Nat)(w:World)(hB:B<=w.heap.size)(H:zr w B ha a)(H':zr w B hb b):
  Calls Tryz.prog 9 #[zv ha a,zv hb b] w fun e w'=>e= .returned (.bool (decide (a=b)))/\Below w.heap.size w w':=by
 obtain⟨r,hr⟩:=zj (decide (a=b));rw[hr];have E:=zH hr.symm;clear hr;obtain⟨ZI,dP,QJ,ZJ,dD,ask,aj⟩:=a;obtain⟨YH,tu,bin,YL,uk,lL,j3⟩:=b;have HWa:Below w.heap.size w (w.alloc (ze ha ⟨ZI,dP,QJ,ZJ,dD,ask,aj⟩)):=zk;have z1:(w.alloc (ze ha ⟨ZI,dP,QJ,ZJ,dD,ask,aj⟩)).heap.size=w.heap.size+1:=by simp
 have M3:Below (w.heap.size+1) (w.alloc (ze ha ⟨ZI,dP,QJ,ZJ,dD,ask,aj⟩)) ((w.alloc (ze ha ⟨ZI,dP,QJ,ZJ,dD,ask,aj⟩)).alloc (ze hb ⟨YH,tu,bin,YL,uk,lL,j3⟩)):=(zb _ _).alloc (by omega) _;have z2:((w.alloc (ze ha ⟨ZI,dP,QJ,ZJ,dD,ask,aj⟩)).alloc (ze hb ⟨YH,tu,bin,YL,uk,lL,j3⟩)).heap.size=w.heap.size+2:=by simp
 have HW:=zH (HWa.trans (M3.mono (by omega)));have yt:=zH ((qd w ha ⟨ZI,dP,QJ,ZJ,dD,ask,aj⟩).keep M3 (by omega));have sw:=zH (qd (w.alloc (ze ha ⟨ZI,dP,QJ,ZJ,dD,ask,aj⟩)) hb ⟨YH,tu,bin,YL,uk,lL,j3⟩);have dR:=zH (H.below_to HW.out hB);have dL:=zH (H'.below_to HW.out hB);rw[z1]at sw;have HZ2:=zH z2;clear HWa M3 z1 z2 H H';go_enter Tryz.func9,Tryz.ntmps9;go_upto_region 1 with fail
 generalize(w.alloc (ze ha ⟨ZI,dP,QJ,ZJ,dD,ask,aj⟩)).alloc (ze hb ⟨YH,tu,bin,YL,uk,lL,j3⟩)=w1 at*
 have BQ:Hid (w.heap.size<w1.heap.size):=zH (by rw[HZ2.out];omega);have Cf:Hid (w.heap.size+1<w1.heap.size):=zH (by rw[HZ2.out];omega);have HZ:Hid (w.heap.size<=w1.heap.size):=zH (by rw[HZ2.out];omega);have HB:Hid (B<=w1.heap.size):=zH (by rw[HZ2.out];omega);have HX:=qP w1;obtain⟨q0,q1,q2,q3,q4,q5,q6⟩:=yt.out;obtain⟨p0,p1,p2,p3,p4,p5,p6⟩:=sw.out;dsimp only at q0 q1 q2 q3 q4 q5 q6 p0 p1 p2 p3 p4 p5 p6;have qZ:=zH dR.out.statics;have OZ:=zH dL.out.statics;have Qi:=zH dR.out.entries;have OT:=zH dL.out.entries;have l0:=dR.out.classes.le;have BF:=dR.out.classes.cap;have l2:=dR.out.ints.le;have l2c:=dR.out.ints.cap;have l3:=dR.out.methods.le;have bz:=dR.out.methods.cap;have m0:=dL.out.classes.le;have m0c:=dL.out.classes.cap;have m2:=dL.out.ints.le;have m2c:=dL.out.ints.cap;have m3:=dL.out.methods.le;have Nv:=dL.out.methods.cap;dsimp only at qZ OZ Qi OT l0 l2 l3 m0 m2 m3;clear hB HZ2;obtain⟨d5,hd5⟩:∃d,decide (dP=tu)=d:=⟨_,rfl⟩
 have H5:=zH hd5;obtain⟨d6,hd6⟩:∃d,decide (dD=uk)=d:=⟨_,rfl⟩
 have H6:=zH hd6;clear hd5 hd6;by_cases c0:ZI.length=YH.length;rotate_left
 ·have c0t:((ZI.length:Int) !=(YH.length:Int))=true:=XP.mpr (by omega);have E2:=nE E fun g=>c0 (by rw[(za.mk.inj g).1]);exact uI
 have c0t:((ZI.length:Int) !=(YH.length:Int))=false:=X7.mpr (by omega);have Cc0:=zH c0;clear c0;by_cases c1:ZJ.length=YL.length;rotate_left
 ·have c1t:((ZJ.length:Int) !=(YL.length:Int))=true:=XP.mpr (by omega);have E2:=nE E fun g=>c1 (by rw[(za.mk.inj g).2.2.2.1]);exact uI
 have c1t:((ZJ.length:Int) !=(YL.length:Int))=false:=X7.mpr (by omega);have G9:=zH c1;clear c1;by_cases c2:QJ.length=bin.length;rotate_left
 ·have c2t:((QJ.length:Int) !=(bin.length:Int))=true:=XP.mpr (by omega);have E2:=nE E fun g=>c2 (by rw[(za.mk.inj g).2.2.1]);exact uI
 have c2t:((QJ.length:Int) !=(bin.length:Int))=false:=X7.mpr (by omega);have Hy:=zH c2;clear c2;by_cases c3:ask=lL;rotate_left
 ·have c3t:((ask:Int) !=(lL:Int))=true:=XP.mpr (by omega);have E2:=nE E fun g=>c3 (za.mk.inj g).2.2.2.2.2.1;exact uI
 have c3t:((ask:Int) !=(lL:Int))=false:=X7.mpr (by omega);have Oh:=zH c3;clear c3;by_cases c4:aj=j3;rotate_left
 ·have c4t:((aj:Int) !=(j3:Int))=true:=XP.mpr (by omega);have E2:=nE E fun g=>c4 (za.mk.inj g).2.2.2.2.2.2;exact uI
 have c4t:((aj:Int) !=(j3:Int))=false:=X7.mpr (by omega);have Cc4:=zH c4;clear c4;cases d5;have E2:=nE E fun g=>Wi H5.out (za.mk.inj g).2.1;rotate_left;cases d6;have E2:=nE E fun g=>Wi H6.out (za.mk.inj g).2.2.2.2.1;rotate_left;rotate_left;iterate 2
  ·exact uI
 go_wp2_with((first|(go_at_call 28;(with_reducible refine(lS qZ OZ HB HX H5).mono ?_))|(go_at_call 29;(with_reducible refine(uG Qi OT HB HX H6).mono ?_)));rintro e w' ⟨rfl,hb⟩;have HX:=zi HX hb;obtain⟨q0,q1,q2,q3,q4,q5,q6⟩:=yt.out.keep HX.out BQ.out;obtain⟨p0,p1,p2,p3,p4,p5,p6⟩:=sw.out.keep HX.out Cf.out;dsimp only at q0 q1 q2 q3 q4 q5 q6 p0 p1 p2 p3 p4 p5 p6;clear hb)
 go_loopw [5] (fun i wr=>∃k:Nat,k<=QJ.length/\i= .int .i64 k/\Hid (QJ.take k=bin.take k)/\Hid (Below w1.heap.size w1 wr)) (fun i _=>QJ.length - (intOf i).toNat)
 case atStart=>exact⟨0,by omega,rfl,zH (by simp),HX⟩
 case round=>
  clear HX q0 q1 q2 q3 q4 q5 q6 p0 p1 p2 p3 p4 p5 p6;obtain⟨k,hk,rfl,HN,HX⟩:=hrel;obtain⟨q0,q1,q2,q3,q4,q5,q6⟩:=yt.out.keep HX.out BQ.out;obtain⟨p0,p1,p2,p3,p4,p5,p6⟩:=sw.out.keep HX.out Cf.out;dsimp only at q0 q1 q2 q3 q4 q5 q6 p0 p1 p2 p3 p4 p5 p6;by_cases hlt:k<QJ.length
  ·have vS:k<bin.length:=by have:=Hy.out;omega
   obtain⟨ad,e0,hab,hc,_⟩:=(dR.out.ints.below_to Jt.keeps HX.out HB.out).row.at_ hlt;obtain⟨ad',dO,hab',hc',_⟩:=(dL.out.ints.below_to Jt.keeps HX.out HB.out).row.at_ vS;dsimp only at e0 dO hc hc';rw[e0]at q2;rw[dO]at p2;rw[Xq]at hc hc';clear e0 dO hab hab';have jc:=zH (fun g=>o9 hlt vS g);have kG:=zH (fun g=>pE hlt vS HN.out g);generalize QJ[k]=t at*
   generalize bin[k]=s at*
   have hc:wr.cell? (ad.add k)=some (.int .i32 t):=hc;have hc':wr.cell? (ad'.add k)=some (.int .i32 s):=hc';by_cases hx:t=s
   ·obtain rfl:=hx;have E2:=zH (kG.out rfl);go_wp2_with fail
    go_quiet (fail)
    go_wp2
    go_roundw;case rel=>exact⟨k+1,by omega,by go_num,E2,zH (jf HX.out _)⟩
    case measure=>simp[intOf];omega
   ·have E2:=nE E fun g=>jc.out hx (za.mk.inj g).2.2.1;go_wp2_with fail
    go_quiet (fail)
    go_wp2
    go_ret;exact⟨by rw[E2.out];rfl,HW.out.trans ((jf HX.out _).mono HZ.out)⟩
  ·have HI:=zH (oU (l:=QJ) (m:=bin) (Hy.out) k HN.out (by omega));clear HN;go_wp2_with fail
   go_loopw [6] (fun i wr=>∃k:Nat,k<=ZI.length/\i= .int .i64 k/\Hid (ZI.take k=YH.take k)/\Hid (Below w1.heap.size w1 wr)) (fun i _=>ZI.length - (intOf i).toNat)
   case atStart=>exact⟨0,by omega,rfl,zH (by simp),HX⟩
   case round=>
    clear HX q0 q1 q2 q3 q4 q5 q6 p0 p1 p2 p3 p4 p5 p6 hlt hk;obtain⟨k,hk,rfl,HN,HX⟩:=hrel;obtain⟨q0,q1,q2,q3,q4,q5,q6⟩:=yt.out.keep HX.out BQ.out;obtain⟨p0,p1,p2,p3,p4,p5,p6⟩:=sw.out.keep HX.out Cf.out;dsimp only at q0 q1 q2 q3 q4 q5 q6 p0 p1 p2 p3 p4 p5 p6;by_cases hlt:k<ZI.length
    ·have vS:k<YH.length:=by have:=Cc0.out;omega
     obtain⟨ad,e0,hab,hc⟩:=dR.out.classes.row.at_ hlt;obtain⟨ad',dO,hab',hc'⟩:=dL.out.classes.row.at_ vS;dsimp only at e0 dO hc hc';rw[e0]at q0;rw[dO]at p0;clear e0 dO;have jc:Hid (¬ZI[k]=YH[k]->¬(⟨ZI,dP,QJ,ZJ,dD,ask,aj⟩:za)=⟨YH,tu,bin,YL,uk,lL,j3⟩):=zH (fun g e=>by have g':=e;rw[za.mk.injEq]at g';exact o9 hlt vS g g'.1);have kG:=zH (fun g=>pE hlt vS HN.out g);generalize ZI[k]=x at*
     generalize YH[k]=y at*
     obtain⟨xs,xf,xl⟩:=x;obtain⟨ys,yf,yl⟩:=y;obtain⟨s0,⟨A1,k1,s1,hs1⟩,⟨A2,k2,s2,hs2⟩⟩:=hc;obtain⟨t0,⟨xk,k1',t1,ht1⟩,⟨A2',k2',t2,ht2⟩⟩:=hc';have hP:(ad.add (k*3)).block<w1.heap.size:=by rw[zC];exact Xp hab HB.out
     have hP':(ad'.add (k*3)).block<w1.heap.size:=by rw[zC];exact Xp hab' HB.out
     dsimp only at s0 s1 s2 t0 t1 t2 hs1 hs2 ht1 ht2;have s0:=(HX.out.cell hP).trans s0;have s1:=(HX.out.cell (p:=zc (ad.add (k*3)) 1) hP).trans s1;have s2:=(HX.out.cell (p:=zc (ad.add (k*3)) 2) hP).trans s2;have t0:=(HX.out.cell hP').trans t0;have t1:=(HX.out.cell (p:=zc (ad'.add (k*3)) 1) hP').trans t1;have t2:=(HX.out.cell (p:=zc (ad'.add (k*3)) 2) hP').trans t2;have VY:=zH hs1;have az:=zH hs2;have q1a:=zH ht1;have q2j:=zH ht2;obtain⟨d2,hd2⟩:∃d,decide (xf=yf)=d:=⟨_,rfl⟩
     have D2:=zH hd2;obtain⟨d3,hd3⟩:∃d,decide (xl=yl)=d:=⟨_,rfl⟩
     have D3:=zH hd3;clear hd2 hd3 hs1 hs2 ht1 ht2 hab hab' hP hP';go_upto_region 11 with fail
     go_cut [7,8] (fun s7 s8 wx=>∃g g':Nat,s7= .pointer (some ⟨g,0,none⟩)/\s8= .pointer (some ⟨g',0,none⟩)/\Hid (zQ wx g [.int .i64 xs,.slice A1 xf.length k1,.slice A2 xl.length k2])/\Hid (zQ wx g' [.int .i64 ys,.slice xk yf.length k1',.slice A2' yl.length k2'])/\Hid (Below wr.heap.size wr wx)/\Hid (g<wx.heap.size)/\Hid (g'<wx.heap.size))
     case first=>
      have e1:=World.new_ne wr _ q0;have e2:=World.new_ne wr _ p0;have e3:=World.new_ne wr _ s0;have e4:=World.new_ne wr _ t0;go_region_held3 (fun w'=>w'.cell? ⟨w.heap.size,0,none⟩=some (.slice (some ad) ZI.length ha.c0)/\w'.cell? ⟨w.heap.size+1,0,none⟩=some (.slice (some ad') YH.length hb.c0)/\w'.cell? (ad.add (k*3))=some (.int .i64 xs)/\w'.cell? (zc (ad.add (k*3)) 1)=some (.slice A1 xf.length k1)/\w'.cell? (zc (ad.add (k*3)) 2)=some (.slice A2 xl.length k2)/\w'.cell? (ad'.add (k*3))=some (.int .i64 ys)/\w'.cell? (zc (ad'.add (k*3)) 1)=some (.slice xk yf.length k1')/\w'.cell? (zc (ad'.add (k*3)) 2)=some (.slice A2' yl.length k2')) (go_keep) (first|fail)
      all_goals
       go_wp2_with fail
       go_meet
       first
        |exact⟨_,_,rfl,rfl,boxAB wr 60 _ _⟩
        |exact⟨_,_,rfl,rfl,boxBA wr 60 _ _⟩
     case rest=>
      obtain⟨g,g',rfl,rfl,ak,dA,lw,dx,lv⟩:=hcut;have HX:=zH (zD HX lw);have qK:=zH (zb wc.heap.size wc);clear lw s0 s1 s2 t0 t1 t2 q0 q1 q2 q3 q4 q5 q6 p0 p1 p2 p3 p4 p5 p6;obtain⟨VW,gu,uz⟩:=qv (ak.out.keep qK.out dx.out);obtain⟨nZ,oF,tN⟩:=qv (dA.out.keep qK.out lv.out);by_cases cs:xs=ys;rotate_left
      ·have cst:((xs:Int) !=(ys:Int))=true:=XP.mpr (by omega);have E2:=nE E (jc.out fun g=>cs (zW.mk.inj g).1);exact Pt
      have cst:((xs:Int) !=(ys:Int))=false:=X7.mpr (by omega);have Ccs:=zH cs;clear cs;cases d2;have E2:=nE E (jc.out fun g=>Wi D2.out (zW.mk.inj g).2.1);rotate_left;cases d3;have E2:=nE E (jc.out fun g=>Wi D3.out (zW.mk.inj g).2.2);rotate_left;rotate_left;iterate 2
       ·exact Pt
      have E2:=zH (kG.out (by rw[zW.mk.injEq];exact⟨Ccs.out,XD D2.out,XD D3.out⟩));go_wp2_with((first|(go_at_call 28;(with_reducible refine(lS VY q1a HB HX D2).mono ?_))|(go_at_call 29;(with_reducible refine(uG az q2j HB HX D3).mono ?_)));rintro e w' ⟨rfl,hb⟩;have HX:=zi HX hb;have qK:=zi qK hb;obtain⟨VW,gu,uz⟩:=qv (ak.out.keep qK.out dx.out);obtain⟨nZ,oF,tN⟩:=qv (dA.out.keep qK.out lv.out);clear hb)
      go_roundw;case rel=>exact⟨k+1,by omega,by go_num,E2,HX⟩
      case measure=>simp[intOf];omega
    ·have Qe:=zH (oU (l:=ZI) (m:=YH) (Cc0.out) k HN.out (by omega));clear HN;go_wp2_with fail
     go_loopw [9] (fun i wr=>∃k:Nat,k<=ZJ.length/\i= .int .i64 k/\Hid (ZJ.take k=YL.take k)/\Hid (Below w1.heap.size w1 wr)) (fun i _=>ZJ.length - (intOf i).toNat)
     case atStart=>exact⟨0,by omega,rfl,zH (by simp),HX⟩
     case round=>
      clear HX q0 q1 q2 q3 q4 q5 q6 p0 p1 p2 p3 p4 p5 p6 hlt hk;obtain⟨k,hk,rfl,HN,HX⟩:=hrel;obtain⟨q0,q1,q2,q3,q4,q5,q6⟩:=yt.out.keep HX.out BQ.out;obtain⟨p0,p1,p2,p3,p4,p5,p6⟩:=sw.out.keep HX.out Cf.out;dsimp only at q0 q1 q2 q3 q4 q5 q6 p0 p1 p2 p3 p4 p5 p6;by_cases hlt:k<ZJ.length
      ·have vS:k<YL.length:=by have:=G9.out;omega
       obtain⟨ad,e0,hab,hc⟩:=dR.out.methods.row.at_ hlt;obtain⟨ad',dO,hab',hc'⟩:=dL.out.methods.row.at_ vS;dsimp only at e0 dO hc hc';rw[e0]at q3;rw[dO]at p3;clear e0 dO;have jc:Hid (¬ZJ[k]=YL[k]->¬(⟨ZI,dP,QJ,ZJ,dD,ask,aj⟩:za)=⟨YH,tu,bin,YL,uk,lL,j3⟩):=zH (fun g e=>by have g':=e;rw[za.mk.injEq]at g';exact o9 hlt vS g g'.2.2.2.1);have kG:=zH (fun g=>pE hlt vS HN.out g);generalize ZJ[k]=x at*
       generalize YL[k]=y at*
       obtain⟨xa,xl,⟨ja,jo⟩,xc,xd,xp,xh⟩:=x;obtain⟨ya,yl,⟨BO,FQ⟩,yc,yd,yp,yh⟩:=y;obtain⟨⟨A0,k0,s0,hs0⟩,⟨A1,k1,s1,hs1⟩,s2,s3,⟨A4,k4,s4,hs4⟩,s5,s6,⟨A7,k7,s7,hs7⟩⟩:=hc;obtain⟨⟨A0',k0',t0,ht0⟩,⟨xk,k1',t1,ht1⟩,t2,t3,⟨Gn,k4',t4,Bt⟩,t5,t6,⟨A7',k7',t7,Nk⟩⟩:=hc';have hP:(ad.add (k*8)).block<w1.heap.size:=by rw[zC];exact Xp hab HB.out
       have hP':(ad'.add (k*8)).block<w1.heap.size:=by rw[zC];exact Xp hab' HB.out
       dsimp only at s0 s1 s2 s3 s4 s5 s6 s7 t0 t1 t2 t3 t4 t5 t6 t7 hs0 hs1 hs4 hs7 ht0 ht1 Bt Nk;have s0:=(HX.out.cell hP).trans s0;have s1:=(HX.out.cell (p:=zc (ad.add (k*8)) 1) hP).trans s1;have s2:=(HX.out.cell (p:=zc (ad.add (k*8)) 2) hP).trans s2;have s3:=(HX.out.cell (p:=zc (ad.add (k*8)) 3) hP).trans s3;have s4:=(HX.out.cell (p:=zc (ad.add (k*8)) 4) hP).trans s4;have s5:=(HX.out.cell (p:=zc (ad.add (k*8)) 5) hP).trans s5;have s6:=(HX.out.cell (p:=zc (ad.add (k*8)) 6) hP).trans s6;have s7:=(HX.out.cell (p:=zc (ad.add (k*8)) 7) hP).trans s7;have t0:=(HX.out.cell hP').trans t0;have t1:=(HX.out.cell (p:=zc (ad'.add (k*8)) 1) hP').trans t1;have t2:=(HX.out.cell (p:=zc (ad'.add (k*8)) 2) hP').trans t2;have t3:=(HX.out.cell (p:=zc (ad'.add (k*8)) 3) hP').trans t3;have t4:=(HX.out.cell (p:=zc (ad'.add (k*8)) 4) hP').trans t4;have t5:=(HX.out.cell (p:=zc (ad'.add (k*8)) 5) hP').trans t5;have t6:=(HX.out.cell (p:=zc (ad'.add (k*8)) 6) hP').trans t6;have t7:=(HX.out.cell (p:=zc (ad'.add (k*8)) 7) hP').trans t7;have bk1:=hs4.le;have bk2:=hs4.cap;have bm1:=Bt.le;have bm2:=Bt.cap;have bf:=zH hs0;have Zu:=zH hs1;have HSc:=zH hs4;have lc:=zH hs7;have q1v:=zH ht0;have q2i:=zH ht1;have qko:=zH Bt;have q25:=zH Nk;obtain⟨d1,hd1⟩:∃d,decide (xa=ya)=d:=⟨_,rfl⟩
       have D1:=zH hd1;obtain⟨d2,hd2⟩:∃d,decide (xl=yl)=d:=⟨_,rfl⟩
       have D2:=zH hd2;obtain⟨d7,hd7⟩:∃d,decide (xh=yh)=d:=⟨_,rfl⟩
       have D7:=zH hd7;clear hd1 hd2 hd7 hs0 hs1 hs4 hs7 ht0 ht1 Bt Nk hab hab' hP hP';go_upto_region 17 with fail
       go_cut [10,11] (fun s7 s8 wx=>∃g g':Nat,s7= .pointer (some ⟨g,0,none⟩)/\s8= .pointer (some ⟨g',0,none⟩)/\Hid (zQ wx g [.slice A0 xa.length k0,.slice A1 xl.length k1,.int .i64 ja,.int .i64 jo,.slice A4 xc.length k4,.int .i64 xd,.int .i64 xp,.slice A7 xh.length k7])/\Hid (zQ wx g' [.slice A0' ya.length k0',.slice xk yl.length k1',.int .i64 BO,.int .i64 FQ,.slice Gn yc.length k4',.int .i64 yd,.int .i64 yp,.slice A7' yh.length k7'])/\Hid (Below wr.heap.size wr wx)/\Hid (g<wx.heap.size)/\Hid (g'<wx.heap.size))
       case first=>
        have e1:=World.new_ne wr _ q3;have e2:=World.new_ne wr _ p3;have e3:=World.new_ne wr _ s0;have e4:=World.new_ne wr _ t0;go_region_held3 (fun w'=>w'.cell? ⟨w.heap.size,3,none⟩=some (.slice (some ad) ZJ.length ha.c3)/\w'.cell? ⟨w.heap.size+1,3,none⟩=some (.slice (some ad') YL.length hb.c3)/\w'.cell? (ad.add (k*8))=some (.slice A0 xa.length k0)/\w'.cell? (zc (ad.add (k*8)) 1)=some (.slice A1 xl.length k1)/\w'.cell? (zc (ad.add (k*8)) 2)=some (.int .i64 ja)/\w'.cell? (zc (ad.add (k*8)) 3)=some (.int .i64 jo)/\w'.cell? (zc (ad.add (k*8)) 4)=some (.slice A4 xc.length k4)/\w'.cell? (zc (ad.add (k*8)) 5)=some (.int .i64 xd)/\w'.cell? (zc (ad.add (k*8)) 6)=some (.int .i64 xp)/\w'.cell? (zc (ad.add (k*8)) 7)=some (.slice A7 xh.length k7)/\w'.cell? (ad'.add (k*8))=some (.slice A0' ya.length k0')/\w'.cell? (zc (ad'.add (k*8)) 1)=some (.slice xk yl.length k1')/\w'.cell? (zc (ad'.add (k*8)) 2)=some (.int .i64 BO)/\w'.cell? (zc (ad'.add (k*8)) 3)=some (.int .i64 FQ)/\w'.cell? (zc (ad'.add (k*8)) 4)=some (.slice Gn yc.length k4')/\w'.cell? (zc (ad'.add (k*8)) 5)=some (.int .i64 yd)/\w'.cell? (zc (ad'.add (k*8)) 6)=some (.int .i64 yp)/\w'.cell? (zc (ad'.add (k*8)) 7)=some (.slice A7' yh.length k7')) (go_keep) (first|fail)
        all_goals
         go_wp2_with fail
         go_meet
         first
          |exact⟨_,_,rfl,rfl,boxAB wr 48 _ _⟩
          |exact⟨_,_,rfl,rfl,boxBA wr 48 _ _⟩
       case rest=>
        obtain⟨g,g',rfl,rfl,ak,dA,lw,dx,lv⟩:=hcut;have HX:=zH (zD HX lw);have qK:=zH (zb wc.heap.size wc);clear lw s0 s1 s2 s3 s4 s5 s6 s7 t0 t1 t2 t3 t4 t5 t6 t7 q0 q1 q2 q3 q4 q5 q6 p0 p1 p2 p3 p4 p5 p6;obtain⟨VW,gu,uz,Ia,Ct,Gu,Hd,FC⟩:=qp (ak.out.keep qK.out dx.out);obtain⟨nZ,oF,tN,Fz,CX,Ht,GM,GG⟩:=qp (dA.out.keep qK.out lv.out);cases d1;have E2:=nE E (jc.out fun g=>Wi D1.out (zl.mk.inj g).1);rotate_left;cases d2;have E2:=nE E (jc.out fun g=>Wi D2.out (zl.mk.inj g).2.1);rotate_left;rotate_left;iterate 2
         ·exact uJ
        by_cases hret:ja=BO/\jo=FQ;rotate_left
        ·have E2:=nE E (jc.out fun g=>by have j2:=(zl.mk.inj g).2.2.1;simp at j2;exact hret j2);have qE:¬ja=BO\/(ja=BO/\¬jo=FQ):=by omega
         rcases qE with qE|⟨rfl,qE⟩
         all_goals
          exact uJ
        obtain⟨rfl,rfl⟩:=hret;by_cases c8:xc.length=yc.length;rotate_left
        ·have c8t:((xc.length:Int) !=(yc.length:Int))=true:=XP.mpr (by omega);have E2:=nE E (jc.out fun g=>c8 (by rw[(zl.mk.inj g).2.2.2.1]));exact uJ
        have c8t:((xc.length:Int) !=(yc.length:Int))=false:=X7.mpr (by omega);have Cc8:=zH c8;clear c8;by_cases c9:xd=yd;rotate_left
        ·have c9t:((xd:Int) !=(yd:Int))=true:=XP.mpr (by omega);have E2:=nE E (jc.out fun g=>c9 (zl.mk.inj g).2.2.2.2.1);exact uJ
        have c9t:((xd:Int) !=(yd:Int))=false:=X7.mpr (by omega);have Cc9:=zH c9;clear c9;by_cases c10:xp=yp;rotate_left
        ·have qkl:((xp:Int) !=(yp:Int))=true:=XP.mpr (by omega);have E2:=nE E (jc.out fun g=>c10 (zl.mk.inj g).2.2.2.2.2.1);exact uJ
        have qkl:((xp:Int) !=(yp:Int))=false:=X7.mpr (by omega);have ql7:=zH c10;clear c10;cases d7
        ·have E2:=nE E (jc.out fun g=>Wi D7.out (zl.mk.inj g).2.2.2.2.2.2);exact uJ
        go_wp2_with((first|(go_at_call 28;(with_reducible refine(lS bf q1v HB HX D1).mono ?_))|(go_at_call 28;(with_reducible refine(lS Zu q2i HB HX D2).mono ?_))|(go_at_call 29;(with_reducible refine(uG lc q25 HB HX D7).mono ?_)));rintro e w' ⟨rfl,hb⟩;have HX:=zi HX hb;have qK:=zi qK hb;obtain⟨VW,gu,uz,Ia,Ct,Gu,Hd,FC⟩:=qp (ak.out.keep qK.out dx.out);obtain⟨nZ,oF,tN,Fz,CX,Ht,GM,GG⟩:=qp (dA.out.keep qK.out lv.out);clear hb)
        go_loopw [12] (fun i wz=>∃j:Nat,j<=xc.length/\i= .int .i64 j/\Hid (xc.take j=yc.take j)/\Hid (Below wc.heap.size wc wz)/\Hid (Below w1.heap.size w1 wz)) (fun i _=>xc.length - (intOf i).toNat)
        case atStart=>exact⟨0,by omega,rfl,zH (by simp),qK,HX⟩
        case round=>
         clear HX qK VW nZ gu oF uz tN Ia Fz Ct CX Gu Ht Hd GM FC GG;obtain⟨j,hj,rfl,HM,qK,HX⟩:=hrel;obtain⟨VW,gu,uz,Ia,Ct,Gu,Hd,FC⟩:=qp (ak.out.keep qK.out dx.out);obtain⟨nZ,oF,tN,Fz,CX,Ht,GM,GG⟩:=qp (dA.out.keep qK.out lv.out);by_cases dM:j<xc.length
         ·have NZ:j<yc.length:=by have:=Cc8.out;omega
          obtain⟨Ib,e4,xE,hc4⟩:=(HSc.out.below_to ju.keeps HX.out HB.out).row.at_ dM;obtain⟨ad4',e4',qle,q1r⟩:=(qko.out.below_to ju.keeps HX.out HB.out).row.at_ NZ;rw[e4]at Ct;rw[e4']at CX;clear e4 e4' xE qle;have iY:Hid (¬xc[j]=yc[j]->¬(⟨xa,xl,(ja,jo),xc,xd,xp,xh⟩:zl)=⟨ya,yl,(ja,jo),yc,yd,yp,yh⟩):=zH (fun g e=>by have g':=e;rw[zl.mk.injEq]at g';exact o9 dM NZ g g'.2.2.2.1);have Nc:=zH (fun g=>pE dM NZ HM.out g);generalize xc[j]=ti at*
          generalize yc[j]=si at*
          obtain⟨x0,x1,x2⟩:=ti;obtain⟨y0,y1,y2⟩:=si;obtain⟨t0,t1,t2⟩:=hc4;obtain⟨s0,s1,s2⟩:=q1r;dsimp only at t0 t1 t2 s0 s1 s2;by_cases hx:x0=y0/\x1=y1/\x2=y2
          ·obtain⟨rfl,rfl,rfl⟩:=hx;have E2:=zH (Nc.out rfl);go_wp2_with fail
           go_quiet (fail)
           go_wp2
           go_roundw;case rel=>exact⟨j+1,by omega,by go_num,E2,zH (jf qK.out _),zH (jf HX.out _)⟩
           case measure=>simp[intOf];omega
          ·have E2:=nE E (jc.out (iY.out (by simpa using hx)));have qE:¬x0=y0\/(x0=y0/\¬x1=y1)\/(x0=y0/\x1=y1/\¬x2=y2):=by omega
           rcases qE with qE|⟨rfl,qE⟩|⟨rfl,rfl,qE⟩
           all_goals
            go_wp2_with fail
            go_quiet (fail)
            go_wp2
            go_ret;exact⟨by rw[E2.out];rfl,HW.out.trans ((jf HX.out _).mono HZ.out)⟩
         ·have sI:=zH (oU (l:=xc) (m:=yc) Cc8.out j HM.out (by omega));have E2:=zH (kG.out (by rw[zl.mk.injEq];exact⟨XD D1.out,XD D2.out,rfl,sI.out,Cc9.out,ql7.out,XD D7.out⟩));go_wp2_with fail
          go_roundw;case rel=>exact⟨k+1,by omega,by go_num,E2,HX⟩
          case measure=>simp[intOf];omega
      ·have bA:=zH (oU (l:=ZJ) (m:=YL) (G9.out) k HN.out (by omega));have E2:=zH (show r=true from E.out.trans (Xi (by rw[za.mk.injEq];exact⟨Qe.out,XD H5.out,HI.out,bA.out,XD H6.out,Oh.out,Cc4.out⟩)));go_wp2_with fail
       go_ret;exact⟨by rw[E2.out];rfl,HW.out.trans (HX.out.mono HZ.out)⟩
