import Derived.Deep.DeepCutAuto
import Derived.Test.YtcmiljnbmgkdnaaGreatFB13
namespace Go.Proofs.YtcmiljnbmgkdnaaGreat
set_option maxRecDepth 100000
set_option linter.unusedVariables false
set_option linter.unusedSimpArgs false
open Go.ChangeShapes Go.WideShapes Go.ChangeAt Go.RowKit
theorem JL{l m:List (Int×Int)}{A A':Option Addr}{cap cap' B:Nat}{w0 w:World}{r:Bool}(HL:Hid (ze zc 2 w0 B A cap l))(HM:Hid (ze zc 2 w0 B A' cap' m))(HB:Hid (B≤w0.heap.size))(HX:Hid (Below w0.heap.size w0 w))(HR:Hid (decide (l=m)=r)):
  Calls Tryz.prog 31 #[.slice A l.length cap,.slice A' m.length cap'] w fun e w'=>e= .returned (.bool r)∧Below w.heap.size w w':=by
 have h:=q7s l m A A' cap cap' B w (Xd HB.out HX.out.size) (HL.out.below_to zc.keeps HX.out HB.out) (HM.out.below_to zc.keeps HX.out HB.out);rw[HR.out]at h;exact h
theorem Vw{l m:List Int}{A A':Option Addr}{cap cap' B:Nat}{w0 w:World}{r:Bool}(HL:Hid (ze zl 1 w0 B A cap l))(HM:Hid (ze zl 1 w0 B A' cap' m))(HB:Hid (B≤w0.heap.size))(HX:Hid (Below w0.heap.size w0 w))(HR:Hid (decide (l=m)=r)):
  Calls Tryz.prog 44 #[.slice A l.length cap,.slice A' m.length cap'] w fun e w'=>e= .returned (.bool r)∧Below w.heap.size w w':=by
 have h:=qfu l m A A' cap cap' B w (Xd HB.out HX.out.size) (HL.out.below_to zl.keeps HX.out HB.out) (HM.out.below_to zl.keeps HX.out HB.out);rw[HR.out]at h;exact h
theorem vd(w:World)(T:TypeId)(vs us:List Value):zW ((w.alloc (.cells vs.toArray T)).alloc (.cells us.toArray T)).drew w.heap.size vs∧zW ((w.alloc (.cells vs.toArray T)).alloc (.cells us.toArray T)).drew (w.heap.size+1) us∧
  Below w.heap.size w ((w.alloc (.cells vs.toArray T)).alloc (.cells us.toArray T)).drew∧w.heap.size<((w.alloc (.cells vs.toArray T)).alloc (.cells us.toArray T)).drew.heap.size∧w.heap.size+1<((w.alloc (.cells vs.toArray T)).alloc (.cells us.toArray T)).drew.heap.size:=by
 have z1:(w.alloc (.cells vs.toArray T)).heap.size=w.heap.size+1:=by simp
 have z2:((w.alloc (.cells vs.toArray T)).alloc (.cells us.toArray T)).drew.heap.size=w.heap.size+2:=by simp
 have hb:Below (w.heap.size+1) (w.alloc (.cells vs.toArray T)) ((w.alloc (.cells vs.toArray T)).alloc (.cells us.toArray T)).drew:=((zb _ _).alloc (by omega) _).drew;have h2:=qr (w.alloc (.cells vs.toArray T)) us T;rw[z1]at h2;exact⟨(qr w vs T).keep hb (by omega),h2,((zb _ _).alloc (zn _) _).trans (hb.mono (by omega)),by omega,by omega⟩
theorem Vy{P:Prop}(h:P:=by
 go_wp2_with(first|(go_at_call 31;(with_reducible refine(JL HSa HSa' HB HX D1).mono ?_);rintro e w' ⟨rfl,hb⟩;have HX:=zj HX hb;have HXc:=zj HXc hb;obtain⟨ku0,ku1,ku2,ku3,ku4,ku5,ku6,ku7⟩:=zY (HCg.out.keep HXc.out HGg.out);obtain⟨kv0,kv1,kv2,kv3,kv4,kv5,kv6,kv7⟩:=zY (HCh.out.keep HXc.out HGh.out);clear hb)|(go_at_call 31;(with_reducible refine(JL HSl HSl' HB HX D2).mono ?_);rintro e w' ⟨rfl,hb⟩;have HX:=zj HX hb;have HXc:=zj HXc hb;obtain⟨ku0,ku1,ku2,ku3,ku4,ku5,ku6,ku7⟩:=zY (HCg.out.keep HXc.out HGg.out);obtain⟨kv0,kv1,kv2,kv3,kv4,kv5,kv6,kv7⟩:=zY (HCh.out.keep HXc.out HGh.out);clear hb)|(go_at_call 44;(with_reducible refine(Vw HSp HSp' HB HX D7).mono ?_);rintro e w' ⟨rfl,hb⟩;have HX:=zj HX hb;have HXc:=zj HXc hb;obtain⟨ku0,ku1,ku2,ku3,ku4,ku5,ku6,ku7⟩:=zY (HCg.out.keep HXc.out HGg.out);obtain⟨kv0,kv1,kv2,kv3,kv4,kv5,kv6,kv7⟩:=zY (HCh.out.keep HXc.out HGh.out);clear hb))
 go_ret;exact⟨by rw[E2.out];rfl,HW.out.trans (HX.out.mono HZ.out)⟩):P:=h
theorem Vx{P:Prop}(h:P:=by
 go_wp2_with(first|(go_at_call 31;(with_reducible refine(JL HS1 HS1' HB HX H5).mono ?_);rintro e w' ⟨rfl,hb⟩;have HX:=zj HX hb;obtain⟨q0,q1,q2,q3,q4,q5,q6⟩:=HBa.out.keep HX.out HNa.out;obtain⟨p0,p1,p2,p3,p4,p5,p6⟩:=HBb.out.keep HX.out HNb.out;dsimp only at q0 q1 q2 q3 q4 q5 q6 p0 p1 p2 p3 p4 p5 p6;clear hb)|(go_at_call 44;(with_reducible refine(Vw HS4 HS4' HB HX H6).mono ?_);rintro e w' ⟨rfl,hb⟩;have HX:=zj HX hb;obtain⟨q0,q1,q2,q3,q4,q5,q6⟩:=HBa.out.keep HX.out HNa.out;obtain⟨p0,p1,p2,p3,p4,p5,p6⟩:=HBb.out.keep HX.out HNb.out;dsimp only at q0 q1 q2 q3 q4 q5 q6 p0 p1 p2 p3 p4 p5 p6;clear hb))
 go_ret;exact⟨by rw[E2.out];rfl,HW.out.trans (HX.out.mono HZ.out)⟩):P:=h
theorem q8b{P:Prop}(h:P:=by
 go_wp2_with(first|(go_at_call 31;(with_reducible refine(JL HSf HSf' HB HX D2).mono ?_);rintro e w' ⟨rfl,hb⟩;have HX:=zj HX hb;have HXc:=zj HXc hb;obtain⟨ku0,ku1,ku2⟩:=qw (HCg.out.keep HXc.out HGg.out);obtain⟨kv0,kv1,kv2⟩:=qw (HCh.out.keep HXc.out HGh.out);clear hb)|(go_at_call 44;(with_reducible refine(Vw HSs HSs' HB HX D3).mono ?_);rintro e w' ⟨rfl,hb⟩;have HX:=zj HX hb;have HXc:=zj HXc hb;obtain⟨ku0,ku1,ku2⟩:=qw (HCg.out.keep HXc.out HGg.out);obtain⟨kv0,kv1,kv2⟩:=qw (HCh.out.keep HXc.out HGh.out);clear hb))
 go_ret;exact⟨by rw[E2.out];rfl,HW.out.trans (HX.out.mono HZ.out)⟩):P:=h
set_option maxHeartbeats 6400000 in
theorem qnr(a b:za)(ha hb:zi)(B:Nat)(w:World)(hB:B≤w.heap.size)(H:zm w B ha a)(H':zm w B hb b):
  Calls Tryz.prog 18 #[zp ha a,zp hb b] w fun e w'=>e= .returned (.bool (decide (a=b)))∧Below w.heap.size w w':=by
 obtain⟨r,hr⟩:∃r,decide (a=b)=r:=⟨_,rfl⟩
 rw[hr];have E:=zH hr.symm;clear hr;obtain⟨acl,ast,ain,ame,aen,ask,ahp⟩:=a;obtain⟨bcl,bst,bin,bme,ben,bsk,bhp⟩:=b;have HWa:Below w.heap.size w (w.alloc (zg ha ⟨acl,ast,ain,ame,aen,ask,ahp⟩)):=(zb _ _).alloc (zn _) _;have z1:(w.alloc (zg ha ⟨acl,ast,ain,ame,aen,ask,ahp⟩)).heap.size=w.heap.size+1:=by simp
 have HWb:Below (w.heap.size+1) (w.alloc (zg ha ⟨acl,ast,ain,ame,aen,ask,ahp⟩)) ((w.alloc (zg ha ⟨acl,ast,ain,ame,aen,ask,ahp⟩)).alloc (zg hb ⟨bcl,bst,bin,bme,ben,bsk,bhp⟩)):=(zb _ _).alloc (by omega) _;have z2:((w.alloc (zg ha ⟨acl,ast,ain,ame,aen,ask,ahp⟩)).alloc (zg hb ⟨bcl,bst,bin,bme,ben,bsk,bhp⟩)).heap.size=w.heap.size+2:=by simp
 have HW:=zH (HWa.trans (HWb.mono (by omega)));have HBa:=zH ((ql w ha ⟨acl,ast,ain,ame,aen,ask,ahp⟩).keep HWb (by omega));have HBb:=zH (ql (w.alloc (zg ha ⟨acl,ast,ain,ame,aen,ask,ahp⟩)) hb ⟨bcl,bst,bin,bme,ben,bsk,bhp⟩);have HIa:=zH (H.below_to HW.out hB);have HIb:=zH (H'.below_to HW.out hB);rw[z1]at HBb;have HZ2:=zH z2;clear HWa HWb z1 z2 H H';go_enter Tryz.func18,Tryz.ntmps18;go_upto_region 1 with fail
 generalize(w.alloc (zg ha ⟨acl,ast,ain,ame,aen,ask,ahp⟩)).alloc (zg hb ⟨bcl,bst,bin,bme,ben,bsk,bhp⟩)=w1 at*
 have HNa:Hid (w.heap.size<w1.heap.size):=zH (by rw[HZ2.out];omega);have HNb:Hid (w.heap.size+1<w1.heap.size):=zH (by rw[HZ2.out];omega);have HZ:Hid (w.heap.size≤w1.heap.size):=zH (by rw[HZ2.out];omega);have HB:Hid (B≤w1.heap.size):=zH (by rw[HZ2.out];omega);have HX:Hid (Below w1.heap.size w1 w1):=zH (zb _ _);obtain⟨q0,q1,q2,q3,q4,q5,q6⟩:=HBa.out;obtain⟨p0,p1,p2,p3,p4,p5,p6⟩:=HBb.out;dsimp only at q0 q1 q2 q3 q4 q5 q6 p0 p1 p2 p3 p4 p5 p6;have HS1:=zH HIa.out.statics;have HS1':=zH HIb.out.statics;have HS4:=zH HIa.out.entries;have HS4':=zH HIb.out.entries;have l0:=HIa.out.classes.le;have l0c:=HIa.out.classes.cap;have l2:=HIa.out.ints.le;have l2c:=HIa.out.ints.cap;have l3:=HIa.out.methods.le;have l3c:=HIa.out.methods.cap;have m0:=HIb.out.classes.le;have m0c:=HIb.out.classes.cap;have m2:=HIb.out.ints.le;have m2c:=HIb.out.ints.cap;have m3:=HIb.out.methods.le;have m3c:=HIb.out.methods.cap;dsimp only at HS1 HS1' HS4 HS4' l0 l2 l3 m0 m2 m3;clear hB HZ2;obtain⟨d5,hd5⟩:∃d,decide (ast=bst)=d:=⟨_,rfl⟩
 have H5:=zH hd5;obtain⟨d6,hd6⟩:∃d,decide (aen=ben)=d:=⟨_,rfl⟩
 have H6:=zH hd6;clear hd5 hd6;by_cases c0:acl.length=bcl.length;rotate_left
 ·have c0t:((acl.length:Int) !=(bcl.length:Int))=true:=XC.mpr (by omega);have E2:=zH (show r=false from E.out.trans (Xg (fun g=>by have g':=g;rw[za.mk.injEq]at g';obtain⟨i0,i1,i2,i3,i4,i5,i6⟩:=g';exact c0 (by rw[i0]))));exact Vx
 have c0t:((acl.length:Int) !=(bcl.length:Int))=false:=bne_eq_false_iff_eq.mpr (by omega);have Cc0:=zH c0;clear c0;by_cases c1:ame.length=bme.length;rotate_left
 ·have c1t:((ame.length:Int) !=(bme.length:Int))=true:=XC.mpr (by omega);have E2:=zH (show r=false from E.out.trans (Xg (fun g=>by have g':=g;rw[za.mk.injEq]at g';obtain⟨i0,i1,i2,i3,i4,i5,i6⟩:=g';exact c1 (by rw[i3]))));exact Vx
 have c1t:((ame.length:Int) !=(bme.length:Int))=false:=bne_eq_false_iff_eq.mpr (by omega);have Cc1:=zH c1;clear c1;by_cases c2:ain.length=bin.length;rotate_left
 ·have c2t:((ain.length:Int) !=(bin.length:Int))=true:=XC.mpr (by omega);have E2:=zH (show r=false from E.out.trans (Xg (fun g=>by have g':=g;rw[za.mk.injEq]at g';obtain⟨i0,i1,i2,i3,i4,i5,i6⟩:=g';exact c2 (by rw[i2]))));exact Vx
 have c2t:((ain.length:Int) !=(bin.length:Int))=false:=bne_eq_false_iff_eq.mpr (by omega);have Cc2:=zH c2;clear c2;by_cases c3:ask=bsk;rotate_left
 ·have c3t:((ask:Int) !=(bsk:Int))=true:=XC.mpr (by omega);have E2:=zH (show r=false from E.out.trans (Xg (fun g=>by have g':=g;rw[za.mk.injEq]at g';obtain⟨i0,i1,i2,i3,i4,i5,i6⟩:=g';exact c3 i5)));exact Vx
 have c3t:((ask:Int) !=(bsk:Int))=false:=bne_eq_false_iff_eq.mpr (by omega);have Cc3:=zH c3;clear c3;by_cases c4:ahp=bhp;rotate_left
 ·have c4t:((ahp:Int) !=(bhp:Int))=true:=XC.mpr (by omega);have E2:=zH (show r=false from E.out.trans (Xg (fun g=>by have g':=g;rw[za.mk.injEq]at g';obtain⟨i0,i1,i2,i3,i4,i5,i6⟩:=g';exact c4 i6)));exact Vx
 have c4t:((ahp:Int) !=(bhp:Int))=false:=bne_eq_false_iff_eq.mpr (by omega);have Cc4:=zH c4;clear c4;cases d5;have E2:=zH (show r=false from E.out.trans (Xg (fun g=>by have g':=g;rw[za.mk.injEq]at g';obtain⟨i0,i1,i2,i3,i4,i5,i6⟩:=g';exact of_decide_eq_false H5.out i1)));rotate_left;cases d6;have E2:=zH (show r=false from E.out.trans (Xg (fun g=>by have g':=g;rw[za.mk.injEq]at g';obtain⟨i0,i1,i2,i3,i4,i5,i6⟩:=g';exact of_decide_eq_false H6.out i4)));rotate_left;rotate_left;iterate 2
  ·exact Vx
 go_wp2_with(first|(go_at_call 31;(with_reducible refine(JL HS1 HS1' HB HX H5).mono ?_);rintro e w' ⟨rfl,hb⟩;have HX:=zj HX hb;obtain⟨q0,q1,q2,q3,q4,q5,q6⟩:=HBa.out.keep HX.out HNa.out;obtain⟨p0,p1,p2,p3,p4,p5,p6⟩:=HBb.out.keep HX.out HNb.out;dsimp only at q0 q1 q2 q3 q4 q5 q6 p0 p1 p2 p3 p4 p5 p6;clear hb)|(go_at_call 44;(with_reducible refine(Vw HS4 HS4' HB HX H6).mono ?_);rintro e w' ⟨rfl,hb⟩;have HX:=zj HX hb;obtain⟨q0,q1,q2,q3,q4,q5,q6⟩:=HBa.out.keep HX.out HNa.out;obtain⟨p0,p1,p2,p3,p4,p5,p6⟩:=HBb.out.keep HX.out HNb.out;dsimp only at q0 q1 q2 q3 q4 q5 q6 p0 p1 p2 p3 p4 p5 p6;clear hb))
 go_loopw [5] (fun i wr=>∃k:Nat,k≤ain.length∧i= .int .i64 k∧Hid (ain.take k=bin.take k)∧Hid (Below w1.heap.size w1 wr)) (fun i _=>ain.length - (intOf i).toNat)
 case atStart=>exact⟨0,by omega,rfl,zH (by simp),HX⟩
 case round=>
  clear HX q0 q1 q2 q3 q4 q5 q6 p0 p1 p2 p3 p4 p5 p6;obtain⟨k,hk,rfl,HN,HX⟩:=hrel;obtain⟨q0,q1,q2,q3,q4,q5,q6⟩:=HBa.out.keep HX.out HNa.out;obtain⟨p0,p1,p2,p3,p4,p5,p6⟩:=HBb.out.keep HX.out HNb.out;dsimp only at q0 q1 q2 q3 q4 q5 q6 p0 p1 p2 p3 p4 p5 p6;by_cases hlt:k<ain.length
  ·have hltm:k<bin.length:=by have:=Cc2.out;omega
   obtain⟨ad,e0,hab,hc,_⟩:=(HIa.out.ints.below_to qQ.keeps HX.out HB.out).row.at_ hlt;obtain⟨ad',e0',hab',hc',_⟩:=(HIb.out.ints.below_to qQ.keeps HX.out HB.out).row.at_ hltm;dsimp only at e0 e0' hc hc';rw[e0]at q2;rw[e0']at p2;rw[Xz]at hc hc';clear e0 e0' hab hab';have HNE:=zH (fun g=>YF hlt hltm g);have HEQ:=zH (fun g=>YJ hlt hltm HN.out g);generalize ain[k]=t at*
   generalize bin[k]=s at*
   have hc:wr.cell? (ad.add k)=some (.int .i32 t):=hc;have hc':wr.cell? (ad'.add k)=some (.int .i32 s):=hc';by_cases hx:t=s
   ·obtain rfl:=hx;have E2:=zH (HEQ.out rfl);go_wp2_with fail
    go_quiet (fail)
    go_wp2
    go_roundw;case rel=>exact⟨k+1,by omega,by go_num,E2,zH (qZ HX.out _)⟩
    case measure=>simp[intOf];omega
   ·have E2:=zH (show r=false from E.out.trans (Xg (fun g=>by have g':=g;rw[za.mk.injEq]at g';obtain⟨i0,i1,i2,i3,i4,i5,i6⟩:=g';exact HNE.out hx i2)));go_wp2_with fail
    go_quiet (fail)
    go_wp2
    go_ret;exact⟨by rw[E2.out];rfl,HW.out.trans ((qZ HX.out _).mono HZ.out)⟩
  ·have HI:=zH (Yw (l:=ain) (m:=bin) (Cc2.out) k HN.out (by omega));clear HN;go_wp2_with fail
   go_loopw [6] (fun i wr=>∃k:Nat,k≤acl.length∧i= .int .i64 k∧Hid (acl.take k=bcl.take k)∧Hid (Below w1.heap.size w1 wr)) (fun i _=>acl.length - (intOf i).toNat)
   case atStart=>exact⟨0,by omega,rfl,zH (by simp),HX⟩
   case round=>
    clear HX q0 q1 q2 q3 q4 q5 q6 p0 p1 p2 p3 p4 p5 p6 hlt hk;obtain⟨k,hk,rfl,HN,HX⟩:=hrel;obtain⟨q0,q1,q2,q3,q4,q5,q6⟩:=HBa.out.keep HX.out HNa.out;obtain⟨p0,p1,p2,p3,p4,p5,p6⟩:=HBb.out.keep HX.out HNb.out;dsimp only at q0 q1 q2 q3 q4 q5 q6 p0 p1 p2 p3 p4 p5 p6;by_cases hlt:k<acl.length
    ·have hltm:k<bcl.length:=by have:=Cc0.out;omega
     obtain⟨ad,e0,hab,hc⟩:=HIa.out.classes.row.at_ hlt;obtain⟨ad',e0',hab',hc'⟩:=HIb.out.classes.row.at_ hltm;dsimp only at e0 e0' hc hc';rw[e0]at q0;rw[e0']at p0;clear e0 e0';have HNE:Hid (¬acl[k]=bcl[k]→¬(⟨acl,ast,ain,ame,aen,ask,ahp⟩:za)=⟨bcl,bst,bin,bme,ben,bsk,bhp⟩):=zH (fun g e=>by have g':=e;rw[za.mk.injEq]at g';exact YF hlt hltm g g'.1);have HEQ:=zH (fun g=>YJ hlt hltm HN.out g);generalize acl[k]=x at*
     generalize bcl[k]=y at*
     obtain⟨xs,xf,xl⟩:=x;obtain⟨ys,yf,yl⟩:=y;obtain⟨s0,⟨A1,k1,s1,hs1⟩,⟨A2,k2,s2,hs2⟩⟩:=hc;obtain⟨t0,⟨A1',k1',t1,ht1⟩,⟨A2',k2',t2,ht2⟩⟩:=hc';have hP:(ad.add (k*3)).block<w1.heap.size:=by rw[zu];exact Xj hab HB.out
     have hP':(ad'.add (k*3)).block<w1.heap.size:=by rw[zu];exact Xj hab' HB.out
     dsimp only at s0 s1 s2 t0 t1 t2 hs1 hs2 ht1 ht2;have s0:=(HX.out.cell hP).trans s0;have s1:=(HX.out.cell (p:=zf (ad.add (k*3)) 1) hP).trans s1;have s2:=(HX.out.cell (p:=zf (ad.add (k*3)) 2) hP).trans s2;have t0:=(HX.out.cell hP').trans t0;have t1:=(HX.out.cell (p:=zf (ad'.add (k*3)) 1) hP').trans t1;have t2:=(HX.out.cell (p:=zf (ad'.add (k*3)) 2) hP').trans t2;have HSf:=zH hs1;have HSs:=zH hs2;have HSf':=zH ht1;have HSs':=zH ht2;obtain⟨d2,hd2⟩:∃d,decide (xf=yf)=d:=⟨_,rfl⟩
     have D2:=zH hd2;obtain⟨d3,hd3⟩:∃d,decide (xl=yl)=d:=⟨_,rfl⟩
     have D3:=zH hd3;clear hd2 hd3 hs1 hs2 ht1 ht2 hab hab' hP hP';go_upto_region 11 with fail
     go_cut [7,8] (fun s7 s8 wx=>∃g g':Nat,s7= .pointer (some ⟨g,0,none⟩)∧s8= .pointer (some ⟨g',0,none⟩)∧Hid (zW wx g [.int .i64 xs,.slice A1 xf.length k1,.slice A2 xl.length k2])∧Hid (zW wx g' [.int .i64 ys,.slice A1' yf.length k1',.slice A2' yl.length k2'])∧Hid (Below wr.heap.size wr wx)∧Hid (g<wx.heap.size)∧Hid (g'<wx.heap.size))
     case first=>
      have e1:=World.new_ne wr _ q0;have e2:=World.new_ne wr _ p0;have e3:=World.new_ne wr _ s0;have e4:=World.new_ne wr _ t0;go_region_held3 (fun w'=>w'.cell? ⟨w.heap.size,0,none⟩=some (.slice (some ad) acl.length ha.c0)∧w'.cell? ⟨w.heap.size+1,0,none⟩=some (.slice (some ad') bcl.length hb.c0)∧w'.cell? (ad.add (k*3))=some (.int .i64 xs)∧w'.cell? (zf (ad.add (k*3)) 1)=some (.slice A1 xf.length k1)∧w'.cell? (zf (ad.add (k*3)) 2)=some (.slice A2 xl.length k2)∧w'.cell? (ad'.add (k*3))=some (.int .i64 ys)∧w'.cell? (zf (ad'.add (k*3)) 1)=some (.slice A1' yf.length k1')∧w'.cell? (zf (ad'.add (k*3)) 2)=some (.slice A2' yl.length k2')) (go_keep) (first|fail)
      all_goals
       go_wp2_with fail
       go_meet
       first
        |exact⟨_,_,rfl,rfl,zH (vd wr 81 [.int .i64 xs,.slice A1 xf.length k1,.slice A2 xl.length k2] [.int .i64 ys,.slice A1' yf.length k1',.slice A2' yl.length k2']).1,zH (vd wr 81 [.int .i64 xs,.slice A1 xf.length k1,.slice A2 xl.length k2] [.int .i64 ys,.slice A1' yf.length k1',.slice A2' yl.length k2']).2.1,zH (vd wr 81 [.int .i64 xs,.slice A1 xf.length k1,.slice A2 xl.length k2] [.int .i64 ys,.slice A1' yf.length k1',.slice A2' yl.length k2']).2.2.1,zH (vd wr 81 [.int .i64 xs,.slice A1 xf.length k1,.slice A2 xl.length k2] [.int .i64 ys,.slice A1' yf.length k1',.slice A2' yl.length k2']).2.2.2.1,zH (vd wr 81 [.int .i64 xs,.slice A1 xf.length k1,.slice A2 xl.length k2] [.int .i64 ys,.slice A1' yf.length k1',.slice A2' yl.length k2']).2.2.2.2⟩
        |exact⟨_,_,rfl,rfl,zH (vd wr 81 [.int .i64 ys,.slice A1' yf.length k1',.slice A2' yl.length k2'] [.int .i64 xs,.slice A1 xf.length k1,.slice A2 xl.length k2]).2.1,zH (vd wr 81 [.int .i64 ys,.slice A1' yf.length k1',.slice A2' yl.length k2'] [.int .i64 xs,.slice A1 xf.length k1,.slice A2 xl.length k2]).1,zH (vd wr 81 [.int .i64 ys,.slice A1' yf.length k1',.slice A2' yl.length k2'] [.int .i64 xs,.slice A1 xf.length k1,.slice A2 xl.length k2]).2.2.1,zH (vd wr 81 [.int .i64 ys,.slice A1' yf.length k1',.slice A2' yl.length k2'] [.int .i64 xs,.slice A1 xf.length k1,.slice A2 xl.length k2]).2.2.2.2,zH (vd wr 81 [.int .i64 ys,.slice A1' yf.length k1',.slice A2' yl.length k2'] [.int .i64 xs,.slice A1 xf.length k1,.slice A2 xl.length k2]).2.2.2.1⟩
     case rest=>
      obtain⟨g,g',rfl,rfl,HCg,HCh,HXk,HGg,HGh⟩:=hcut;have HX:=zH (HX.out.trans (HXk.out.mono HX.out.size));have HXc:=zH (zb wc.heap.size wc);clear HXk s0 s1 s2 t0 t1 t2 q0 q1 q2 q3 q4 q5 q6 p0 p1 p2 p3 p4 p5 p6;obtain⟨ku0,ku1,ku2⟩:=qw (HCg.out.keep HXc.out HGg.out);obtain⟨kv0,kv1,kv2⟩:=qw (HCh.out.keep HXc.out HGh.out);by_cases cs:xs=ys;rotate_left
      ·have cst:((xs:Int) !=(ys:Int))=true:=XC.mpr (by omega);have E2:=zH (show r=false from E.out.trans (Xg (fun g=>HNE.out (fun g=>by have g':=g;rw[zJ.mk.injEq]at g';obtain⟨j0,j1,j2⟩:=g';exact cs j0) g)));exact q8b
      have cst:((xs:Int) !=(ys:Int))=false:=bne_eq_false_iff_eq.mpr (by omega);have Ccs:=zH cs;clear cs;cases d2;have E2:=zH (show r=false from E.out.trans (Xg (fun g=>HNE.out (fun g=>by have g':=g;rw[zJ.mk.injEq]at g';obtain⟨j0,j1,j2⟩:=g';exact of_decide_eq_false D2.out j1) g)));rotate_left;cases d3;have E2:=zH (show r=false from E.out.trans (Xg (fun g=>HNE.out (fun g=>by have g':=g;rw[zJ.mk.injEq]at g';obtain⟨j0,j1,j2⟩:=g';exact of_decide_eq_false D3.out j2) g)));rotate_left;rotate_left;iterate 2
       ·exact q8b
      have E2:=zH (HEQ.out (by rw[zJ.mk.injEq];exact⟨Ccs.out,Xy D2.out,Xy D3.out⟩));go_wp2_with(first|(go_at_call 31;(with_reducible refine(JL HSf HSf' HB HX D2).mono ?_);rintro e w' ⟨rfl,hb⟩;have HX:=zj HX hb;have HXc:=zj HXc hb;obtain⟨ku0,ku1,ku2⟩:=qw (HCg.out.keep HXc.out HGg.out);obtain⟨kv0,kv1,kv2⟩:=qw (HCh.out.keep HXc.out HGh.out);clear hb)|(go_at_call 44;(with_reducible refine(Vw HSs HSs' HB HX D3).mono ?_);rintro e w' ⟨rfl,hb⟩;have HX:=zj HX hb;have HXc:=zj HXc hb;obtain⟨ku0,ku1,ku2⟩:=qw (HCg.out.keep HXc.out HGg.out);obtain⟨kv0,kv1,kv2⟩:=qw (HCh.out.keep HXc.out HGh.out);clear hb))
      go_roundw;case rel=>exact⟨k+1,by omega,by go_num,E2,HX⟩
      case measure=>simp[intOf];omega
    ·have HCL:=zH (Yw (l:=acl) (m:=bcl) (Cc0.out) k HN.out (by omega));clear HN;go_wp2_with fail
     go_loopw [9] (fun i wr=>∃k:Nat,k≤ame.length∧i= .int .i64 k∧Hid (ame.take k=bme.take k)∧Hid (Below w1.heap.size w1 wr)) (fun i _=>ame.length - (intOf i).toNat)
     case atStart=>exact⟨0,by omega,rfl,zH (by simp),HX⟩
     case round=>
      clear HX q0 q1 q2 q3 q4 q5 q6 p0 p1 p2 p3 p4 p5 p6 hlt hk;obtain⟨k,hk,rfl,HN,HX⟩:=hrel;obtain⟨q0,q1,q2,q3,q4,q5,q6⟩:=HBa.out.keep HX.out HNa.out;obtain⟨p0,p1,p2,p3,p4,p5,p6⟩:=HBb.out.keep HX.out HNb.out;dsimp only at q0 q1 q2 q3 q4 q5 q6 p0 p1 p2 p3 p4 p5 p6;by_cases hlt:k<ame.length
      ·have hltm:k<bme.length:=by have:=Cc1.out;omega
       obtain⟨ad,e0,hab,hc⟩:=HIa.out.methods.row.at_ hlt;obtain⟨ad',e0',hab',hc'⟩:=HIb.out.methods.row.at_ hltm;dsimp only at e0 e0' hc hc';rw[e0]at q3;rw[e0']at p3;clear e0 e0';have HNE:Hid (¬ame[k]=bme[k]→¬(⟨acl,ast,ain,ame,aen,ask,ahp⟩:za)=⟨bcl,bst,bin,bme,ben,bsk,bhp⟩):=zH (fun g e=>by have g':=e;rw[za.mk.injEq]at g';exact YF hlt hltm g g'.2.2.2.1);have HEQ:=zH (fun g=>YJ hlt hltm HN.out g);generalize ame[k]=x at*
       generalize bme[k]=y at*
       obtain⟨xa,xl,⟨xr0,xr1⟩,xc,xd,xp,xh⟩:=x;obtain⟨ya,yl,⟨yr0,yr1⟩,yc,yd,yp,yh⟩:=y;obtain⟨⟨A0,k0,s0,hs0⟩,⟨A1,k1,s1,hs1⟩,s2,s3,⟨A4,k4,s4,hs4⟩,s5,s6,⟨A7,k7,s7,hs7⟩⟩:=hc;obtain⟨⟨A0',k0',t0,ht0⟩,⟨A1',k1',t1,ht1⟩,t2,t3,⟨A4',k4',t4,ht4⟩,t5,t6,⟨A7',k7',t7,ht7⟩⟩:=hc';have hP:(ad.add (k*8)).block<w1.heap.size:=by rw[zu];exact Xj hab HB.out
       have hP':(ad'.add (k*8)).block<w1.heap.size:=by rw[zu];exact Xj hab' HB.out
       dsimp only at s0 s1 s2 s3 s4 s5 s6 s7 t0 t1 t2 t3 t4 t5 t6 t7 hs0 hs1 hs4 hs7 ht0 ht1 ht4 ht7;have s0:=(HX.out.cell hP).trans s0;have s1:=(HX.out.cell (p:=zf (ad.add (k*8)) 1) hP).trans s1;have s2:=(HX.out.cell (p:=zf (ad.add (k*8)) 2) hP).trans s2;have s3:=(HX.out.cell (p:=zf (ad.add (k*8)) 3) hP).trans s3;have s4:=(HX.out.cell (p:=zf (ad.add (k*8)) 4) hP).trans s4;have s5:=(HX.out.cell (p:=zf (ad.add (k*8)) 5) hP).trans s5;have s6:=(HX.out.cell (p:=zf (ad.add (k*8)) 6) hP).trans s6;have s7:=(HX.out.cell (p:=zf (ad.add (k*8)) 7) hP).trans s7;have t0:=(HX.out.cell hP').trans t0;have t1:=(HX.out.cell (p:=zf (ad'.add (k*8)) 1) hP').trans t1;have t2:=(HX.out.cell (p:=zf (ad'.add (k*8)) 2) hP').trans t2;have t3:=(HX.out.cell (p:=zf (ad'.add (k*8)) 3) hP').trans t3;have t4:=(HX.out.cell (p:=zf (ad'.add (k*8)) 4) hP').trans t4;have t5:=(HX.out.cell (p:=zf (ad'.add (k*8)) 5) hP').trans t5;have t6:=(HX.out.cell (p:=zf (ad'.add (k*8)) 6) hP').trans t6;have t7:=(HX.out.cell (p:=zf (ad'.add (k*8)) 7) hP').trans t7;have bk1:=hs4.le;have bk2:=hs4.cap;have bm1:=ht4.le;have bm2:=ht4.cap;have HSa:=zH hs0;have HSl:=zH hs1;have HSc:=zH hs4;have HSp:=zH hs7;have HSa':=zH ht0;have HSl':=zH ht1;have HSc':=zH ht4;have HSp':=zH ht7;obtain⟨d1,hd1⟩:∃d,decide (xa=ya)=d:=⟨_,rfl⟩
       have D1:=zH hd1;obtain⟨d2,hd2⟩:∃d,decide (xl=yl)=d:=⟨_,rfl⟩
       have D2:=zH hd2;obtain⟨d7,hd7⟩:∃d,decide (xh=yh)=d:=⟨_,rfl⟩
       have D7:=zH hd7;clear hd1 hd2 hd7 hs0 hs1 hs4 hs7 ht0 ht1 ht4 ht7 hab hab' hP hP';go_upto_region 17 with fail
       go_cut [10,11] (fun s7 s8 wx=>∃g g':Nat,s7= .pointer (some ⟨g,0,none⟩)∧s8= .pointer (some ⟨g',0,none⟩)∧Hid (zW wx g [.slice A0 xa.length k0,.slice A1 xl.length k1,.int .i64 xr0,.int .i64 xr1,.slice A4 xc.length k4,.int .i64 xd,.int .i64 xp,.slice A7 xh.length k7])∧Hid (zW wx g' [.slice A0' ya.length k0',.slice A1' yl.length k1',.int .i64 yr0,.int .i64 yr1,.slice A4' yc.length k4',.int .i64 yd,.int .i64 yp,.slice A7' yh.length k7'])∧Hid (Below wr.heap.size wr wx)∧Hid (g<wx.heap.size)∧Hid (g'<wx.heap.size))
       case first=>
        have e1:=World.new_ne wr _ q3;have e2:=World.new_ne wr _ p3;have e3:=World.new_ne wr _ s0;have e4:=World.new_ne wr _ t0;go_region_held3 (fun w'=>w'.cell? ⟨w.heap.size,3,none⟩=some (.slice (some ad) ame.length ha.c3)∧w'.cell? ⟨w.heap.size+1,3,none⟩=some (.slice (some ad') bme.length hb.c3)∧w'.cell? (ad.add (k*8))=some (.slice A0 xa.length k0)∧w'.cell? (zf (ad.add (k*8)) 1)=some (.slice A1 xl.length k1)∧w'.cell? (zf (ad.add (k*8)) 2)=some (.int .i64 xr0)∧w'.cell? (zf (ad.add (k*8)) 3)=some (.int .i64 xr1)∧w'.cell? (zf (ad.add (k*8)) 4)=some (.slice A4 xc.length k4)∧w'.cell? (zf (ad.add (k*8)) 5)=some (.int .i64 xd)∧w'.cell? (zf (ad.add (k*8)) 6)=some (.int .i64 xp)∧w'.cell? (zf (ad.add (k*8)) 7)=some (.slice A7 xh.length k7)∧w'.cell? (ad'.add (k*8))=some (.slice A0' ya.length k0')∧w'.cell? (zf (ad'.add (k*8)) 1)=some (.slice A1' yl.length k1')∧w'.cell? (zf (ad'.add (k*8)) 2)=some (.int .i64 yr0)∧w'.cell? (zf (ad'.add (k*8)) 3)=some (.int .i64 yr1)∧w'.cell? (zf (ad'.add (k*8)) 4)=some (.slice A4' yc.length k4')∧w'.cell? (zf (ad'.add (k*8)) 5)=some (.int .i64 yd)∧w'.cell? (zf (ad'.add (k*8)) 6)=some (.int .i64 yp)∧w'.cell? (zf (ad'.add (k*8)) 7)=some (.slice A7' yh.length k7')) (go_keep) (first|fail)
        all_goals
         go_wp2_with fail
         go_meet
         first
          |exact⟨_,_,rfl,rfl,zH (vd wr 53 [.slice A0 xa.length k0,.slice A1 xl.length k1,.int .i64 xr0,.int .i64 xr1,.slice A4 xc.length k4,.int .i64 xd,.int .i64 xp,.slice A7 xh.length k7] [.slice A0' ya.length k0',.slice A1' yl.length k1',.int .i64 yr0,.int .i64 yr1,.slice A4' yc.length k4',.int .i64 yd,.int .i64 yp,.slice A7' yh.length k7']).1,zH (vd wr 53 [.slice A0 xa.length k0,.slice A1 xl.length k1,.int .i64 xr0,.int .i64 xr1,.slice A4 xc.length k4,.int .i64 xd,.int .i64 xp,.slice A7 xh.length k7] [.slice A0' ya.length k0',.slice A1' yl.length k1',.int .i64 yr0,.int .i64 yr1,.slice A4' yc.length k4',.int .i64 yd,.int .i64 yp,.slice A7' yh.length k7']).2.1,zH (vd wr 53 [.slice A0 xa.length k0,.slice A1 xl.length k1,.int .i64 xr0,.int .i64 xr1,.slice A4 xc.length k4,.int .i64 xd,.int .i64 xp,.slice A7 xh.length k7] [.slice A0' ya.length k0',.slice A1' yl.length k1',.int .i64 yr0,.int .i64 yr1,.slice A4' yc.length k4',.int .i64 yd,.int .i64 yp,.slice A7' yh.length k7']).2.2.1,zH (vd wr 53 [.slice A0 xa.length k0,.slice A1 xl.length k1,.int .i64 xr0,.int .i64 xr1,.slice A4 xc.length k4,.int .i64 xd,.int .i64 xp,.slice A7 xh.length k7] [.slice A0' ya.length k0',.slice A1' yl.length k1',.int .i64 yr0,.int .i64 yr1,.slice A4' yc.length k4',.int .i64 yd,.int .i64 yp,.slice A7' yh.length k7']).2.2.2.1,zH (vd wr 53 [.slice A0 xa.length k0,.slice A1 xl.length k1,.int .i64 xr0,.int .i64 xr1,.slice A4 xc.length k4,.int .i64 xd,.int .i64 xp,.slice A7 xh.length k7] [.slice A0' ya.length k0',.slice A1' yl.length k1',.int .i64 yr0,.int .i64 yr1,.slice A4' yc.length k4',.int .i64 yd,.int .i64 yp,.slice A7' yh.length k7']).2.2.2.2⟩
          |exact⟨_,_,rfl,rfl,zH (vd wr 53 [.slice A0' ya.length k0',.slice A1' yl.length k1',.int .i64 yr0,.int .i64 yr1,.slice A4' yc.length k4',.int .i64 yd,.int .i64 yp,.slice A7' yh.length k7'] [.slice A0 xa.length k0,.slice A1 xl.length k1,.int .i64 xr0,.int .i64 xr1,.slice A4 xc.length k4,.int .i64 xd,.int .i64 xp,.slice A7 xh.length k7]).2.1,zH (vd wr 53 [.slice A0' ya.length k0',.slice A1' yl.length k1',.int .i64 yr0,.int .i64 yr1,.slice A4' yc.length k4',.int .i64 yd,.int .i64 yp,.slice A7' yh.length k7'] [.slice A0 xa.length k0,.slice A1 xl.length k1,.int .i64 xr0,.int .i64 xr1,.slice A4 xc.length k4,.int .i64 xd,.int .i64 xp,.slice A7 xh.length k7]).1,zH (vd wr 53 [.slice A0' ya.length k0',.slice A1' yl.length k1',.int .i64 yr0,.int .i64 yr1,.slice A4' yc.length k4',.int .i64 yd,.int .i64 yp,.slice A7' yh.length k7'] [.slice A0 xa.length k0,.slice A1 xl.length k1,.int .i64 xr0,.int .i64 xr1,.slice A4 xc.length k4,.int .i64 xd,.int .i64 xp,.slice A7 xh.length k7]).2.2.1,zH (vd wr 53 [.slice A0' ya.length k0',.slice A1' yl.length k1',.int .i64 yr0,.int .i64 yr1,.slice A4' yc.length k4',.int .i64 yd,.int .i64 yp,.slice A7' yh.length k7'] [.slice A0 xa.length k0,.slice A1 xl.length k1,.int .i64 xr0,.int .i64 xr1,.slice A4 xc.length k4,.int .i64 xd,.int .i64 xp,.slice A7 xh.length k7]).2.2.2.2,zH (vd wr 53 [.slice A0' ya.length k0',.slice A1' yl.length k1',.int .i64 yr0,.int .i64 yr1,.slice A4' yc.length k4',.int .i64 yd,.int .i64 yp,.slice A7' yh.length k7'] [.slice A0 xa.length k0,.slice A1 xl.length k1,.int .i64 xr0,.int .i64 xr1,.slice A4 xc.length k4,.int .i64 xd,.int .i64 xp,.slice A7 xh.length k7]).2.2.2.1⟩
       case rest=>
        obtain⟨g,g',rfl,rfl,HCg,HCh,HXk,HGg,HGh⟩:=hcut;have HX:=zH (HX.out.trans (HXk.out.mono HX.out.size));have HXc:=zH (zb wc.heap.size wc);clear HXk s0 s1 s2 s3 s4 s5 s6 s7 t0 t1 t2 t3 t4 t5 t6 t7 q0 q1 q2 q3 q4 q5 q6 p0 p1 p2 p3 p4 p5 p6;obtain⟨ku0,ku1,ku2,ku3,ku4,ku5,ku6,ku7⟩:=zY (HCg.out.keep HXc.out HGg.out);obtain⟨kv0,kv1,kv2,kv3,kv4,kv5,kv6,kv7⟩:=zY (HCh.out.keep HXc.out HGh.out);cases d1;have E2:=zH (show r=false from E.out.trans (Xg (fun g=>HNE.out (fun g=>by have g':=g;rw[zh.mk.injEq]at g';obtain⟨j0,j1,j2,j3,j4,j5,j6⟩:=g';exact of_decide_eq_false D1.out j0) g)));rotate_left;cases d2;have E2:=zH (show r=false from E.out.trans (Xg (fun g=>HNE.out (fun g=>by have g':=g;rw[zh.mk.injEq]at g';obtain⟨j0,j1,j2,j3,j4,j5,j6⟩:=g';exact of_decide_eq_false D2.out j1) g)));rotate_left;rotate_left;iterate 2
         ·exact Vy
        by_cases hret:xr0=yr0∧xr1=yr1;rotate_left
        ·have E2:=zH (show r=false from E.out.trans (Xg (fun g=>HNE.out (fun g=>by have g':=g;rw[zh.mk.injEq]at g';obtain⟨j0,j1,j2,j3,j4,j5,j6⟩:=g';simp at j2;exact hret j2) g)));have hxx:¬xr0=yr0∨(xr0=yr0∧¬xr1=yr1):=by omega
         rcases hxx with hxx|⟨rfl,hxx⟩
         all_goals
          exact Vy
        obtain⟨rfl,rfl⟩:=hret;by_cases c8:xc.length=yc.length;rotate_left
        ·have c8t:((xc.length:Int) !=(yc.length:Int))=true:=XC.mpr (by omega);have E2:=zH (show r=false from E.out.trans (Xg (fun g=>HNE.out (fun g=>by have g':=g;rw[zh.mk.injEq]at g';obtain⟨j0,j1,j2,j3,j4,j5,j6⟩:=g';exact c8 (by rw[j3])) g)));exact Vy
        have c8t:((xc.length:Int) !=(yc.length:Int))=false:=bne_eq_false_iff_eq.mpr (by omega);have Cc8:=zH c8;clear c8;by_cases c9:xd=yd;rotate_left
        ·have c9t:((xd:Int) !=(yd:Int))=true:=XC.mpr (by omega);have E2:=zH (show r=false from E.out.trans (Xg (fun g=>HNE.out (fun g=>by have g':=g;rw[zh.mk.injEq]at g';obtain⟨j0,j1,j2,j3,j4,j5,j6⟩:=g';exact c9 j4) g)));exact Vy
        have c9t:((xd:Int) !=(yd:Int))=false:=bne_eq_false_iff_eq.mpr (by omega);have Cc9:=zH c9;clear c9;by_cases c10:xp=yp;rotate_left
        ·have c10t:((xp:Int) !=(yp:Int))=true:=XC.mpr (by omega);have E2:=zH (show r=false from E.out.trans (Xg (fun g=>HNE.out (fun g=>by have g':=g;rw[zh.mk.injEq]at g';obtain⟨j0,j1,j2,j3,j4,j5,j6⟩:=g';exact c10 j5) g)));exact Vy
        have c10t:((xp:Int) !=(yp:Int))=false:=bne_eq_false_iff_eq.mpr (by omega);have Cc10:=zH c10;clear c10;cases d7
        ·have E2:=zH (show r=false from E.out.trans (Xg (fun g=>HNE.out (fun g=>by have g':=g;rw[zh.mk.injEq]at g';obtain⟨j0,j1,j2,j3,j4,j5,j6⟩:=g';exact of_decide_eq_false D7.out j6) g)));exact Vy
        go_wp2_with(first|(go_at_call 31;(with_reducible refine(JL HSa HSa' HB HX D1).mono ?_);rintro e w' ⟨rfl,hb⟩;have HX:=zj HX hb;have HXc:=zj HXc hb;obtain⟨ku0,ku1,ku2,ku3,ku4,ku5,ku6,ku7⟩:=zY (HCg.out.keep HXc.out HGg.out);obtain⟨kv0,kv1,kv2,kv3,kv4,kv5,kv6,kv7⟩:=zY (HCh.out.keep HXc.out HGh.out);clear hb)|(go_at_call 31;(with_reducible refine(JL HSl HSl' HB HX D2).mono ?_);rintro e w' ⟨rfl,hb⟩;have HX:=zj HX hb;have HXc:=zj HXc hb;obtain⟨ku0,ku1,ku2,ku3,ku4,ku5,ku6,ku7⟩:=zY (HCg.out.keep HXc.out HGg.out);obtain⟨kv0,kv1,kv2,kv3,kv4,kv5,kv6,kv7⟩:=zY (HCh.out.keep HXc.out HGh.out);clear hb)|(go_at_call 44;(with_reducible refine(Vw HSp HSp' HB HX D7).mono ?_);rintro e w' ⟨rfl,hb⟩;have HX:=zj HX hb;have HXc:=zj HXc hb;obtain⟨ku0,ku1,ku2,ku3,ku4,ku5,ku6,ku7⟩:=zY (HCg.out.keep HXc.out HGg.out);obtain⟨kv0,kv1,kv2,kv3,kv4,kv5,kv6,kv7⟩:=zY (HCh.out.keep HXc.out HGh.out);clear hb))
        go_loopw [12] (fun i wz=>∃j:Nat,j≤xc.length∧i= .int .i64 j∧Hid (xc.take j=yc.take j)∧Hid (Below wc.heap.size wc wz)∧Hid (Below w1.heap.size w1 wz)) (fun i _=>xc.length - (intOf i).toNat)
        case atStart=>exact⟨0,by omega,rfl,zH (by simp),HXc,HX⟩
        case round=>
         clear HX HXc ku0 kv0 ku1 kv1 ku2 kv2 ku3 kv3 ku4 kv4 ku5 kv5 ku6 kv6 ku7 kv7;obtain⟨j,hj,rfl,HM,HXc,HX⟩:=hrel;obtain⟨ku0,ku1,ku2,ku3,ku4,ku5,ku6,ku7⟩:=zY (HCg.out.keep HXc.out HGg.out);obtain⟨kv0,kv1,kv2,kv3,kv4,kv5,kv6,kv7⟩:=zY (HCh.out.keep HXc.out HGh.out);by_cases hltj:j<xc.length
         ·have hltjm:j<yc.length:=by have:=Cc8.out;omega
          obtain⟨ad4,e4,hab4,hc4⟩:=(HSc.out.below_to qi.keeps HX.out HB.out).row.at_ hltj;obtain⟨ad4',e4',hab4',hc4'⟩:=(HSc'.out.below_to qi.keeps HX.out HB.out).row.at_ hltjm;rw[e4]at ku4;rw[e4']at kv4;clear e4 e4' hab4 hab4';have HNC:Hid (¬xc[j]=yc[j]→¬(⟨xa,xl,(xr0,xr1),xc,xd,xp,xh⟩:zh)=⟨ya,yl,(xr0,xr1),yc,yd,yp,yh⟩):=zH (fun g e=>by have g':=e;rw[zh.mk.injEq]at g';exact YF hltj hltjm g g'.2.2.2.1);have HEC:=zH (fun g=>YJ hltj hltjm HM.out g);generalize xc[j]=ti at*
          generalize yc[j]=si at*
          obtain⟨x0,x1,x2⟩:=ti;obtain⟨y0,y1,y2⟩:=si;obtain⟨t0,t1,t2⟩:=hc4;obtain⟨s0,s1,s2⟩:=hc4';dsimp only at t0 t1 t2 s0 s1 s2;by_cases hx:x0=y0∧x1=y1∧x2=y2
          ·obtain⟨rfl,rfl,rfl⟩:=hx;have E2:=zH (HEC.out rfl);go_wp2_with fail
           go_quiet (fail)
           go_wp2
           go_roundw;case rel=>exact⟨j+1,by omega,by go_num,E2,zH (qZ HXc.out _),zH (qZ HX.out _)⟩
           case measure=>simp[intOf];omega
          ·have E2:=zH (show r=false from E.out.trans (Xg (HNE.out (HNC.out (by simpa using hx)))));have hxx:¬x0=y0∨(x0=y0∧¬x1=y1)∨(x0=y0∧x1=y1∧¬x2=y2):=by omega
           rcases hxx with hxx|⟨rfl,hxx⟩|⟨rfl,rfl,hxx⟩
           all_goals
            go_wp2_with fail
            go_quiet (fail)
            go_wp2
            go_ret;exact⟨by rw[E2.out];rfl,HW.out.trans ((qZ HX.out _).mono HZ.out)⟩
         ·have HCC:=zH (Yw (l:=xc) (m:=yc) Cc8.out j HM.out (by omega));have E2:=zH (HEQ.out (by rw[zh.mk.injEq];exact⟨Xy D1.out,Xy D2.out,rfl,HCC.out,Cc9.out,Cc10.out,Xy D7.out⟩));go_wp2_with fail
          go_roundw;case rel=>exact⟨k+1,by omega,by go_num,E2,HX⟩
          case measure=>simp[intOf];omega
      ·have HME:=zH (Yw (l:=ame) (m:=bme) (Cc1.out) k HN.out (by omega));have E2:=zH (show r=true from E.out.trans (Xm (by rw[za.mk.injEq];exact⟨HCL.out,Xy H5.out,HI.out,HME.out,Xy H6.out,Cc3.out,Cc4.out⟩)));go_wp2_with fail
       go_ret;exact⟨by rw[E2.out];rfl,HW.out.trans (HX.out.mono HZ.out)⟩
end Go.Proofs.YtcmiljnbmgkdnaaGreat
