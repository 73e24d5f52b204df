import Derived.Test.YtnfeiginmngknaaGreatFZ19
namespace Go.Proofs.YtnfeiginmngknaaGreat
set_option maxRecDepth 100000
set_option linter.unusedVariables false
set_option linter.unusedSimpArgs false
open Go.ChangeShapes Go.WideShapes Go.ChangeAt Go.RowKit
structure Va(w:World)(N:Nat)(h:zh)(m:za):Prop where
 cell:w.cell? ⟨N,0,none⟩=some (.slice h.A0 m.classes.length h.c0)
 lt:N<w.heap.size
theorem Va.now{w w':World}{N:Nat}{h:zh}{m:za}(H:Va w N h m)(hb:Below w.heap.size w w'):Va w' N h m:=
 ⟨(hb.cell (p:=⟨N,0,none⟩) H.lt).trans H.cell,Xp H.lt hb.size⟩
theorem qhz{m:za}{c:Int}{h:zh}{N:Nat}{w0 w:World}{L:List (Int×Int)}(HI:Hid (zr w0 w0.heap.size h m))(HX:Hid (Below w0.heap.size w0 w))(HK:Hid (Va w0 N h m))(HS:Hid (Yy m.classes=true))(HT:Hid (aO m))(h1:c<m.classes.length)(HL:Hid (qg m.classes c=L)):
  Calls Tryz.prog 132 #[.int .i64 c,.pointer (some ⟨N,0,none⟩)] w fun e w'=>e= .returned (.int .i64 (L.length:Int))/\Below w.heap.size w w':=by
 have H:=Rz m.classes c N h.A0 h.c0 w.heap.size w (zn _) (HI.out.now HX.out).classes (HK.out.now HX.out).cell HS.out HT.out.f HT.out.n h1;rw[HL.out]at H;exact H.mono fun e w' g=>⟨g.1,by rw[<-g.2];exact zb _ _⟩
theorem Kz{x:zl}{hx:qH}{w:World}(HU:Hid (iE x)):
  Calls Tryz.prog 136 #[ZD hx x] w fun e w'=>e= .returned (.int .i64 ((x.args.length:Int)+(x.locals.length:Int)))/\Below w.heap.size w w':=
 q4j x hx w HU.out.a HU.out.l
theorem O5{P:Prop}(h:P:=by
 go_upto_region 6 with fail
 have qf:Hid (Below w1.heap.size w1 w1.drew):=zH (zb _ _).drew;go_region_held3 (fun w'=>w'.cell? ⟨w.heap.size+1+1,1,none⟩=some (.int .i64 a)/\w'.cell? ⟨w.heap.size+1,0,none⟩=some (.slice hx.A0 x.args.length hx.k0)/\w'.cell? ⟨w.heap.size+1,1,none⟩=some (.slice hx.A1 x.locals.length hx.k1)/\w'.cell? ⟨w.heap.size+1,2,none⟩=some (.int .i64 x.ret.1)/\w'.cell? ⟨w.heap.size+1,3,none⟩=some (.int .i64 x.ret.2)/\w'.cell? ⟨w.heap.size+1,4,none⟩=some (.slice hx.A4 x.code.length hx.k4)/\w'.cell? ⟨w.heap.size+1,5,none⟩=some (.int .i64 x.depth)/\w'.cell? ⟨w.heap.size+1,6,none⟩=some (.int .i64 x.pot)/\w'.cell? ⟨w.heap.size+1,7,none⟩=some (.slice hx.A7 x.phi.length hx.k7)) (first|exact⟨a1,p0,p1,p2,p3,p4,p5,p6,p7⟩)
  (first|(go_at_call 136;(with_reducible refine(Kz HU).mono ?_);rintro e w3 ⟨rfl,hb⟩;have zp:=zi qf hb;have HC:=zH (HC.out.keep zp.out (by have:=HZ.out;omega));have a1:=HC.out 1 _ rfl;have a2:=HC.out 2 _ rfl;have HP:=zH (HP.out.keep zp.out (by have:=HZ.out;omega));obtain⟨p0,p1,p2,p3,p4,p5,p6,p7⟩:=qp HP.out;clear hb))
 go_wp2_with fail
 go_ret;exact⟨by rw[E.out];rfl,HW.out.trans (zp.out.mono (by have:=HZ.out;omega))⟩):P:=h
theorem O4{P:Prop}(h:P:=by
 go_upto_region 15 with fail
 have qf:Hid (Below w1.heap.size w1 w1.drew):=zH (zb _ _).drew;go_region_held3 (fun w'=>w'.cell? ⟨w.heap.size+1+1,1,none⟩=some (.int .i64 a)/\w'.cell? ⟨w.heap.size+1+1,2,none⟩=some (.int .i64 b)/\w'.cell? ⟨w.heap.size,0,none⟩=some (.slice h.A0 m.classes.length h.c0)) (first|exact⟨a1,a2,q0⟩)
  (first|(go_at_call 132;(with_reducible refine(qhz HI qf HK HS HT hlt HL).mono ?_);rintro e w3 ⟨rfl,hb⟩;have zp:=zi qf hb;have HC:=zH (HC.out.keep zp.out (by have:=HZ.out;omega));have a1:=HC.out 1 _ rfl;have a2:=HC.out 2 _ rfl;have HQ:=zH (HQ.out.keep zp.out (by have:=HZ.out;omega));have q0:=HQ.out 0 _ rfl;clear hb))
 go_wp2_with fail
 go_ret;exact⟨by rw[E2.out];rfl,HW.out.trans (zp.out.mono (by have:=HZ.out;omega))⟩):P:=h
set_option maxHeartbeats 3200000 in
theorem q68(m:za)(x:zl)(op a b:Int)(N:Nat)(h:zh)(hx:qH)(w:World)(H:zr w w.heap.size h m)(HM:jR w w.heap.size hx x)(hk:Va w N h m)(h0:0<=a)(ht:aO m)(hu:iE x)(hs:Yy m.classes=true):
  Calls Tryz.prog 137 #[zv h m,ZD hx x,qt op a b,cntV N] w fun e w'=>e= .returned (.bool (zK m x op a b))/\Below w.heap.size w w':=by
 obtain⟨hq,hp,hc,hb,hz⟩:=PN w (kF h m) (qj hx x) [.int .i64 op,.int .i64 a,.int .i64 b] 29 48 50;have HQ:=zH hq;have HP:=zH hp;have HC:=zH hc;have HW:=zH hb;have HZ:=zH hz;have HI:=zH (H.now hb);have HK:=zH (hk.now hb);have HT:=zH ht;have HU:=zH hu;have HS:=zH hs;have l0:=H.classes.le;have BF:=H.classes.cap;have l1:=H.statics.le;have l1c:=H.statics.cap;have l2:=H.ints.le;have l2c:=H.ints.cap;have l3:=H.methods.le;have bz:=H.methods.cap;have l4:=HM.code.le;have l4c:=HM.code.cap;have m1:=hu.a;have m2:=hu.l;clear hq hp hc hb hz H HM hk ht hu hs;go_enter Tryz.func137,Tryz.ntmps137;go_upto_region 1 with fail
 generalize((w.alloc (.cells (kF h m).toArray 29)).alloc (.cells (qj hx x).toArray 48)).alloc (.cells [Value.int .i64 op,.int .i64 a,.int .i64 b].toArray 50)=w1 at*
 obtain⟨q0,q1,q2,q3,q4,q5,q6⟩:=ck7 HQ.out;obtain⟨p0,p1,p2,p3,p4,p5,p6,p7⟩:=qp HP.out;obtain⟨a0,a1,a2⟩:=qv HC.out;by_cases o1:op=1
 ·subst o1;have E:=zH (show zK m x 1 a b=decide (a<m.ints.length)from rfl);go_wp2_with fail
  go_ret;exact⟨by rw[E.out];rfl,HW.out⟩
 by_cases o3:op=3
 ·subst o3;have E:=zH (show zK m x 3 a b=decide (a<x.args.length+x.locals.length)from rfl);exact O5
 by_cases o4:op=4
 ·subst o4;have E:=zH (show zK m x 4 a b=decide (a<x.args.length+x.locals.length)from rfl);exact O5
 by_cases Cc:op=18
 ·subst Cc;have E:=zH (show zK m x 18 a b=decide (a<x.code.length)from rfl);go_wp2_with fail
  go_ret;exact⟨by rw[E.out];rfl,HW.out⟩
 by_cases CO:op=19
 ·subst CO;have E:=zH (show zK m x 19 a b=decide (a<x.code.length)from rfl);go_wp2_with fail
  go_ret;exact⟨by rw[E.out];rfl,HW.out⟩
 by_cases BC:op=22
 ·subst BC;have E:=zH (show zK m x 22 a b=decide (a<m.classes.length)from rfl);go_wp2_with fail
  go_ret;exact⟨by rw[E.out];rfl,HW.out⟩
 by_cases Ch:op=34
 ·subst Ch;have E:=zH (show zK m x 34 a b=decide (a<m.classes.length)from rfl);go_wp2_with fail
  go_ret;exact⟨by rw[E.out];rfl,HW.out⟩
 by_cases Bp:op=29
 ·subst Bp;have E:=zH (show zK m x 29 a b=decide (a<m.statics.length)from rfl);go_wp2_with fail
  go_ret;exact⟨by rw[E.out];rfl,HW.out⟩
 by_cases CK:op=30
 ·subst CK;have E:=zH (show zK m x 30 a b=decide (a<m.statics.length)from rfl);go_wp2_with fail
  go_ret;exact⟨by rw[E.out];rfl,HW.out⟩
 by_cases Cg:op=31
 ·subst Cg;have E:=zH (show zK m x 31 a b=decide (a<m.methods.length)from rfl);go_wp2_with fail
  go_ret;exact⟨by rw[E.out];rfl,HW.out⟩
 by_cases Cv:op=27
 ·subst Cv;have E:=zH (show zK m x 27 a b=(decide (a<m.classes.length)&& decide (b<(qg m.classes a).length))from rfl);obtain⟨L,hL⟩:=zj (qg m.classes a);rw[hL]at E;have HL:=zH hL;clear hL;by_cases hlt:a<(m.classes.length:Int)
  ·have E2:=zH (show zK m x 27 a b=decide (b<(L.length:Int))by rw[E.out,Xi hlt];rfl);exact O4
  ·have E2:=zH (show zK m x 27 a b=false by rw[E.out,Xf hlt];rfl);have hd:decide (a<(m.classes.length:Int))=false:=Xf hlt;go_upto_region 15 with fail
   go_quiet (fail)
   go_wp2_with fail
   go_ret;exact⟨by rw[E2.out];rfl,jf HW.out _⟩
 by_cases C9:op=28
 ·subst C9;have E:=zH (show zK m x 28 a b=(decide (a<m.classes.length)&& decide (b<(qg m.classes a).length))from rfl);obtain⟨L,hL⟩:=zj (qg m.classes a);rw[hL]at E;have HL:=zH hL;clear hL;by_cases hlt:a<(m.classes.length:Int)
  ·have E2:=zH (show zK m x 28 a b=decide (b<(L.length:Int))by rw[E.out,Xi hlt];rfl);exact O4
  ·have E2:=zH (show zK m x 28 a b=false by rw[E.out,Xf hlt];rfl);have hd:decide (a<(m.classes.length:Int))=false:=Xf hlt;go_upto_region 15 with fail
   go_quiet (fail)
   go_wp2_with fail
   go_ret;exact⟨by rw[E2.out];rfl,jf HW.out _⟩
 by_cases o32:op=32
 ·subst o32;have E:=zH (show zK m x 32 a b=(decide (a<m.classes.length)&& decide (b<mJ m.classes a))from rfl);by_cases hlt:a<(m.classes.length:Int)
  ·obtain⟨n,rfl⟩:=Xj h0;have hnl:n<m.classes.length:=by omega
   obtain⟨Vj,e0,hab,hcl⟩:=HI.out.classes.row.at_ hnl;have jS:=zH (show mJ m.classes (n:Int)=(m.classes[n].slots.length:Int)by unfold mJ;rw[Xo,Xc hnl]);generalize m.classes[n]=c at*
   obtain⟨_,_,⟨A2,k2,s2,hs2⟩⟩:=hcl;rw[e0]at q0;have E2:=zH (show zK m x 32 (n:Int) b=decide (b<(c.slots.length:Int))by rw[E.out,jS.out,Xi hlt];rfl);clear e0 hs2 jS;go_upto_region 22 with fail
   go_quiet (fail)
   go_wp2_with fail
   go_ret;exact⟨by rw[E2.out];rfl,jf HW.out _⟩
  ·have E2:=zH (show zK m x 32 a b=false by rw[E.out,Xf hlt];rfl);have hd:decide (a<(m.classes.length:Int))=false:=Xf hlt;go_upto_region 22 with fail
   go_quiet (fail)
   go_wp2_with fail
   go_ret;exact⟨by rw[E2.out];rfl,jf HW.out _⟩
 have E:=zH (show zK m x op a b=true by unfold zK;simp[o1,o3,o4,Cc,CO,BC,Ch,Cv,C9,Bp,CK,Cg,o32]);go_wp2_with fail
 go_ret;exact⟨by rw[E.out];rfl,HW.out⟩
def ZO(m:za)(x:zl):Bool:=decide (¬x.code.length=0)&& (decide (x.phi.length=x.code.length)&& (decide (x.args.length+x.locals.length<=8)&& VB m x))
theorem Tg{m:za}{x:zl}{op a b:Int}{N:Nat}{h:zh}{hx:qH}{w0 w:World}{r:Bool}(HI:Hid (zr w0 w0.heap.size h m))(HM:Hid (jR w0 w0.heap.size hx x))(HK:Hid (Va w0 N h m))(HX:Hid (Below w0.heap.size w0 w))(HT:Hid (aO m))(HU:Hid (iE x))(HS:Hid (Yy m.classes=true))(H0:Hid (0<=a))(HR:Hid (zK m x op a b=r)):
  Calls Tryz.prog 137 #[zv h m,ZD hx x,qt op a b,cntV N] w fun e w'=>e= .returned (.bool r)/\Below w.heap.size w w':=by
 have H:=q68 m x op a b N h hx w (HI.out.now HX.out) (HM.out.now HX.out) (HK.out.now HX.out) H0.out HT.out HU.out HS.out;rw[HR.out]at H;exact H
theorem Ij{P:Prop}(h:P:=by
 go_wp2_with((go_at_call 136;(with_reducible refine(Kz (hx:=⟨fK,fE,nW,ow,fI,gH,oO,nK⟩) HU).mono ?_);rintro e w5 ⟨rfl,hb⟩;have HX:=zi HX hb;obtain⟨jN,vj,vn,jB,vm,vk,vo⟩:=ck7 (HQ.out.keep HX.out kM.out);obtain⟨Qy,QI,QF,Qz,Zr,QA,QG,QE⟩:=qp (HP.out.keep HX.out bC.out);clear hb))
 go_ret;exact⟨by rw[E2.out];rfl,HW.out.trans (HX.out.mono Zp.out)⟩):P:=h
set_option maxHeartbeats 3200000 in
theorem q4k(m:za)(x:zl)(N:Nat)(h:zh)(hx:qH)(w:World)(H:zr w w.heap.size h m)(H':jR w w.heap.size hx x)(hk:Va w N h m)(ht:aO m)(hu:iE x)(hs:Yy m.classes=true):
  Calls Tryz.prog 102 #[zv h m,ZD hx x,cntV N] w fun e w'=>e= .returned (.bool (ZO m x))/\Below w.heap.size w w':=by
 obtain⟨hq,hp,hb,hz⟩:=Dy w (kF h m) (qj hx x) 29 48;have HQ:=zH hq;have HP:=zH hp;have HW:=zH hb;have HI:=zH (H.now hb);have HM:=zH (H'.now hb);have HK:=zH (hk.now hb);have HT:=zH ht;have HU:=zH hu;have HS:=zH hs;have kM:Hid (w.heap.size<((w.alloc (.cells (kF h m).toArray 29)).alloc (.cells (qj hx x).toArray 48)).heap.size):=zH (by omega);have bC:Hid (w.heap.size+1<((w.alloc (.cells (kF h m).toArray 29)).alloc (.cells (qj hx x).toArray 48)).heap.size):=zH (by omega);have Zp:Hid (w.heap.size<=((w.alloc (.cells (kF h m).toArray 29)).alloc (.cells (qj hx x).toArray 48)).heap.size):=zH (by omega);have m1:=hu.a;have m2:=hu.l;have m3:=H'.phi.le;have Nv:=H'.phi.cap;have m4:=H'.code.le;have m4c:=H'.code.cap;clear hq hp hb hz H H' hk ht hu hs;go_enter Tryz.func102,Tryz.ntmps102;go_upto_region 1 with fail
 generalize(w.alloc (.cells (kF h m).toArray 29)).alloc (.cells (qj hx x).toArray 48)=w1 at*
 have HX:=qP w1;obtain⟨fK,fE,nW,ow,fI,gH,oO,nK⟩:=hx;have Vi:=zH HM.out.code;dsimp only at m1 m2 m3 Nv m4 m4c Vi;obtain⟨Qy,QI,QF,Qz,Zr,QA,QG,QE⟩:=qp (HP.out.keep HX.out bC.out);dsimp only at Qy QI QF Qz Zr QA QG QE;by_cases c1:¬x.code.length=0;rotate_left
 ·have Hq:((x.code.length:Int)==0)=true:=(by grind)
  have E2:=zH (show ZO m x=false by unfold ZO;grind);exact Ij
 have Hq:((x.code.length:Int)==0)=false:=(by grind)
 have G9:=zH c1;clear c1;by_cases c2:x.phi.length=x.code.length;rotate_left
 ·have Cw:((x.phi.length:Int) !=(x.code.length:Int))=true:=(by grind)
  have E2:=zH (show ZO m x=false by unfold ZO;grind);exact Ij
 have Cw:((x.phi.length:Int) !=(x.code.length:Int))=false:=(by grind)
 have Hy:=zH c2;clear c2;by_cases c3:x.args.length+x.locals.length<=8;rotate_left
 ·have nR:(8:Int)<(x.args.length:Int)+(x.locals.length:Int):=by omega
  have E2:=zH (show ZO m x=false by unfold ZO;grind);exact Ij
 have nR:¬(8:Int)<(x.args.length:Int)+(x.locals.length:Int):=by omega
 have Oh:=zH c3;clear c3;go_wp2_with((go_at_call 136;(with_reducible refine(Kz (hx:=⟨fK,fE,nW,ow,fI,gH,oO,nK⟩) HU).mono ?_);rintro e w5 ⟨rfl,hb⟩;have HX:=zi HX hb;obtain⟨Qy,QI,QF,Qz,Zr,QA,QG,QE⟩:=qp (HP.out.keep HX.out bC.out);clear hb))
 go_loopw [30] (fun i wr=>∃k:Nat,k<=x.code.length/\i= .int .i64 k/\Hid (∀i ∈x.code.take k,zK m x i.1 i.2.1 i.2.2=true)/\Hid (Below w1.heap.size w1 wr)) (fun i _=>x.code.length - (intOf i).toNat)
 case atStart=>exact⟨0,by omega,rfl,zH (by simp),HX⟩
 case round=>
  clear HX Qy QI QF Qz Zr QA QG QE;obtain⟨k,hk,rfl,HN,HX⟩:=hrel;obtain⟨Qy,QI,QF,Qz,Zr,QA,QG,QE⟩:=qp (HP.out.keep HX.out bC.out);by_cases hlt:k<x.code.length
  ·obtain⟨ad,rfl,hab,hc⟩:=Vi.out.row.at_ hlt;have qz:=zH (fun g:(fun i:Int×Int×Int=>zK m x i.1 i.2.1 i.2.2) x.code[k]=false=>(JP hlt g:VB m x=false));have HYE:=zH (fun g:(fun i:Int×Int×Int=>zK m x i.1 i.2.1 i.2.2) x.code[k]=true=>Jk hlt HN.out g);have H0:=zH (HU.out.c _ (Xd hlt));generalize x.code[k]=ins at*
   obtain⟨op,a,b⟩:=ins;have HR:Hid (∀W,Below w1.heap.size w1 W->W.cell? (ad.add (k*3))=some (.int .i64 op)/\W.cell? (zc (ad.add (k*3)) 1)=some (.int .i64 a)/\W.cell? (zc (ad.add (k*3)) 2)=some (.int .i64 b)):=zH (fun W hW=>ju.keeps (x:=(op,a,b)) hc (by exact zZ hab) (zn _) (fun _ hq=>hW.cell hq));obtain⟨t0,t1,t2⟩:=HR.out _ HX.out;have Zl:=HM;go_upto_region 6 with fail
   have sH:=zH (qr wr [.int .i64 op,.int .i64 a,.int .i64 b] 50);have HX:=zH (HX.out.alloc HX.out.size (.cells ([.int .i64 op,.int .i64 a,.int .i64 b]:List Value).toArray 50));clear Qy QI QF Qz Zr QA QG QE t0 t1 t2;have sH:Hid (zQ (wr.alloc (.cells ([.int .i64 op,.int .i64 a,.int .i64 b]:List Value).toArray 50)) wr.heap.size [.int .i64 op,.int .i64 a,.int .i64 b]):=sH;generalize wr.alloc (.cells ([.int .i64 op,.int .i64 a,.int .i64 b]:List Value).toArray 50)=w4 at*
   generalize wr.heap.size=gi at*
   obtain⟨i0,i1,i2⟩:=qv sH.out;obtain⟨jN,vj,vn,jB,vm,vk,vo⟩:=ck7 (HQ.out.keep HX.out kM.out);obtain⟨Qy,QI,QF,Qz,Zr,QA,QG,QE⟩:=qp (HP.out.keep HX.out bC.out);have G8:=HX;obtain⟨g,hg⟩:=zj (zK m x op a b);have G:=zH hg;clear hg hc;cases g
   ·have E2:=zH (show ZO m x=false by unfold ZO;rw[show VB m x=false from qz.out G.out];simp);go_wp2_with((go_at_call 137;(with_reducible refine(Tg HI Zl HK G8 HT HU HS H0 G).mono ?_);rintro e w5 ⟨rfl,hb⟩;have HX:=zi G8 hb;clear hb))
    go_ret;exact⟨by rw[E2.out];rfl,HW.out.trans (HX.out.mono Zp.out)⟩
   ·have E2:=zH (HYE.out G.out);go_wp2_with((go_at_call 137;(with_reducible refine(Tg HI Zl HK G8 HT HU HS H0 G).mono ?_);rintro e w5 ⟨rfl,hb⟩;have HX:=zi G8 hb;clear hb))
    go_roundw;case rel=>exact⟨k+1,by omega,by go_num,E2,HX⟩
    case measure=>simp[intOf];omega
  ·have aP:=zH (show VB m x=true from JQ (l:=x.code) HN.out (by omega));have E2:=zH (show ZO m x=true by unfold ZO;rw[aP.out,Xi G9.out,Xi Hy.out,Xi Oh.out];rfl);go_wp2_with fail
   go_ret;exact⟨by rw[E2.out];rfl,HW.out.trans (HX.out.mono Zp.out)⟩
def Fq(gc:Nat):qH:=⟨none,none,some ⟨gc,0,none⟩,none,0,0,1,0⟩
def Fp(gc:Nat):List Value:=[.slice none 0 0,.slice none 0 0,.int .i64 0,.int .i64 0,.slice (some ⟨gc,0,none⟩) 1 1,.int .i64 0,.int .i64 0,.slice none 0 0]
theorem qfu(op a b:Int)(gc:Nat):Jy (mV op a b,Fq gc)=Fp gc:=rfl
structure Bb(w1 wx:World)(N g c gc:Nat)(h:zh)(m:za)(n:Nat)(op a b:Int)(zs:List (zl×qH)):Prop where
 box:zm wx N [.slice h.A0 m.classes.length h.c0,.slice h.A1 m.statics.length h.c1,.slice h.A2 m.ints.length h.c2,.slice (some ⟨g,0,none⟩) (n+1) c,.slice h.A4 m.entries.length h.c4,.int .i64 m.stack,.int .i64 m.heap] 29
 row:wx.ownsRow w1.heap.size 48 8 (.slice (some ⟨g,0,none⟩) (n+1) c) (n+1) (Jw (zs++[(mV op a b,Fq gc)]))
 code:zm wx gc [.int .i64 op,.int .i64 a,.int .i64 b] 50
 low:Below N w1 wx
theorem qi3{w:World}{g:Nat}{op a b:Int}(h:zm w g [.int .i64 op,.int .i64 a,.int .i64 b] 50):zd ju 3 w w.heap.size (some ⟨g,0,none⟩) 1 [(op,a,b)]:=
 ⟨zn _,by omega,Y6 (k:=3) ⟨h.cells 0 _ rfl,h.cells 1 _ rfl,h.cells 2 _ rfl⟩ (zm.lt h)⟩
theorem Bb.image{w w1 wx:World}{N g c gc n:Nat}{h:zh}{m:za}{op a b:Int}{zs:List (zl×qH)}(H:Bb w1 wx N g c gc h m n op a b zs)(hn:m.methods.length=n)(hI:zr w w.heap.size h m)(hz:zs.map (·.1)=m.methods/\∀z ∈zs,jR w w.heap.size z.2 z.1)(hb:Below w.heap.size w wx):
  zr wx wx.heap.size ⟨h.A0,h.A1,h.A2,some ⟨g,0,none⟩,h.A4,h.c0,h.c1,h.c2,c,h.c4⟩ (jL m op a b):=by
 have hI:=hI.now hb;have hzn:zs.length=n:=by rw[<-hn,<-hz.1,Xm]
 refine⟨hI.classes,hI.statics,hI.ints,?_,hI.entries⟩;have hs:=qgl H.row (by simp[hzn]) (fun z hm=>by
  rcases Xu.mp hm with q|q
  ·exact(hz.2 z q).now hb
  ·rw[XR.mp q];exact⟨⟨zn _,Xn _,qD.nil⟩,⟨zn _,Xn _,qD.nil⟩,qi3 H.code,⟨zn _,Xn _,qD.nil⟩⟩)
 rw[Wc,hz.1]at hs;exact hs
theorem Bb.pot{w1 wx:World}{N g c gc n:Nat}{h:zh}{m:za}{op a b:Int}{zs:List (zl×qH)}(H:Bb w1 wx N g c gc h m n op a b zs)(hn:m.methods.length=n)(hz:zs.map (·.1)=m.methods){t:Nat}(ht:t<n):wx.cell? ⟨g,t*8+6,none⟩=some (.int .i64 (zA (jL m op a b) (t:Int)).pot):=by
 have hzn:zs.length=n:=by rw[<-hn,<-hz,Xm]
 obtain⟨_,hc⟩:=lZ H.row;have hzt:(zs++[(mV op a b,Fq gc)])[t]? =some zs[t]:=by rw[XO (by omega),Xc (by omega)]
 have e:(zA (jL m op a b) (t:Int))=zs[t].1:=by
  rw[Y2 (by omega)];unfold zA;rw[Xo,<-hz,XF,Xc (by omega)];rfl
 rw[e];exact(hc (t*8+6) _ (by rw[U9 hzt (by decide)];rfl)).1
theorem qi2{m:za}{n:Nat}{op a b:Int}{h:zh}{g c:Nat}{L:List Int}{w:World}(hn:Hid (m.methods.length=n))(HI:Hid (zr w w.heap.size ⟨h.A0,h.A1,h.A2,some ⟨g,0,none⟩,h.A4,h.c0,h.c1,h.c2,c,h.c4⟩ (jL m op a b)))(HC:Hid ((jL m op a b).classes.length<=1000/\(jL m op a b).methods.length<=1048576/\∀x ∈(jL m op a b).methods,x.code.length<=1048576))(HR:Hid (kO (jL m op a b) (m.methods.length:Int)=L)):
  Calls Tryz.prog 112 #[.agg #[.slice h.A0 m.classes.length h.c0,.slice h.A1 m.statics.length h.c1,.slice h.A2 m.ints.length h.c2,.slice (some ⟨g,0,none⟩) (n+1) c,.slice h.A4 m.entries.length h.c4,.int .i64 m.stack,.int .i64 m.heap],.int .i64 n] w fun e w'=>∃A c,e= .returned (.slice A L.length c)/\zd zu 1 w' w'.heap.size A c L/\(∀ad,A=some ad->w.heap.size<=ad.block)/\Below w.heap.size w w':=by
 have H:=q0a (w0:=w) (f:=(m.methods.length:Int)) HI (zH (zb _ _)) HC HR;have e:zv ⟨h.A0,h.A1,h.A2,some ⟨g,0,none⟩,h.A4,h.c0,h.c1,h.c2,c,h.c4⟩ (jL m op a b)= .agg #[.slice h.A0 m.classes.length h.c0,.slice h.A1 m.statics.length h.c1,.slice h.A2 m.ints.length h.c2,.slice (some ⟨g,0,none⟩) (n+1) c,.slice h.A4 m.entries.length h.c4,.int .i64 m.stack,.int .i64 m.heap]:=by
  show Value.agg #[.slice h.A0 m.classes.length h.c0,.slice h.A1 m.statics.length h.c1,.slice h.A2 m.ints.length h.c2,.slice (some ⟨g,0,none⟩) (jL m op a b).methods.length c,.slice h.A4 m.entries.length h.c4,.int .i64 m.stack,.int .i64 m.heap]=_;rw[Au,hn.out]
 rw[e,hn.out]at H;exact H
theorem yI{w:World}{base e k n:Nat}{v:Value}{xs:List Value}(h:w.ownsRow base e k v n xs):∀g,v.ownBlock=some g->g<w.heap.size:=fun g hg=>(h.lt g hg).2
theorem q7u{w:World}{g:Nat}{vs:List Value}{T:TypeId}(h:zm w g vs T):zw w w.heap.size (some ⟨g,0,none⟩) vs:=fun j u hj=>⟨_,rfl,zm.lt h,by rw[show Addr.add ⟨g,0,none⟩ j=⟨g,j,none⟩by unfold Addr.add;split<;>simp_all];exact h.cells j u hj⟩
theorem qb8(gc:Nat):∀u ∈Fp gc,u.oneCell'=true:=fun u hu=>by
 unfold Fp at hu;simp at hu;rcases hu with rfl|rfl|rfl|rfl|rfl|rfl|rfl|rfl<;>rfl
theorem q3h{W:World}{base:Nat}{e:TypeId}{size:Nat}{v:Value}{k:Nat}{xs:List Value}(h:W.ownsRow base e size v (k+1) xs):∃g cap,v= .slice (some ⟨g,0,none⟩) (k+1) cap:=by
 rcases Je h with⟨_,h0⟩|⟨g,cap,rfl,_⟩
 ·omega
 ·exact⟨g,cap,rfl⟩
theorem q0m{w:World}{base e k n g:Nat}{v:Value}{xs vs:List Value}{T:TypeId}(h:w.ownsRow base e k v n xs)(hw:zm w g vs T)(hT:e≠T):v.ownBlock≠some g:=fun hv=>by
 rcases h.2 with⟨rfl,_⟩|⟨g',cap,cur,rfl,_,hh,_⟩
 ·cases hv
 ·have:g'=g:=by simpa[Value.ownBlock]using hv
  subst this;unfold zm at hw;rw[hw]at hh;injection hh with hh;injection hh with _ h2 _;exact hT h2.symm
theorem qfe{w:World}{g g':Nat}{vs vs':List Value}{T T':TypeId}(h:zm w g vs T)(h':zm w g' vs' T')(hT:T≠T'):g≠g':=fun e=>by
 subst e;unfold zm at h h';rw[h]at h';injection h' with h';injection h' with _ h2 _;exact hT h2
theorem Ul{w w':World}{g:Nat}{vs:List Value}{T:TypeId}{row:Option Nat}(h:zm w g vs T)(hg:w.grownBy w' row)(hne:row≠some g):zm w' g vs T:=(hg.block g (zm.lt h) (fun e=>hne e.symm)).trans h
theorem qco(zs:List (zl×qH))(z:zl×qH):Jw (zs++[z])=Jw zs++Jy z:=by unfold Jw;simp
theorem q3j{w:World}{base e k n B i:Nat}{v u:Value}{xs:List Value}(h:w.ownsRow B e k v n xs)(hN:base<=B){w1:World}{vs:List Value}{T:TypeId}(hW:zm w1 base vs T)(hB:B=w1.heap.size:=by rfl):(w.setCell ⟨base,i,none⟩ u).ownsRow B e k v n xs:=by
 refine⟨h.1,?_⟩;have:=zm.lt hW;rcases h.2 with h0|⟨g,cap,cur,hv,hb,hh,rest⟩
 ·exact .inl h0
 ·exact .inr ⟨g,cap,cur,hv,hb,by rw[XJ _ _ _ _ (by show g≠base;omega)];exact hh,rest⟩
abbrev insO(op a b:Int):Obj:= .cells #[.int .i64 op,.int .i64 a,.int .i64 b] 50
abbrev nu(gc:Nat):Obj:= .cells #[.slice none 0 0,.slice none 0 0,.int .i64 0,.int .i64 0,.slice (some ⟨gc,0,none⟩) 1 1,.int .i64 0,.int .i64 0,.slice none 0 0] 48
theorem kpW{w w':World}{g:Nat}{L:List Value}{T:TypeId}(h:Hid (zm w g L T))(hb:Below w.heap.size w w'):Hid (zm w' g L T):=zH (h.out.keep hb (zm.lt h.out))
theorem newI(w:World)(op a b:Int):Below w.heap.size w (w.alloc (insO op a b))/\Hid (zm (w.alloc (insO op a b)) w.heap.size [.int .i64 op,.int .i64 a,.int .i64 b] 50):=⟨zk,zH (zm.new w _ _)⟩
theorem newS(w:World)(gc:Nat):Below w.heap.size w (w.alloc (nu gc))/\Hid (zm (w.alloc (nu gc)) w.heap.size [.slice none 0 0,.slice none 0 0,.int .i64 0,.int .i64 0,.slice (some ⟨gc,0,none⟩) 1 1,.int .i64 0,.int .i64 0,.slice none 0 0] 48):=⟨zk,zH (zm.new w _ _)⟩
theorem mR2{P:Program}{md:Region.Mode}{ops:Array Oper}{Q:Exit->Act->World->Prop}{S:World->Prop}{fuel:Nat}{listed:Array Bool}{a:Act}{w:World}(r s:Nat){o o':Oper}(hr:Region.ready md ops listed=[r,s]:=by kernel_rfl)(ho:ops[r]? =some o:=by rfl)(ho':ops[s]? =some o':=by rfl)
  (h:∀K:Act->World->Prop,Shut (∀a w,S w->(S w->wpAnyH P md ops Q S fuel (listed.setIfInBounds r true) a w)->K a w)->if Region.wanted o (yielded ops a.tmps)=true then Oper.wp P o a w K Q else K (a.put o.dst undef) w)
  (k:∀K:Act->World->Prop,Shut (∀a w,S w->(S w->wpAnyH P md ops Q S fuel (listed.setIfInBounds s true) a w)->K a w)->if Region.wanted o' (yielded ops a.tmps)=true then Oper.wp P o' a w K Q else K (a.put o'.dst undef) w):wpAnyH P md ops Q S (fuel+1) listed a w:=
 wpAnyH_ready hr (by simp) (AllReadyH.cons ho h (AllReadyH.cons ho' k AllReadyH.nil))
theorem uL{P:Prop}(h:P:=by
 refine mK hK (qI.out _ HX.out) (h:=fun hHeld=> ?_);clear hK K;refine mR 7 (h:=fun K hK=> ?_);refine gL rfl _ _ 26 rfl w1.heap.size 48 ti z0 8 128 Tryz.underlying26 hti ht0 ht2 ht3 ht1 (by decide) _ n (Jw zs) rfl HO.out (some ⟨gt,0,none⟩) 1 1 _ (Fp gc) rfl rfl (q7u HT.out) (qb8 gc) (by unfold maxLen;omega) (by omega) HX.out.size ?_;intro v9 w9 hown hgrow;have FB:=jx HX.out HO.out HX.out.size hgrow;have Gw:=HW1.out.keep FB (zm.lt HW1.out);obtain⟨g9,c9,rfl⟩:=q3h hown;have hC9:=Ul HC.out hgrow (q0m HO.out HC.out (by decide));have hO9:Hid (w9.ownsRow w1.heap.size 48 8 (.slice (some ⟨g9,0,none⟩) (n+1) c9) (n+1) (Jw (zs++[(mV op a b,Fq gc)]))):=zH (by rw[qco,qfu];exact hown);refine mK hK (qI.out _ FB) (h:=fun hHeld=> ?_);clear hK K;refine mT 8 (h:= ?_);refine mR 9 (h:=fun K hK=> ?_);have q3:=Gw.cells 3 _ rfl;have f3:=Gw.free 3;go_simp;refine mK hK (GX.out _ _ FB) (h:=fun hHeld=> ?_);clear hK K;refine wpAnyH_done (by kernel_rfl) ?_ _;refine NoPanic.normal ?_;go_wp2_with fail
 go_meet
 exact⟨g9,c9,gc,zH ⟨Gw.set 3 _,q3j hO9.out oo.out HW1.out,(XJ _ _ _ gc (by show gc≠w.heap.size;exact qfe hC9 Gw (by decide))).trans hC9,(FB.mono oo.out).setCell (p:=⟨w.heap.size,3,none⟩) (zn _) _⟩⟩):P:=h
set_option maxHeartbeats 12800000 in
theorem qc5(m:za)(n:Nat)(op a b:Int)(h:zh)(w:World)(H:zr w w.heap.size h m)(hn:m.methods.length=n)(hcl:m.classes.length<=1000)(hml:n<=1000)(h0:0<n)(hc:∀x ∈m.methods,x.code.length<=1048576)(ht:∀t ∈qC m op a b,0<=t/\t<m.methods.length):
  Calls Tryz.prog 184 #[zv h m,qt op a b] w fun e w'=>e= .returned (.int .i64 (jp m (qC m op a b)))/\Below w.heap.size w w':=by
 obtain⟨zs,hz,hzl,hzi⟩:=qjo H.methods.row;have hzn:zs.length=n:=by rw[<-hn,<-hz,Xm]
 have Ot:=zH (qb6 ht);have HCO:Hid ((jL m op a b).classes.length<=1000/\(jL m op a b).methods.length<=1048576/\∀x ∈(jL m op a b).methods,x.code.length<=1048576):=zH ⟨hcl,by rw[Au];omega,fun x hx=>by
  rcases Xu.mp hx with q|q
  ·exact hc x q
  ·rw[XR.mp q];exact(show 1<=1048576 by omega)⟩
 have wV:Hid (∀t ∈kO (jL m op a b) (m.methods.length:Int),0<=t/\t<m.methods.length):=zH (fun t hm=>ht t ((Rt ht t).mp hm));have Qe:Hid ((kO (jL m op a b) (m.methods.length:Int)).length<=1001):=zH (by have:=Ur (jL m op a b) (m.methods.length:Int);rw[Au]at this;omega);have HI:=zH H;have HZS:Hid (zs.map (·.1)=m.methods/\∀z ∈zs,jR w w.heap.size z.2 z.1):=zH ⟨hz,hzi⟩;have fH:=zH hzn;have Yf:=zH hn;have hcap:=H.methods.cap;have hle:=H.methods.le;rw[hn]at hle;obtain⟨Zt,hA3⟩:∃ad,h.A3=some ad:=by
  obtain⟨ad,_,e,_⟩:=Zx H (show 0<m.methods.length by omega);exact⟨ad,e⟩
 rw[hA3]at hzl;have HLZ:=zH hzl;obtain⟨A0,A1,A2,A3,A4,k0,k1,k2,k3,k4⟩:=h;dsimp only at hA3 hcap hle;subst hA3;obtain⟨V,hV⟩:=zj (jp m (qC m op a b));rw[hV]at Ot⊢
 clear H hz hzi hzl hzn hc ht hV hn;obtain⟨ti,z0,hti,ht0,ht1,ht2,ht3⟩:=R6 T9;go_enter Tryz.func184,Tryz.ntmps184;go_upto_region 1 with fail
 have hW1:zm ((w.alloc (ze ⟨A0,A1,A2,some Zt,A4,k0,k1,k2,k3,k4⟩ m)).alloc (.cells #[.int .i64 op,.int .i64 a,.int .i64 b] 50)) w.heap.size [.slice A0 m.classes.length k0,.slice A1 m.statics.length k1,.slice A2 m.ints.length k2,.slice (some Zt) m.methods.length k3,.slice A4 m.entries.length k4,.int .i64 m.stack,.int .i64 m.heap] 29:=zm.keep (zm.new w [.slice A0 m.classes.length k0,.slice A1 m.statics.length k1,.slice A2 m.ints.length k2,.slice (some Zt) m.methods.length k3,.slice A4 m.entries.length k4,.int .i64 m.stack,.int .i64 m.heap] 29) (zk) (by simp);have hW2:zm ((w.alloc (ze ⟨A0,A1,A2,some Zt,A4,k0,k1,k2,k3,k4⟩ m)).alloc (.cells #[.int .i64 op,.int .i64 a,.int .i64 b] 50)) (w.heap.size+1) [.int .i64 op,.int .i64 a,.int .i64 b] 50:=zm.at_ (by simp) _ _;have hB1:Below w.heap.size w ((w.alloc (ze ⟨A0,A1,A2,some Zt,A4,k0,k1,k2,k3,k4⟩ m)).alloc (.cells #[.int .i64 op,.int .i64 a,.int .i64 b] 50)):=(zk (w:=w)).alloc (by simp) _;generalize(w.alloc (ze ⟨A0,A1,A2,some Zt,A4,k0,k1,k2,k3,k4⟩ m)).alloc (.cells #[.int .i64 op,.int .i64 a,.int .i64 b] 50)=w1 at*
 rw[Yf.out]at hW1;have HB1:=zH hB1;have HW1:=zH hW1;have HW2:=zH hW2;clear hW1 hW2 hB1;have q3:=HW1.out.cells 3 _ rfl;go_upto_region 2 with fail
 clear q3;have yg:Hid (zw w1 w.heap.size (some Zt) (Jw zs)):=zH (HLZ.out.below_to HB1.out (zn _));have oo:Hid (w.heap.size<=w1.heap.size):=zH HB1.out.size;go_cut [] (fun wx=>∃g c gc,Hid (Bb w1 wx w.heap.size g c gc ⟨A0,A1,A2,some Zt,A4,k0,k1,k2,k3,k4⟩ m n op a b zs))
 case first=>
  have HX:Hid (Below w1.heap.size w1 w1.drew):=zH (zb _ _).drew;have HBX:Hid (zm w1.drew w.heap.size [.slice A0 m.classes.length k0,.slice A1 m.statics.length k1,.slice A2 m.ints.length k2,.slice (some Zt) n k3,.slice A4 m.entries.length k4,.int .i64 m.stack,.int .i64 m.heap] 29):=HW1;have qI:Hid (∀W,Below w1.heap.size w1 W->(fun w'=>w'.cell? ⟨w.heap.size+1,0,none⟩=some (.int .i64 op)/\w'.cell? ⟨w.heap.size+1,1,none⟩=some (.int .i64 a)/\w'.cell? ⟨w.heap.size+1,2,none⟩=some (.int .i64 b)) W):=zH (fun W hW=>by
   have:=HW2.out.keep hW (zm.lt HW2.out);exact⟨this.cells 0 _ rfl,this.cells 1 _ rfl,this.cells 2 _ rfl⟩)
  have GX:Hid (∀W v,Below w1.heap.size w1 W->(fun w'=>w'.cell? ⟨w.heap.size+1,0,none⟩=some (.int .i64 op)/\w'.cell? ⟨w.heap.size+1,1,none⟩=some (.int .i64 a)/\w'.cell? ⟨w.heap.size+1,2,none⟩=some (.int .i64 b)) (W.setCell ⟨w.heap.size,3,none⟩ v)):=zH (fun W v hW=>by
   obtain⟨s0,s1,s2⟩:=qI.out W hW;have hne:w.heap.size≠w.heap.size+1:=by omega
   exact⟨(World.cell?_setCell_far _ _ _ _ hne).trans s0,(World.cell?_setCell_far _ _ _ _ hne).trans s1,(World.cell?_setCell_far _ _ _ _ hne).trans s2⟩)
  refine wp_region_noPanic ?_;refine wp_region_held_drew (S:=fun w'=>w'.cell? ⟨w.heap.size+1,0,none⟩=some (.int .i64 op)/\w'.cell? ⟨w.heap.size+1,1,none⟩=some (.int .i64 a)/\w'.cell? ⟨w.heap.size+1,2,none⟩=some (.int .i64 b)) (by kernel_rfl) (qI.out _ HX.out) (fun hHeld=> ?_);generalize w1.drew=w2 at HX HBX hHeld⊢
  refine mT 0 (h:=mT 3 (h:= ?_));refine mR2 1 4 (h:=fun K hK=> ?_) (k:=fun K hK=> ?_)
  ·have q3:=HBX.out.cells 3 _ rfl;go_simp;clear q3;refine mK hK (qI.out _ HX.out) (h:=fun hHeld=> ?_);clear hK K;refine mR2 2 4 (h:=fun K hK=> ?_) (k:=fun K hK=> ?_)
   ·go_simp;(go_at_call 197;(with_reducible refine(uT fH yg HX oo (zH h0) (zH (by omega))).mono ?_);rintro e NU ⟨gi,ci,rfl,ho,hA⟩;have HO:=zH (js ho HX.out.size);replace HX:=zi HX hA;replace HBX:=kpW HBX hA;clear ho hA)
    refine mK hK (qI.out _ HX.out) (h:=fun hHeld=> ?_);clear hK K;refine mR 4 (h:=fun K hK=> ?_);go_simp;obtain⟨hA,HC⟩:=newI NU op a b;replace HX:=zi HX hA;replace HBX:=kpW HBX hA;replace HO:=zH (Yr HO.out hA (yI HO.out));clear hA;generalize NU.alloc (insO op a b)=Og at HX HBX HC HO⊢;generalize NU.heap.size=gc at HC⊢
    refine mK hK (qI.out _ HX.out) (h:=fun hHeld=> ?_);clear hK K;refine mT 5 (h:= ?_);refine mR 6 (h:=fun K hK=> ?_);go_simp;obtain⟨hA,HT⟩:=newS Og gc;replace HX:=zi HX hA;replace HBX:=kpW HBX hA;replace HO:=zH (Yr HO.out hA (yI HO.out));replace HC:=kpW HC hA;clear hA;generalize Og.alloc (nu gc)=w105 at HX HBX HT HO HC⊢;generalize Og.heap.size=gt at HT⊢
    exact uL
   ·go_simp;obtain⟨hA,HC⟩:=newI w2 op a b;replace HX:=zi HX hA;replace HBX:=kpW HBX hA;clear hA;generalize w2.alloc (insO op a b)=MJ at HX HBX HC⊢;generalize w2.heap.size=gc at HC⊢
    refine mK hK (qI.out _ HX.out) (h:=fun hHeld=> ?_);clear hK K;refine mT 5 (h:= ?_);refine mR2 2 6 (h:=fun K hK=> ?_) (k:=fun K hK=> ?_)
    ·go_simp;(go_at_call 197;(with_reducible refine(uT fH yg HX oo (zH h0) (zH (by omega))).mono ?_);rintro e Nq ⟨gi,ci,rfl,ho,hA⟩;have HO:=zH (js ho HX.out.size);replace HX:=zi HX hA;replace HBX:=kpW HBX hA;replace HC:=kpW HC hA;clear ho hA)
     refine mK hK (qI.out _ HX.out) (h:=fun hHeld=> ?_);clear hK K;refine mR 6 (h:=fun K hK=> ?_);go_simp;obtain⟨hA,HT⟩:=newS Nq gc;replace HX:=zi HX hA;replace HBX:=kpW HBX hA;replace HO:=zH (Yr HO.out hA (yI HO.out));replace HC:=kpW HC hA;clear hA;generalize Nq.alloc (nu gc)=w109 at HX HBX HT HO HC⊢;generalize Nq.heap.size=gt at HT⊢
     exact uL
    ·go_simp;obtain⟨hA,HT⟩:=newS MJ gc;replace HX:=zi HX hA;replace HBX:=kpW HBX hA;replace HC:=kpW HC hA;clear hA;generalize MJ.alloc (nu gc)=w111 at HX HBX HT HC⊢;generalize MJ.heap.size=gt at HT⊢
     refine mK hK (qI.out _ HX.out) (h:=fun hHeld=> ?_);clear hK K;refine mR 2 (h:=fun K hK=> ?_);go_simp;(go_at_call 197;(with_reducible refine(uT fH yg HX oo (zH h0) (zH (by omega))).mono ?_);rintro e w112 ⟨gi,ci,rfl,ho,hA⟩;have HO:=zH (js ho HX.out.size);replace HX:=zi HX hA;replace HBX:=kpW HBX hA;replace HC:=kpW HC hA;replace HT:=kpW HT hA;clear ho hA)
     exact uL
  ·go_simp;obtain⟨hA,HC⟩:=newI w2 op a b;replace HX:=zi HX hA;replace HBX:=kpW HBX hA;clear hA;generalize w2.alloc (insO op a b)=xJ at HX HBX HC⊢;generalize w2.heap.size=gc at HC⊢
   refine mK hK (qI.out _ HX.out) (h:=fun hHeld=> ?_);clear hK K;refine mT 5 (h:= ?_);refine mR2 1 6 (h:=fun K hK=> ?_) (k:=fun K hK=> ?_)
   ·have q3:=HBX.out.cells 3 _ rfl;go_simp;clear q3;refine mK hK (qI.out _ HX.out) (h:=fun hHeld=> ?_);clear hK K;refine mR2 2 6 (h:=fun K hK=> ?_) (k:=fun K hK=> ?_)
    ·go_simp;(go_at_call 197;(with_reducible refine(uT fH yg HX oo (zH h0) (zH (by omega))).mono ?_);rintro e OL ⟨gi,ci,rfl,ho,hA⟩;have HO:=zH (js ho HX.out.size);replace HX:=zi HX hA;replace HBX:=kpW HBX hA;replace HC:=kpW HC hA;clear ho hA)
     refine mK hK (qI.out _ HX.out) (h:=fun hHeld=> ?_);clear hK K;refine mR 6 (h:=fun K hK=> ?_);go_simp;obtain⟨hA,HT⟩:=newS OL gc;replace HX:=zi HX hA;replace HBX:=kpW HBX hA;replace HO:=zH (Yr HO.out hA (yI HO.out));replace HC:=kpW HC hA;clear hA;generalize OL.alloc (nu gc)=w116 at HX HBX HT HO HC⊢;generalize OL.heap.size=gt at HT⊢
     exact uL
    ·go_simp;obtain⟨hA,HT⟩:=newS xJ gc;replace HX:=zi HX hA;replace HBX:=kpW HBX hA;replace HC:=kpW HC hA;clear hA;generalize xJ.alloc (nu gc)=w118 at HX HBX HT HC⊢;generalize xJ.heap.size=gt at HT⊢
     refine mK hK (qI.out _ HX.out) (h:=fun hHeld=> ?_);clear hK K;refine mR 2 (h:=fun K hK=> ?_);go_simp;(go_at_call 197;(with_reducible refine(uT fH yg HX oo (zH h0) (zH (by omega))).mono ?_);rintro e w119 ⟨gi,ci,rfl,ho,hA⟩;have HO:=zH (js ho HX.out.size);replace HX:=zi HX hA;replace HBX:=kpW HBX hA;replace HC:=kpW HC hA;replace HT:=kpW HT hA;clear ho hA)
     exact uL
   ·go_simp;obtain⟨hA,HT⟩:=newS xJ gc;replace HX:=zi HX hA;replace HBX:=kpW HBX hA;replace HC:=kpW HC hA;clear hA;generalize xJ.alloc (nu gc)=w121 at HX HBX HT HC⊢;generalize xJ.heap.size=gt at HT⊢
    refine mK hK (qI.out _ HX.out) (h:=fun hHeld=> ?_);clear hK K;refine mR 1 (h:=fun K hK=> ?_);have q3:=HBX.out.cells 3 _ rfl;go_simp;clear q3;refine mK hK (qI.out _ HX.out) (h:=fun hHeld=> ?_);clear hK K;refine mR 2 (h:=fun K hK=> ?_);go_simp;(go_at_call 197;(with_reducible refine(uT fH yg HX oo (zH h0) (zH (by omega))).mono ?_);rintro e w122 ⟨gi,ci,rfl,ho,hA⟩;have HO:=zH (js ho HX.out.size);replace HX:=zi HX hA;replace HBX:=kpW HBX hA;replace HC:=kpW HC hA;replace HT:=kpW HT hA;clear ho hA)
    exact uL
 case rest=>
  obtain⟨g6,c6,gc,HS⟩:=hcut;have hlow:=HB1.out.trans (HS.out.low.mono (zn _));have HIX:=zH (HS.out.image Yf.out HI.out HZS.out hlow);obtain⟨L,hL⟩:=zj (kO (jL m op a b) (m.methods.length:Int));rw[hL]at wV Qe Ot;have HLC:=zH hL;have wZ:=zH hlow;have ki:Hid (∀t:Nat,t<n->wc.cell? ⟨g6,t*8+6,none⟩=some (.int .i64 (zA (jL m op a b) (t:Int)).pot)):=zH (fun t ht=>HS.out.pot Yf.out HZS.out.1 ht);have qR:Hid (g6<wc.heap.size):=zH (yI HS.out.row g6 rfl);have zT:=zH HS.out.box;have hzb:=zm.lt HS.out.box;clear hL hlow;have q0:=zT.out.cells 0 _ rfl;have q1:=zT.out.cells 1 _ rfl;have q2:=zT.out.cells 2 _ rfl;have q3:=zT.out.cells 3 _ rfl;have q4:=zT.out.cells 4 _ rfl;have q5:=zT.out.cells 5 _ rfl;have q6:=zT.out.cells 6 _ rfl;go_wp2_with(go_at_call 112;(with_reducible refine(qi2 (h:=⟨A0,A1,A2,some Zt,A4,k0,k1,k2,k3,k4⟩) Yf HIX HCO HLC).mono ?_);rintro e w7 ⟨A7,c7,rfl,hs,_,hb⟩;have Bv:=zH hs;have Zf:=zH hb;clear hs hb)
  clear q0 q1 q2 q3 q4 q5 q6;have hc1:=Bv.out.le;have hc2:=Bv.out.cap;have Qx:=Qe.out;go_loopw [6,25] (fun v i wr=>∃k:Nat,k<=L.length/\i= .int .i64 k/\v= .int .i64 (jp (jL m op a b) (L.take k))/\Hid (Below w7.heap.size w7 wr)) (fun _ i _=>L.length - (intOf i).toNat)
  case atStart=>exact⟨0,Xn _,rfl,rfl,zH (zb _ _)⟩
  case round=>
   obtain⟨k,hk,rfl,rfl,HY⟩:=hrel;by_cases hlt:k<L.length
   ·have hkl:(k:Int)<(L.length:Int):=by omega
    obtain⟨ad,rfl,hab,hc0⟩:=Bv.out.row.at_ hlt;have hcr:=wV.out _ (Xd hlt);have HTK:=zH (K9 (m:=jL m op a b) hlt);replace hc0:w7.cell? (ad.add k)=some (.int .i64 L[k]):=by have:=hc0;rw[Xq]at this;exact this
    obtain⟨t,ht⟩:=Xj hcr.1;rw[ht]at hc0 hcr HTK;have hnn:=Yf.out;have htn:t<n:=by omega
    have hti:(t:Int)<((n+1:Nat):Int):=by omega
    have hti2:(t:Int)<(n:Int)+1:=by omega
    have hX:=zD Zf HY;have c1:=(HY.out.cell (p:=ad.add k) (by exact zZ hab)).trans hc0;have c2:=(hX.cell (p:=⟨g6,t*8+6,none⟩) qR.out).trans (ki.out t htn);have q3:=(hX.cell (p:=⟨w.heap.size,3,none⟩) hzb).trans (zT.out.cells 3 _ rfl);unfold ko at HTK;generalize jp (jL m op a b) (L.take k)=M at*
    generalize(zA (jL m op a b) (t:Int)).pot=P at*
    obtain⟨v,hv⟩:=zj ((if P>M then P else M));have hmax:max M P=v:=by rw[Int.max_def,<-hv];split<;>split<;>omega
    rw[hv]at HTK;clear hX hc0 ht hnn hcr;go_wp2_with fail
    go_roundw;case rel=>exact⟨k+1,by omega,by go_num,by rw[HTK.out],HY⟩
    case measure=>simp[intOf];omega
   ·obtain rfl:k=L.length:=by omega
    rw[XL,Ot.out];go_wp2_with fail
    go_ret;exact⟨rfl,wZ.out.trans ((zD Zf HY).mono wZ.out.size)⟩
theorem U1{m:za}{n:Nat}{op a b v:Int}{h:zh}{w0 w:World}(HI:Hid (zr w0 w0.heap.size h m))(HX:Hid (Below w0.heap.size w0 w))(HN:Hid (m.methods.length=n))(HC:Hid (m.classes.length<=1000/\n<=1000/\0<n/\(∀x ∈m.methods,x.code.length<=1048576)/\∀t ∈qC m op a b,0<=t/\t<m.methods.length))(HV:Hid (jp m (qC m op a b)=v)):
  Calls Tryz.prog 184 #[zv h m,qt op a b] w fun e w'=>e= .returned (.int .i64 v)/\Below w.heap.size w w':=by
 have H:=qc5 m n op a b h w (HI.out.now HX.out) HN.out HC.out.1 HC.out.2.1 HC.out.2.2.1 HC.out.2.2.2.1 HC.out.2.2.2.2;rw[HV.out]at H;exact H
theorem qhy{m:za}{c v:Int}{h:zh}{w0 w:World}(HI:Hid (zr w0 w0.heap.size h m))(HX:Hid (Below w0.heap.size w0 w))(HC:Hid (m.classes.length<=1000/\∀x ∈m.classes,x.fields.length<=1000))(HV:Hid (1+((qg m.classes c).length:Int)=v)):
  Calls Tryz.prog 183 #[zv h m,.int .i64 c] w fun e w'=>e= .returned (.int .i64 v)/\Below w.heap.size w w':=by
 have H:=qeb m c h w (HI.out.now HX.out) HC.out.1 HC.out.2;rw[HV.out]at H;exact H
set_option maxHeartbeats 3200000 in
theorem qc7(m:za)(x:zl)(op a b:Int)(h:zh)(w:World)(H:zr w w.heap.size h m)(hm:zP m)(hx:x ∈m.methods)(hi:(op,a,b) ∈x.code):
  Calls Tryz.prog 151 #[zv h m,qt op a b] w fun e w'=>e= .returned (.int .i64 (QP m op a b))/\Below w.heap.size w w':=by
 have hs:=Dr ((hm.method hx).fits.ct _ hi);dsimp only at hs;obtain⟨n,hn⟩:=zj (m.methods.length);have Vq:0<n:=by rw[<-hn];exact List.length_pos_of_mem hx
 have Zn:Hid (m.classes.length<=1000/\∀x ∈m.classes,x.fields.length<=1000):=zH ⟨by have:=hm.fits.cl;omega,fun c hc=>by have:=(hm.fits.ct c hc).fl;omega⟩;have kB:Hid (m.classes.length<=1000/\n<=1000/\0<n/\(∀x ∈m.methods,x.code.length<=1048576)/\∀t ∈qC m op a b,0<=t/\t<m.methods.length):=zH ⟨by have:=hm.fits.cl;omega,by have:=hm.fits.ml;omega,Vq,fun y hy=>by have:=(hm.method hy).fits.cl;omega,Rl hm hx hi⟩;have HN:=zH hn;obtain⟨V,hV⟩:=zj (QP m op a b);have HV:=zH hV;rw[hV];obtain⟨hq,hc,hb,hz⟩:=uP h m op a b w;have HW:=zH hb;have HC:=zH hc;have HBX:=zH hq;have zO:=zH (H.now hb);clear hb hq hc hz H hn hV hm hx hi Vq;go_enter Tryz.func151,Tryz.ntmps151;go_upto_region 1 with fail
 generalize(w.alloc (ze h m)).alloc (.cells #[.int .i64 op,.int .i64 a,.int .i64 b] 50)=w1 at*
 have HX0:=qP w1;obtain⟨q0,q1,q2,q3,q4,q5,q6⟩:=HBX.out;have j0:=HC.out 0 _ rfl;have j1:=HC.out 1 _ rfl;have j2:=HC.out 2 _ rfl;by_cases h22:op=22
 ·subst h22;have fT:Hid (1+((qg m.classes a).length:Int)=V):=zH (by have:=HV.out;unfold QP at this;rw[Xb rfl]at this;exact this);go_wp2_with(go_at_call 183;(with_reducible refine(qhy zO HX0 Zn fT).mono ?_);rintro e w5 ⟨rfl,hb⟩;have HX:=zH hb;clear hb)
  go_ret;exact⟨rfl,zD HW HX⟩
 by_cases h23:op=23
 ·subst h23;have e:1+a=V:=by have:=HV.out;unfold QP at this;rw[Xa (by decide),Xb rfl]at this;exact this
  subst e;go_wp2_with fail
  go_ret;exact⟨rfl,HW.out⟩
 have e:jp m (qC m op a b)=V:=by have:=HV.out;unfold QP at this;rw[Xa h22,Xa h23]at this;exact this
 by_cases h31:op=31
 ·subst h31;have fT:=zH e;clear e;go_wp2_with(go_at_call 184;(with_reducible refine(U1 zO HX0 HN kB fT).mono ?_);rintro e w5 ⟨rfl,hb⟩;have HX:=zH hb;clear hb)
  go_ret;exact⟨rfl,zD HW HX⟩
 by_cases h32:op=32
 ·subst h32;have fT:=zH e;clear e;go_wp2_with(go_at_call 184;(with_reducible refine(U1 zO HX0 HN kB fT).mono ?_);rintro e w5 ⟨rfl,hb⟩;have HX:=zH hb;clear hb)
  go_ret;exact⟨rfl,zD HW HX⟩
 have e0:0=V:=by
  rw[<-e];unfold qC;rw[Xa h31,Xa h32];rfl
 subst e0;clear e;go_wp2_with fail
 go_ret;exact⟨rfl,HW.out⟩
theorem qgg{m:za}{x:zl}{op a b v:Int}{h:zh}{w0 w:World}(HI:Hid (zr w0 w0.heap.size h m))(HX:Hid (Below w0.heap.size w0 w))(HM:Hid (zP m))(QT:Hid (x ∈m.methods))(HC:Hid ((op,a,b) ∈x.code))(HV:Hid (QP m op a b=v)):
  Calls Tryz.prog 151 #[zv h m,qt op a b] w fun e w'=>e= .returned (.int .i64 v)/\Below w.heap.size w w':=by
 have H:=qc7 m x op a b h w (HI.out.now HX.out) HM.out QT.out HC.out;rw[HV.out]at H;exact H
