import Derived.Test.YtcmiljnbmgkdnaaGreatFA05
namespace Go.Proofs.YtcmiljnbmgkdnaaGreat
set_option maxRecDepth 100000
set_option linter.unusedVariables false
set_option linter.unusedSimpArgs false
open Go.ChangeShapes Go.WideShapes Go.ChangeAt Go.RowKit
def Yf(cl:List zO)(a:Int):Int:=match cl[a.toNat]? with
 |some c=>c.slots.length
 |none=>0
def zC(m:za)(x:zf)(op a b:Int):Bool:=
 if op=1 then decide (a<m.ints.length)else
 if op=3∨op=4 then decide (a<x.args.length+x.locals.length)else
 if op=18∨op=19 then decide (a<x.code.length)else
 if op=22∨op=34 then decide (a<m.classes.length)else
 if op=27∨op=28 then decide (a<m.classes.length)&& decide (b<(zV m.classes a).length)else
 if op=29∨op=30 then decide (a<m.statics.length)else
 if op=31 then decide (a<m.methods.length)else
 if op=32 then decide (a<m.classes.length)&& decide (b<Yf m.classes a)else true
theorem q7o(w:World)(vs us ts:List Value)(T U V:TypeId):
  zW (((w.alloc (.cells vs.toArray T)).alloc (.cells us.toArray U)).alloc (.cells ts.toArray V)) w.heap.size vs∧
  zW (((w.alloc (.cells vs.toArray T)).alloc (.cells us.toArray U)).alloc (.cells ts.toArray V)) (w.heap.size+1) us∧
  zW (((w.alloc (.cells vs.toArray T)).alloc (.cells us.toArray U)).alloc (.cells ts.toArray V)) (w.heap.size+1+1) ts∧
  Below w.heap.size w (((w.alloc (.cells vs.toArray T)).alloc (.cells us.toArray U)).alloc (.cells ts.toArray V))∧
  (((w.alloc (.cells vs.toArray T)).alloc (.cells us.toArray U)).alloc (.cells ts.toArray V)).heap.size=w.heap.size+3:=by
 have z1:(w.alloc (.cells vs.toArray T)).heap.size=w.heap.size+1:=by simp
 have z2:((w.alloc (.cells vs.toArray T)).alloc (.cells us.toArray U)).heap.size=w.heap.size+2:=by simp
 have z3:(((w.alloc (.cells vs.toArray T)).alloc (.cells us.toArray U)).alloc (.cells ts.toArray V)).heap.size=w.heap.size+3:=by simp
 have b3:Below (w.heap.size+2) ((w.alloc (.cells vs.toArray T)).alloc (.cells us.toArray U)) (((w.alloc (.cells vs.toArray T)).alloc (.cells us.toArray U)).alloc (.cells ts.toArray V)):=(zb _ _).alloc (by omega) _;have b2:Below (w.heap.size+1) (w.alloc (.cells vs.toArray T)) (((w.alloc (.cells vs.toArray T)).alloc (.cells us.toArray U)).alloc (.cells ts.toArray V)):=((zb _ _).alloc (by omega) _).trans (b3.mono (by omega));have h1:=qa w vs T;have h2:=qa (w.alloc (.cells vs.toArray T)) us U;have h3:=qa ((w.alloc (.cells vs.toArray T)).alloc (.cells us.toArray U)) ts V;rw[z1]at h2;rw[z2]at h3;exact⟨h1.keep b2 (by omega),h2.keep b3 (by omega),h3,((zb _ _).alloc (zn _) _).trans (b2.mono (by omega)),z3⟩
abbrev jY(h:zg)(m:za):List Value:=
 [.slice h.A0 m.classes.length h.c0,.slice h.A1 m.statics.length h.c1,.slice h.A2 m.ints.length h.c2,.slice h.A3 m.methods.length h.c3,.slice h.A4 m.entries.length h.c4,.int .i64 m.stack,.int .i64 m.heap]
theorem VR{m:za}{c:Int}{h:zg}{w w0:World}{L:List (Int×Int)}(HI:Hid (zi w0 w0.heap.size h m))(HX:Hid (Below w0.heap.size w0 w))(HN:Hid (m.classes.length≤1000))(HF:Hid (∀x ∈m.classes,x.fields.length≤1000))(HL:Hid (zV m.classes c=L)):
  Calls Tryz.prog 46 #[zk h m,.int .i64 c] w fun e w'=>∃A k,e= .returned (.slice A L.length k)∧Below w.heap.size w w':=by
 refine(q7u m c h w (HI.out.now HX.out) HN.out HF.out).mono ?_;rw[HL.out];rintro e w' ⟨v,rfl,ho,hb⟩;obtain⟨A,k,rfl,_,_⟩:=kU ho;exact⟨A,k,rfl,hb⟩
theorem q7a{P:Prop}(h:P:=by
 go_upto_region 15 with fail
 have HXd:Hid (Below w1.heap.size w1 w1.drew):=zH (zb _ _).drew;go_region_held3 (fun w'=>w'.cell? ⟨w.heap.size+1+1,1,none⟩=some (.int .i64 a)∧w'.cell? ⟨w.heap.size+1+1,2,none⟩=some (.int .i64 b)∧w'.cell? ⟨w.heap.size,0,none⟩=some (.slice h.A0 m.classes.length h.c0)∧w'.cell? ⟨w.heap.size,1,none⟩=some (.slice h.A1 m.statics.length h.c1)∧w'.cell? ⟨w.heap.size,2,none⟩=some (.slice h.A2 m.ints.length h.c2)∧w'.cell? ⟨w.heap.size,3,none⟩=some (.slice h.A3 m.methods.length h.c3)∧w'.cell? ⟨w.heap.size,4,none⟩=some (.slice h.A4 m.entries.length h.c4)∧w'.cell? ⟨w.heap.size,5,none⟩=some (.int .i64 m.stack)∧w'.cell? ⟨w.heap.size,6,none⟩=some (.int .i64 m.heap)) (first|exact⟨a1,a2,q0,q1,q2,q3,q4,q5,q6⟩)
  (first|(go_at_call 46;(with_reducible refine(VR HI HXd HN HF HL).mono ?_);rintro e w3 ⟨A,k,rfl,hb⟩;have HX3:=zl HXd hb;have HQ:=zH (HQ.out.keep HX3.out (by have:=HZ.out;omega));have HC:=zH (HC.out.keep HX3.out (by have:=HZ.out;omega));have a1:=HC.out 1 _ rfl;have a2:=HC.out 2 _ rfl;obtain⟨q0,q1,q2,q3,q4,q5,q6⟩:=qt HQ.out;clear hb))
 go_wp2_with fail
 go_ret;exact⟨by rw[E2.out];rfl,HW.out.trans (HX3.out.mono (by have:=HZ.out;omega))⟩):P:=h
set_option maxHeartbeats 3200000 in
theorem qi5(m:za)(x:zf)(op a b:Int)(h:zg)(hx:qh)(w:World)(H:zi w w.heap.size h m)(HM:qL w w.heap.size hx x)(h0:0≤a)(hn:m.classes.length≤1000)(hf:∀x ∈m.classes,x.fields.length≤1000)(ha:x.args.length≤1000)(hl:x.locals.length≤1000):
  Calls Tryz.prog 99 #[zk h m,jH hx x,zz op a b] w fun e w'=>e= .returned (.bool (zC m x op a b))∧Below w.heap.size w w':=by
 obtain⟨hq,hp,hc,hb,hz⟩:=q7o w (jY h m) (zL hx x) [.int .i64 op,.int .i64 a,.int .i64 b] 28 53 55;have HQ:=zH hq;have HP:=zH hp;have HC:=zH hc;have HW:=zH hb;have HZ:=zH hz;have HI:=zH (H.now hb);have HF:=zH hf;have HN:=zH hn;have l0:=H.classes.le;have l0c:=H.classes.cap;have l1:=H.statics.le;have l1c:=H.statics.cap;have l2:=H.ints.le;have l2c:=H.ints.cap;have l3:=H.methods.le;have l3c:=H.methods.cap;have l4:=HM.code.le;have l4c:=HM.code.cap;clear hq hp hc hb hz hf H HM;go_enter Tryz.func99,Tryz.ntmps99;go_upto_region 1 with fail
 generalize((w.alloc (.cells (jY h m).toArray 28)).alloc (.cells (zL hx x).toArray 53)).alloc (.cells [Value.int .i64 op,.int .i64 a,.int .i64 b].toArray 55)=w1 at*
 obtain⟨q0,q1,q2,q3,q4,q5,q6⟩:=qt HQ.out;obtain⟨p0,p1,p2,p3,p4,p5,p6,p7⟩:=ck8 HP.out;obtain⟨a0,a1,a2⟩:=zM HC.out;by_cases o1:op=1
 ·subst o1;have E:=zH (show zC m x 1 a b=decide (a<m.ints.length)from rfl);go_wp2_with fail
  go_ret;exact⟨by rw[E.out];rfl,HW.out⟩
 by_cases o3:op=3
 ·subst o3;have E:=zH (show zC m x 3 a b=decide (a<x.args.length+x.locals.length)from rfl);go_wp2_with fail
  go_ret;exact⟨by rw[E.out];rfl,HW.out⟩
 by_cases o4:op=4
 ·subst o4;have E:=zH (show zC m x 4 a b=decide (a<x.args.length+x.locals.length)from rfl);go_wp2_with fail
  go_ret;exact⟨by rw[E.out];rfl,HW.out⟩
 by_cases o18:op=18
 ·subst o18;have E:=zH (show zC m x 18 a b=decide (a<x.code.length)from rfl);go_wp2_with fail
  go_ret;exact⟨by rw[E.out];rfl,HW.out⟩
 by_cases o19:op=19
 ·subst o19;have E:=zH (show zC m x 19 a b=decide (a<x.code.length)from rfl);go_wp2_with fail
  go_ret;exact⟨by rw[E.out];rfl,HW.out⟩
 by_cases o22:op=22
 ·subst o22;have E:=zH (show zC m x 22 a b=decide (a<m.classes.length)from rfl);go_wp2_with fail
  go_ret;exact⟨by rw[E.out];rfl,HW.out⟩
 by_cases o34:op=34
 ·subst o34;have E:=zH (show zC m x 34 a b=decide (a<m.classes.length)from rfl);go_wp2_with fail
  go_ret;exact⟨by rw[E.out];rfl,HW.out⟩
 by_cases o29:op=29
 ·subst o29;have E:=zH (show zC m x 29 a b=decide (a<m.statics.length)from rfl);go_wp2_with fail
  go_ret;exact⟨by rw[E.out];rfl,HW.out⟩
 by_cases o30:op=30
 ·subst o30;have E:=zH (show zC m x 30 a b=decide (a<m.statics.length)from rfl);go_wp2_with fail
  go_ret;exact⟨by rw[E.out];rfl,HW.out⟩
 by_cases o31:op=31
 ·subst o31;have E:=zH (show zC m x 31 a b=decide (a<m.methods.length)from rfl);go_wp2_with fail
  go_ret;exact⟨by rw[E.out];rfl,HW.out⟩
 by_cases o27:op=27
 ·subst o27;have E:=zH (show zC m x 27 a b=(decide (a<m.classes.length)&& decide (b<(zV m.classes a).length))from rfl);obtain⟨L,hL⟩:∃L,zV m.classes a=L:=⟨_,rfl⟩
  rw[hL]at E;have HL:=zH hL;clear hL;by_cases hlt:a<(m.classes.length:Int)
  ·have E2:=zH (show zC m x 27 a b=decide (b<(L.length:Int))by rw[E.out,Xh hlt];rfl);exact q7a
  ·have E2:=zH (show zC m x 27 a b=false by rw[E.out,Xf hlt];rfl);have hd:decide (a<(m.classes.length:Int))=false:=Xf hlt;go_upto_region 15 with fail
   go_quiet (fail)
   go_wp2_with fail
   go_ret;exact⟨by rw[E2.out];rfl,qZ HW.out _⟩
 by_cases o28:op=28
 ·subst o28;have E:=zH (show zC m x 28 a b=(decide (a<m.classes.length)&& decide (b<(zV m.classes a).length))from rfl);obtain⟨L,hL⟩:∃L,zV m.classes a=L:=⟨_,rfl⟩
  rw[hL]at E;have HL:=zH hL;clear hL;by_cases hlt:a<(m.classes.length:Int)
  ·have E2:=zH (show zC m x 28 a b=decide (b<(L.length:Int))by rw[E.out,Xh hlt];rfl);exact q7a
  ·have E2:=zH (show zC m x 28 a b=false by rw[E.out,Xf hlt];rfl);have hd:decide (a<(m.classes.length:Int))=false:=Xf hlt;go_upto_region 15 with fail
   go_quiet (fail)
   go_wp2_with fail
   go_ret;exact⟨by rw[E2.out];rfl,qZ HW.out _⟩
 by_cases o32:op=32
 ·subst o32;have E:=zH (show zC m x 32 a b=(decide (a<m.classes.length)&& decide (b<Yf m.classes a))from rfl);by_cases hlt:a<(m.classes.length:Int)
  ·obtain⟨n,rfl⟩:=Xm h0;have hnl:n<m.classes.length:=by omega
   obtain⟨adc,e0,hab,hcl⟩:=HI.out.classes.row.at_ hnl;have HSN:=zH (show Yf m.classes (n:Int)=(m.classes[n].slots.length:Int)by unfold Yf;rw[Xe,Xc hnl]);generalize m.classes[n]=c at*
   obtain⟨_,_,⟨A2,k2,s2,hs2⟩⟩:=hcl;rw[e0]at q0;have E2:=zH (show zC m x 32 (n:Int) b=decide (b<(c.slots.length:Int))by rw[E.out,HSN.out,Xh hlt];rfl);clear e0 hs2 HSN;go_upto_region 22 with fail
   go_quiet (fail)
   go_wp2_with fail
   go_ret;exact⟨by rw[E2.out];rfl,qZ HW.out _⟩
  ·have E2:=zH (show zC m x 32 a b=false by rw[E.out,Xf hlt];rfl);have hd:decide (a<(m.classes.length:Int))=false:=Xf hlt;go_upto_region 22 with fail
   go_quiet (fail)
   go_wp2_with fail
   go_ret;exact⟨by rw[E2.out];rfl,qZ HW.out _⟩
 have E:=zH (show zC m x op a b=true by unfold zC;simp[o1,o3,o4,o18,o19,o22,o34,o27,o28,o29,o30,o31,o32]);go_wp2_with fail
 go_ret;exact⟨by rw[E.out];rfl,HW.out⟩
set_option maxHeartbeats 1600000 in
theorem rule_3(m:za)(x:zf)(f:Nat)(a b:Int)(hg:m.methods[f]? =some x)(hal:x.args.length≤1048576)(hll:x.locals.length≤1048576)(ha:a≤9223372036854775807)(h:zg)(w:World)(H:zi w w.heap.size h m):
  Calls Tryz.prog 101 #[zk h m,.int .i64 f,zz 3 a b] w (jB (zB m x 3 a b) (zy m x 3 a b) w):=by
 obtain⟨t,ht⟩:∃t,qm x a=t:=⟨_,rfl⟩
 have HR:=zH ht;have e1:zB m x 3 a b=[]:=by simp[zB,ht]
 have e2:zy m x 3 a b=[t]:=by simp[zy,ht]
 rw[e1,e2];obtain⟨hfm,hgx⟩:=Xw.mp hg;clear e1 e2 ht hg;obtain⟨hw,hp⟩:=jI h m 3 a b w;have HW:=zH hw;have HP:=zH hp;have HI:=zH (H.now hw);clear hw hp H;go_enter Tryz.func101,Tryz.ntmps101;go_upto_region 3 with fail
 change Code.wp _ _ _ _ (qc h m 3 a b w);generalize qc h m 3 a b w=w1 at*
 obtain⟨o0,o1,o2⟩:=zM HP.out.ins;have hz:=HP.out.size;obtain⟨q0,q1,q2,q3,q4,q5,q6⟩:=HP.out.img;have l3:=HI.out.methods.le;have l3c:=HI.out.methods.cap;obtain⟨ad,hx,e0,hab,hmi,hmc⟩:=jJ HI.out hfm;rw[e0]at q3;rw[hgx]at hmi hmc;clear e0;have HM:=zH hmi;have HMC:=zH hmc;have HAB:=zH hab;clear hmi hmc hab;obtain⟨c0,c1,c2,c3,c4,c5,c6,c7⟩:=HMC.out;go_wp2_with fail
 have HX:Hid (Below w1.heap.size w1 w1.drew):=zH (zb w1.heap.size w1).drew;have HK:Hid (∀W,Below w1.heap.size w1 W→(fun w'=>w'.cell? ⟨w.heap.size,3,none⟩=some (.slice (some ad) m.methods.length h.c3)∧w'.cell? ⟨w.heap.size+1,1,none⟩=some (.int .i64 a)∧w'.cell? (ad.add (f*8))=some (.slice hx.A0 x.args.length hx.k0)∧w'.cell? (zc (ad.add (f*8)) 1)=some (.slice hx.A1 x.locals.length hx.k1)∧w'.cell? (zc (ad.add (f*8)) 2)=some (.int .i64 x.ret.1)∧w'.cell? (zc (ad.add (f*8)) 3)=some (.int .i64 x.ret.2)∧w'.cell? (zc (ad.add (f*8)) 4)=some (.slice hx.A4 x.code.length hx.k4)∧w'.cell? (zc (ad.add (f*8)) 5)=some (.int .i64 x.depth)∧w'.cell? (zc (ad.add (f*8)) 6)=some (.int .i64 x.pot)∧w'.cell? (zc (ad.add (f*8)) 7)=some (.slice hx.A7 x.phi.length hx.k7)) W):=zH (fun W hW=>by
  obtain⟨d0,d1,d2,d3,d4,d5,d6,d7⟩:=HMC.out.keep hW (by rw[zp];exact HAB.out);exact⟨(hW.cell (p:=⟨w.heap.size,3,none⟩) (by show w.heap.size<_;omega)).trans q3,(hW.cell (p:=⟨w.heap.size+1,1,none⟩) (by show w.heap.size+1<_;omega)).trans o1,d0,d1,d2,d3,d4,d5,d6,d7⟩)
 go_region_held3 (fun w'=>w'.cell? ⟨w.heap.size,3,none⟩=some (.slice (some ad) m.methods.length h.c3)∧w'.cell? ⟨w.heap.size+1,1,none⟩=some (.int .i64 a)∧w'.cell? (ad.add (f*8))=some (.slice hx.A0 x.args.length hx.k0)∧w'.cell? (zc (ad.add (f*8)) 1)=some (.slice hx.A1 x.locals.length hx.k1)∧w'.cell? (zc (ad.add (f*8)) 2)=some (.int .i64 x.ret.1)∧w'.cell? (zc (ad.add (f*8)) 3)=some (.int .i64 x.ret.2)∧w'.cell? (zc (ad.add (f*8)) 4)=some (.slice hx.A4 x.code.length hx.k4)∧w'.cell? (zc (ad.add (f*8)) 5)=some (.int .i64 x.depth)∧w'.cell? (zc (ad.add (f*8)) 6)=some (.int .i64 x.pot)∧w'.cell? (zc (ad.add (f*8)) 7)=some (.slice hx.A7 x.phi.length hx.k7)) (first|exact HK.out _ HX.out|exact HK.out _ HX3.out|exact HK.out _ (HX3.out.alloc HX3.out.size _)) (first|(go_at_call 148;(with_reducible refine(qan HM HX HR ha hal hll).mono ?_);rintro e w3 ⟨rfl,hb⟩;have HX3:=zl HX hb;clear hb))
 all_goals
  go_wp2_with fail
  go_ret2
  refine⟨_,_,_,_,rfl,?_,?_,HW.out.trans ((HX3.out.alloc HX3.out.size _).mono HW.out.size)⟩
  ·exact ja
  ·exact jV (by simp) (by go_simp) (by go_simp)
set_option maxHeartbeats 1600000 in
theorem rule_4(m:za)(x:zf)(f:Nat)(a b:Int)(hg:m.methods[f]? =some x)(hal:x.args.length≤1048576)(hll:x.locals.length≤1048576)(ha:a≤9223372036854775807)(h:zg)(w:World)(H:zi w w.heap.size h m):
  Calls Tryz.prog 101 #[zk h m,.int .i64 f,zz 4 a b] w (jB (zB m x 4 a b) (zy m x 4 a b) w):=by
 obtain⟨t,ht⟩:∃t,qm x a=t:=⟨_,rfl⟩
 have HR:=zH ht;have e1:zB m x 4 a b=[t]:=by simp[zB,ht]
 have e2:zy m x 4 a b=[]:=by simp[zy,ht]
 rw[e1,e2];obtain⟨hfm,hgx⟩:=Xw.mp hg;clear e1 e2 ht hg;obtain⟨hw,hp⟩:=jI h m 4 a b w;have HW:=zH hw;have HP:=zH hp;have HI:=zH (H.now hw);clear hw hp H;go_enter Tryz.func101,Tryz.ntmps101;go_upto_region 3 with fail
 change Code.wp _ _ _ _ (qc h m 4 a b w);generalize qc h m 4 a b w=w1 at*
 obtain⟨o0,o1,o2⟩:=zM HP.out.ins;have hz:=HP.out.size;obtain⟨q0,q1,q2,q3,q4,q5,q6⟩:=HP.out.img;have l3:=HI.out.methods.le;have l3c:=HI.out.methods.cap;obtain⟨ad,hx,e0,hab,hmi,hmc⟩:=jJ HI.out hfm;rw[e0]at q3;rw[hgx]at hmi hmc;clear e0;have HM:=zH hmi;have HMC:=zH hmc;have HAB:=zH hab;clear hmi hmc hab;obtain⟨c0,c1,c2,c3,c4,c5,c6,c7⟩:=HMC.out;go_wp2_with fail
 have HX:Hid (Below w1.heap.size w1 w1.drew):=zH (zb w1.heap.size w1).drew;have HK:Hid (∀W,Below w1.heap.size w1 W→(fun w'=>w'.cell? ⟨w.heap.size,3,none⟩=some (.slice (some ad) m.methods.length h.c3)∧w'.cell? ⟨w.heap.size+1,1,none⟩=some (.int .i64 a)∧w'.cell? (ad.add (f*8))=some (.slice hx.A0 x.args.length hx.k0)∧w'.cell? (zc (ad.add (f*8)) 1)=some (.slice hx.A1 x.locals.length hx.k1)∧w'.cell? (zc (ad.add (f*8)) 2)=some (.int .i64 x.ret.1)∧w'.cell? (zc (ad.add (f*8)) 3)=some (.int .i64 x.ret.2)∧w'.cell? (zc (ad.add (f*8)) 4)=some (.slice hx.A4 x.code.length hx.k4)∧w'.cell? (zc (ad.add (f*8)) 5)=some (.int .i64 x.depth)∧w'.cell? (zc (ad.add (f*8)) 6)=some (.int .i64 x.pot)∧w'.cell? (zc (ad.add (f*8)) 7)=some (.slice hx.A7 x.phi.length hx.k7)) W):=zH (fun W hW=>by
  obtain⟨d0,d1,d2,d3,d4,d5,d6,d7⟩:=HMC.out.keep hW (by rw[zp];exact HAB.out);exact⟨(hW.cell (p:=⟨w.heap.size,3,none⟩) (by show w.heap.size<_;omega)).trans q3,(hW.cell (p:=⟨w.heap.size+1,1,none⟩) (by show w.heap.size+1<_;omega)).trans o1,d0,d1,d2,d3,d4,d5,d6,d7⟩)
 go_region_held3 (fun w'=>w'.cell? ⟨w.heap.size,3,none⟩=some (.slice (some ad) m.methods.length h.c3)∧w'.cell? ⟨w.heap.size+1,1,none⟩=some (.int .i64 a)∧w'.cell? (ad.add (f*8))=some (.slice hx.A0 x.args.length hx.k0)∧w'.cell? (zc (ad.add (f*8)) 1)=some (.slice hx.A1 x.locals.length hx.k1)∧w'.cell? (zc (ad.add (f*8)) 2)=some (.int .i64 x.ret.1)∧w'.cell? (zc (ad.add (f*8)) 3)=some (.int .i64 x.ret.2)∧w'.cell? (zc (ad.add (f*8)) 4)=some (.slice hx.A4 x.code.length hx.k4)∧w'.cell? (zc (ad.add (f*8)) 5)=some (.int .i64 x.depth)∧w'.cell? (zc (ad.add (f*8)) 6)=some (.int .i64 x.pot)∧w'.cell? (zc (ad.add (f*8)) 7)=some (.slice hx.A7 x.phi.length hx.k7)) (first|exact HK.out _ HX.out|exact HK.out _ HX3.out|exact HK.out _ (HX3.out.alloc HX3.out.size _)) (first|(go_at_call 148;(with_reducible refine(qan HM HX HR ha hal hll).mono ?_);rintro e w3 ⟨rfl,hb⟩;have HX3:=zl HX hb;clear hb))
 all_goals
  go_wp2_with fail
  go_ret2
  refine⟨_,_,_,_,rfl,?_,?_,HW.out.trans ((HX3.out.alloc HX3.out.size _).mono HW.out.size)⟩
  ·exact jV (by simp) (by go_simp) (by go_simp)
  ·exact ja
set_option maxHeartbeats 1600000 in
theorem qtk(m:za)(x:zf)(f:Nat)(a b:Int)(hg:m.methods[f]? =some x)(hal:x.args.length≤1048576)(hll:x.locals.length≤1048576)(h:zg)(w:World)(H:zi w w.heap.size h m):
  Calls Tryz.prog 101 #[zk h m,.int .i64 f,zz 33 a b] w (jB (zB m x 33 a b) (zy m x 33 a b) w):=by
 obtain⟨G,hG⟩:∃G,qR x=G:=⟨_,rfl⟩
 have HR:=zH hG;have e1:zB m x 33 a b=G:=by simp[zB,hG]
 have e2:zy m x 33 a b=[]:=by simp[zy]
 rw[e1,e2];obtain⟨hfm,hgx⟩:=Xw.mp hg;clear e1 e2 hG hg;obtain⟨hw,hp⟩:=jI h m 33 a b w;have HW:=zH hw;have HP:=zH hp;have HI:=zH (H.now hw);clear hw hp H;go_enter Tryz.func101,Tryz.ntmps101;go_upto_region 3 with fail
 change Code.wp _ _ _ _ (qc h m 33 a b w);generalize qc h m 33 a b w=w1 at*
 obtain⟨o0,o1,o2⟩:=zM HP.out.ins;have hz:=HP.out.size;obtain⟨q0,q1,q2,q3,q4,q5,q6⟩:=HP.out.img;have l3:=HI.out.methods.le;have l3c:=HI.out.methods.cap;obtain⟨ad,hx,e0,hab,hmi,hmc⟩:=jJ HI.out hfm;rw[e0]at q3;rw[hgx]at hmi hmc;clear e0;have HM:=zH hmi;have HMC:=zH hmc;have HAB:=zH hab;clear hmi hmc hab;obtain⟨c0,c1,c2,c3,c4,c5,c6,c7⟩:=HMC.out;have HX:Hid (Below w1.heap.size w1 w1):=zH (zb w1.heap.size w1);go_wp2_with(go_at_call 149;(with_reducible refine(q1x (hx:=hx) HR).mono ?_);rintro e w3 ⟨A5,c5,rfl,hs,hb⟩;have HX3:=zl HX hb;have HS3:=zH hs;clear hb hs)
 go_ret2
 exact⟨_,_,_,_,rfl,HS3.out,ja,HW.out.trans (HX3.out.mono HW.out.size)⟩
set_option maxHeartbeats 1600000 in
theorem qtm(m:za)(x:zf)(f:Nat)(j:Nat)(b:Int)(hj:j<m.methods.length)(h:zg)(w:World)(H:zi w w.heap.size h m):
  Calls Tryz.prog 101 #[zk h m,.int .i64 f,zz 31 (j:Int) b] w (jB (zB m x 31 (j:Int) b) (zy m x 31 (j:Int) b) w):=by
 have e0:zu m (j:Int)=m.methods[j]:=by unfold zu;rw[Xe,Xc hj];rfl
 obtain⟨y,hgx⟩:∃y,m.methods[j]=y:=⟨_,rfl⟩
 obtain⟨G,hG⟩:∃G,qR y=G:=⟨_,rfl⟩
 have HR:=zH hG;have e1:zB m x 31 (j:Int) b=y.args:=by simp[zB,e0,hgx]
 have e2:zy m x 31 (j:Int) b=G:=by simp[zy,e0,hgx,hG]
 rw[e1,e2];have hfm:=hj;clear e0 e1 e2 hG;obtain⟨hw,hp⟩:=jI h m 31 (j:Int) b w;have HW:=zH hw;have HP:=zH hp;have HI:=zH (H.now hw);clear hw hp H;go_enter Tryz.func101,Tryz.ntmps101;go_upto_region 3 with fail
 change Code.wp _ _ _ _ (qc h m 31 (j:Int) b w);generalize qc h m 31 (j:Int) b w=w1 at*
 obtain⟨o0,o1,o2⟩:=zM HP.out.ins;have hz:=HP.out.size;obtain⟨q0,q1,q2,q3,q4,q5,q6⟩:=HP.out.img;have l3:=HI.out.methods.le;have l3c:=HI.out.methods.cap;obtain⟨ad,hx,e0,hab,hmi,hmc⟩:=jJ HI.out hfm;rw[e0]at q3;rw[hgx]at hmi hmc;clear e0;have HM:=zH hmi;have HMC:=zH hmc;have HAB:=zH hab;clear hmi hmc hab;obtain⟨c0,c1,c2,c3,c4,c5,c6,c7⟩:=HMC.out;go_wp2_with fail
 have HX:Hid (Below w1.heap.size w1 w1.drew):=zH (zb w1.heap.size w1).drew;have HK:Hid (∀W,Below w1.heap.size w1 W→(fun w'=>w'.cell? ⟨w.heap.size,3,none⟩=some (.slice (some ad) m.methods.length h.c3)∧w'.cell? ⟨w.heap.size+1,1,none⟩=some (.int .i64 (j:Int))∧w'.cell? (ad.add (j*8))=some (.slice hx.A0 y.args.length hx.k0)∧w'.cell? (zc (ad.add (j*8)) 1)=some (.slice hx.A1 y.locals.length hx.k1)∧w'.cell? (zc (ad.add (j*8)) 2)=some (.int .i64 y.ret.1)∧w'.cell? (zc (ad.add (j*8)) 3)=some (.int .i64 y.ret.2)∧w'.cell? (zc (ad.add (j*8)) 4)=some (.slice hx.A4 y.code.length hx.k4)∧w'.cell? (zc (ad.add (j*8)) 5)=some (.int .i64 y.depth)∧w'.cell? (zc (ad.add (j*8)) 6)=some (.int .i64 y.pot)∧w'.cell? (zc (ad.add (j*8)) 7)=some (.slice hx.A7 y.phi.length hx.k7)) W):=zH (fun W hW=>by
  obtain⟨d0,d1,d2,d3,d4,d5,d6,d7⟩:=HMC.out.keep hW (by rw[zp];exact HAB.out);exact⟨(hW.cell (p:=⟨w.heap.size,3,none⟩) (by show w.heap.size<_;omega)).trans q3,(hW.cell (p:=⟨w.heap.size+1,1,none⟩) (by show w.heap.size+1<_;omega)).trans o1,d0,d1,d2,d3,d4,d5,d6,d7⟩)
 go_region_held3 (fun w'=>w'.cell? ⟨w.heap.size,3,none⟩=some (.slice (some ad) m.methods.length h.c3)∧w'.cell? ⟨w.heap.size+1,1,none⟩=some (.int .i64 (j:Int))∧w'.cell? (ad.add (j*8))=some (.slice hx.A0 y.args.length hx.k0)∧w'.cell? (zc (ad.add (j*8)) 1)=some (.slice hx.A1 y.locals.length hx.k1)∧w'.cell? (zc (ad.add (j*8)) 2)=some (.int .i64 y.ret.1)∧w'.cell? (zc (ad.add (j*8)) 3)=some (.int .i64 y.ret.2)∧w'.cell? (zc (ad.add (j*8)) 4)=some (.slice hx.A4 y.code.length hx.k4)∧w'.cell? (zc (ad.add (j*8)) 5)=some (.int .i64 y.depth)∧w'.cell? (zc (ad.add (j*8)) 6)=some (.int .i64 y.pot)∧w'.cell? (zc (ad.add (j*8)) 7)=some (.slice hx.A7 y.phi.length hx.k7)) (first|exact HK.out _ HX.out|exact HK.out _ HX3.out) (first|(go_at_call 149;(with_reducible refine(q1x (hx:=hx) HR).mono ?_);rintro e w3 ⟨A5,c5,rfl,hs,hb⟩;have HX3:=zl HX hb;have HS3:=zH hs;clear hb hs))
 all_goals
  go_wp2_with fail
  go_ret2
  exact⟨_,_,_,_,rfl,(HM.out.now HX3.out).args,HS3.out,HW.out.trans (HX3.out.mono HW.out.size)⟩
end Go.Proofs.YtcmiljnbmgkdnaaGreat
