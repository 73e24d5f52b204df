import Derived.Test.YtdbfllajopcccaaGreatFA04
namespace Go.Proofs.YtdbfllajopcccaaGreat
set_option maxRecDepth 100000
set_option linter.unusedVariables false
set_option linter.unusedSimpArgs false
open Go.ChangeShapes Go.WideShapes Go.ChangeAt Go.RowKit
def q0j(cl:List qv)(a:Int):Int:=match cl[a.toNat]? with
 |some c=>c.slots.length
 |none=>0
def zQ(m:za)(x:ze)(op a b:Int):Bool:=
 if op=1 then decide (a<m.ints.length)else
 if op=3∨op=4 then decide (a<x.args.length+x.locals.length)else
 if op=18∨op=19 then decide (a<x.code.length)else
 if op=22∨op=34 then decide (a<m.classes.length)else
 if op=27∨op=28 then decide (a<m.classes.length)&& decide (b<(qS m.classes a).length)else
 if op=29∨op=30 then decide (a<m.statics.length)else
 if op=31 then decide (a<m.methods.length)else
 if op=32 then decide (a<m.classes.length)&& decide (b<q0j m.classes a)else true
theorem qer(w:World)(vs us ts:List Value)(T U V:TypeId):
  zT (((w.alloc (.cells vs.toArray T)).alloc (.cells us.toArray U)).alloc (.cells ts.toArray V)) w.heap.size vs∧
  zT (((w.alloc (.cells vs.toArray T)).alloc (.cells us.toArray U)).alloc (.cells ts.toArray V)) (w.heap.size+1) us∧
  zT (((w.alloc (.cells vs.toArray T)).alloc (.cells us.toArray U)).alloc (.cells ts.toArray V)) (w.heap.size+1+1) ts∧
  Below w.heap.size w (((w.alloc (.cells vs.toArray T)).alloc (.cells us.toArray U)).alloc (.cells ts.toArray V))∧
  (((w.alloc (.cells vs.toArray T)).alloc (.cells us.toArray U)).alloc (.cells ts.toArray V)).heap.size=w.heap.size+3:=by
 have z1:(w.alloc (.cells vs.toArray T)).heap.size=w.heap.size+1:=by simp
 have z2:((w.alloc (.cells vs.toArray T)).alloc (.cells us.toArray U)).heap.size=w.heap.size+2:=by simp
 have z3:(((w.alloc (.cells vs.toArray T)).alloc (.cells us.toArray U)).alloc (.cells ts.toArray V)).heap.size=w.heap.size+3:=by simp
 have b3:Below (w.heap.size+2) ((w.alloc (.cells vs.toArray T)).alloc (.cells us.toArray U)) (((w.alloc (.cells vs.toArray T)).alloc (.cells us.toArray U)).alloc (.cells ts.toArray V)):=(zb _ _).alloc (by omega) _;have b2:Below (w.heap.size+1) (w.alloc (.cells vs.toArray T)) (((w.alloc (.cells vs.toArray T)).alloc (.cells us.toArray U)).alloc (.cells ts.toArray V)):=((zb _ _).alloc (by omega) _).trans (b3.mono (by omega));have h1:=qd w vs T;have h2:=qd (w.alloc (.cells vs.toArray T)) us U;have h3:=qd ((w.alloc (.cells vs.toArray T)).alloc (.cells us.toArray U)) ts V;rw[z1]at h2;rw[z2]at h3;exact⟨h1.keep b2 (by omega),h2.keep b3 (by omega),h3,((zb _ _).alloc (zn _) _).trans (b2.mono (by omega)),z3⟩
abbrev kI(h:zl)(m:za):List Value:=
 [.slice h.A0 m.classes.length h.c0,.slice h.A1 m.statics.length h.c1,.slice h.A2 m.ints.length h.c2,.slice h.A3 m.methods.length h.c3,.slice h.A4 m.entries.length h.c4,.int .i64 m.stack,.int .i64 m.heap]
theorem VR{m:za}{c:Int}{h:zl}{w w0:World}{L:List (Int×Int)}(HI:Hid (zp w0 w0.heap.size h m))(HX:Hid (Below w0.heap.size w0 w))(HN:Hid (m.classes.length≤1000))(HF:Hid (∀x ∈m.classes,x.fields.length≤1000))(HL:Hid (qS m.classes c=L)):
  Calls Tryz.prog 28 #[zr h m,.int .i64 c] w fun e w'=>∃A k,e= .returned (.slice A L.length k)∧Below w.heap.size w w':=by
 refine(q7y m c h w (HI.out.now HX.out) HN.out HF.out).mono ?_;rw[HL.out];rintro e w' ⟨v,rfl,ho,hb⟩;obtain⟨A,k,rfl,_,_⟩:=vy ho;exact⟨A,k,rfl,hb⟩
theorem q7j{P:Prop}(h:P:=by
 go_upto_region 15 with fail
 have HXd:Hid (Below w1.heap.size w1 w1.drew):=zH (zb _ _).drew;go_region_held3 (fun w'=>w'.cell? ⟨w.heap.size+1+1,1,none⟩=some (.int .i64 a)∧w'.cell? ⟨w.heap.size+1+1,2,none⟩=some (.int .i64 b)∧w'.cell? ⟨w.heap.size,0,none⟩=some (.slice h.A0 m.classes.length h.c0)∧w'.cell? ⟨w.heap.size,1,none⟩=some (.slice h.A1 m.statics.length h.c1)∧w'.cell? ⟨w.heap.size,2,none⟩=some (.slice h.A2 m.ints.length h.c2)∧w'.cell? ⟨w.heap.size,3,none⟩=some (.slice h.A3 m.methods.length h.c3)∧w'.cell? ⟨w.heap.size,4,none⟩=some (.slice h.A4 m.entries.length h.c4)∧w'.cell? ⟨w.heap.size,5,none⟩=some (.int .i64 m.stack)∧w'.cell? ⟨w.heap.size,6,none⟩=some (.int .i64 m.heap)) (first|exact⟨a1,a2,q0,q1,q2,q3,q4,q5,q6⟩)
  (first|(go_at_call 28;(with_reducible refine(VR HI HXd HN HF HL).mono ?_);rintro e w3 ⟨A,k,rfl,hb⟩;have HX3:=zj HXd hb;have HQ:=zH (HQ.out.keep HX3.out (by have:=HZ.out;omega));have HC:=zH (HC.out.keep HX3.out (by have:=HZ.out;omega));have a1:=HC.out 1 _ rfl;have a2:=HC.out 2 _ rfl;obtain⟨q0,q1,q2,q3,q4,q5,q6⟩:=qm HQ.out;clear hb))
 go_wp2_with fail
 go_ret;exact⟨by rw[E2.out];rfl,HW.out.trans (HX3.out.mono (by have:=HZ.out;omega))⟩):P:=h
set_option maxHeartbeats 3200000 in
theorem qgp(m:za)(x:ze)(op a b:Int)(h:zl)(hx:zS)(w:World)(H:zp w w.heap.size h m)(HM:qy w w.heap.size hx x)(h0:0≤a)(hn:m.classes.length≤1000)(hf:∀x ∈m.classes,x.fields.length≤1000)(ha:x.args.length≤1000)(hl:x.locals.length≤1000):
  Calls Tryz.prog 83 #[zr h m,kW hx x,zF op a b] w fun e w'=>e= .returned (.bool (zQ m x op a b))∧Below w.heap.size w w':=by
 obtain⟨hq,hp,hc,hb,hz⟩:=qer w (kI h m) (qe hx x) [.int .i64 op,.int .i64 a,.int .i64 b] 28 42 45;have HQ:=zH hq;have HP:=zH hp;have HC:=zH hc;have HW:=zH hb;have HZ:=zH hz;have HI:=zH (H.now hb);have HF:=zH hf;have HN:=zH hn;have l0:=H.classes.le;have l0c:=H.classes.cap;have l1:=H.statics.le;have l1c:=H.statics.cap;have l2:=H.ints.le;have l2c:=H.ints.cap;have l3:=H.methods.le;have l3c:=H.methods.cap;have l4:=HM.code.le;have l4c:=HM.code.cap;clear hq hp hc hb hz hf H HM;go_enter Tryz.func83,Tryz.ntmps83;go_upto_region 1 with fail
 generalize((w.alloc (.cells (kI h m).toArray 28)).alloc (.cells (qe hx x).toArray 42)).alloc (.cells [Value.int .i64 op,.int .i64 a,.int .i64 b].toArray 45)=w1 at*
 obtain⟨q0,q1,q2,q3,q4,q5,q6⟩:=qm HQ.out;obtain⟨p0,p1,p2,p3,p4,p5,p6,p7⟩:=qH HP.out;obtain⟨a0,a1,a2⟩:=zJ HC.out;by_cases o1:op=1
 ·subst o1;have E:=zH (show zQ m x 1 a b=decide (a<m.ints.length)from rfl);go_wp2_with fail
  go_ret;exact⟨by rw[E.out];rfl,HW.out⟩
 by_cases o3:op=3
 ·subst o3;have E:=zH (show zQ m x 3 a b=decide (a<x.args.length+x.locals.length)from rfl);go_wp2_with fail
  go_ret;exact⟨by rw[E.out];rfl,HW.out⟩
 by_cases o4:op=4
 ·subst o4;have E:=zH (show zQ m x 4 a b=decide (a<x.args.length+x.locals.length)from rfl);go_wp2_with fail
  go_ret;exact⟨by rw[E.out];rfl,HW.out⟩
 by_cases o18:op=18
 ·subst o18;have E:=zH (show zQ m x 18 a b=decide (a<x.code.length)from rfl);go_wp2_with fail
  go_ret;exact⟨by rw[E.out];rfl,HW.out⟩
 by_cases o19:op=19
 ·subst o19;have E:=zH (show zQ m x 19 a b=decide (a<x.code.length)from rfl);go_wp2_with fail
  go_ret;exact⟨by rw[E.out];rfl,HW.out⟩
 by_cases o22:op=22
 ·subst o22;have E:=zH (show zQ m x 22 a b=decide (a<m.classes.length)from rfl);go_wp2_with fail
  go_ret;exact⟨by rw[E.out];rfl,HW.out⟩
 by_cases o34:op=34
 ·subst o34;have E:=zH (show zQ m x 34 a b=decide (a<m.classes.length)from rfl);go_wp2_with fail
  go_ret;exact⟨by rw[E.out];rfl,HW.out⟩
 by_cases o29:op=29
 ·subst o29;have E:=zH (show zQ m x 29 a b=decide (a<m.statics.length)from rfl);go_wp2_with fail
  go_ret;exact⟨by rw[E.out];rfl,HW.out⟩
 by_cases o30:op=30
 ·subst o30;have E:=zH (show zQ m x 30 a b=decide (a<m.statics.length)from rfl);go_wp2_with fail
  go_ret;exact⟨by rw[E.out];rfl,HW.out⟩
 by_cases o31:op=31
 ·subst o31;have E:=zH (show zQ m x 31 a b=decide (a<m.methods.length)from rfl);go_wp2_with fail
  go_ret;exact⟨by rw[E.out];rfl,HW.out⟩
 by_cases o27:op=27
 ·subst o27;have E:=zH (show zQ m x 27 a b=(decide (a<m.classes.length)&& decide (b<(qS m.classes a).length))from rfl);obtain⟨L,hL⟩:∃L,qS m.classes a=L:=⟨_,rfl⟩
  rw[hL]at E;have HL:=zH hL;clear hL;by_cases hlt:a<(m.classes.length:Int)
  ·have E2:=zH (show zQ m x 27 a b=decide (b<(L.length:Int))by rw[E.out,decide_eq_true hlt];rfl);exact q7j
  ·have E2:=zH (show zQ m x 27 a b=false by rw[E.out,decide_eq_false hlt];rfl);have hd:decide (a<(m.classes.length:Int))=false:=decide_eq_false hlt;go_upto_region 15 with fail
   go_quiet (fail)
   go_wp2_with fail
   go_ret;exact⟨by rw[E2.out];rfl,jf HW.out _⟩
 by_cases o28:op=28
 ·subst o28;have E:=zH (show zQ m x 28 a b=(decide (a<m.classes.length)&& decide (b<(qS m.classes a).length))from rfl);obtain⟨L,hL⟩:∃L,qS m.classes a=L:=⟨_,rfl⟩
  rw[hL]at E;have HL:=zH hL;clear hL;by_cases hlt:a<(m.classes.length:Int)
  ·have E2:=zH (show zQ m x 28 a b=decide (b<(L.length:Int))by rw[E.out,decide_eq_true hlt];rfl);exact q7j
  ·have E2:=zH (show zQ m x 28 a b=false by rw[E.out,decide_eq_false hlt];rfl);have hd:decide (a<(m.classes.length:Int))=false:=decide_eq_false hlt;go_upto_region 15 with fail
   go_quiet (fail)
   go_wp2_with fail
   go_ret;exact⟨by rw[E2.out];rfl,jf HW.out _⟩
 by_cases o32:op=32
 ·subst o32;have E:=zH (show zQ m x 32 a b=(decide (a<m.classes.length)&& decide (b<q0j m.classes a))from rfl);by_cases hlt:a<(m.classes.length:Int)
  ·obtain⟨n,rfl⟩:=Int.eq_ofNat_of_zero_le h0;have hnl:n<m.classes.length:=by omega
   obtain⟨adc,e0,hab,hcl⟩:=HI.out.classes.row.at_ hnl;have HSN:=zH (show q0j m.classes (n:Int)=(m.classes[n].slots.length:Int)by unfold q0j;rw[Int.toNat_natCast,List.getElem?_eq_getElem hnl]);generalize m.classes[n]=c at*
   obtain⟨_,_,⟨A2,k2,s2,hs2⟩⟩:=hcl;rw[e0]at q0;have E2:=zH (show zQ m x 32 (n:Int) b=decide (b<(c.slots.length:Int))by rw[E.out,HSN.out,decide_eq_true hlt];rfl);clear e0 hs2 HSN;go_upto_region 22 with fail
   go_quiet (fail)
   go_wp2_with fail
   go_ret;exact⟨by rw[E2.out];rfl,jf HW.out _⟩
  ·have E2:=zH (show zQ m x 32 a b=false by rw[E.out,decide_eq_false hlt];rfl);have hd:decide (a<(m.classes.length:Int))=false:=decide_eq_false hlt;go_upto_region 22 with fail
   go_quiet (fail)
   go_wp2_with fail
   go_ret;exact⟨by rw[E2.out];rfl,jf HW.out _⟩
 have E:=zH (show zQ m x op a b=true by unfold zQ;simp[o1,o3,o4,o18,o19,o22,o34,o27,o28,o29,o30,o31,o32]);go_wp2_with fail
 go_ret;exact⟨by rw[E.out];rfl,HW.out⟩
end Go.Proofs.YtdbfllajopcccaaGreat
