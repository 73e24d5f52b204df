import Derived.Test.YtcmiljnbmgkdnaaGreatFA39
namespace Go.Proofs.YtcmiljnbmgkdnaaGreat
set_option maxRecDepth 100000
set_option linter.unusedVariables false
set_option linter.unusedSimpArgs false
open Go.ChangeShapes Go.WideShapes Go.ChangeAt Go.RowKit
theorem VD{w:World}{B:Nat}{h:zg}{m:za}{s t:Int}(H:zi w B h m):zi w B h (qC m s t):=⟨H.classes,H.statics,H.ints,H.methods,H.entries⟩
def Qm(w:World)(N:Nat)(h:zg)(m:za)(s t:Int):Prop:=ze w N [.slice h.A0 m.classes.length h.c0,.slice h.A1 m.statics.length h.c1,.slice h.A2 m.ints.length h.c2,.slice h.A3 m.methods.length h.c3,.slice h.A4 m.entries.length h.c4,.int .i64 s,.int .i64 t] 28
section
variable{w w':World}{N:Nat}{h:zg}{m:za}{s t:Int}
theorem Qm.keep(H:Qm w N h m s t)(hb:Below w.heap.size w w'):Qm w' N h m s t:=ze.keep H hb (ze.lt H)
theorem Qm.cells7(H:Qm w N h m s t):w.cell? ⟨N,0,none⟩=some (.slice h.A0 m.classes.length h.c0)∧w.cell? ⟨N,1,none⟩=some (.slice h.A1 m.statics.length h.c1)∧w.cell? ⟨N,2,none⟩=some (.slice h.A2 m.ints.length h.c2)∧w.cell? ⟨N,3,none⟩=some (.slice h.A3 m.methods.length h.c3)∧w.cell? ⟨N,4,none⟩=some (.slice h.A4 m.entries.length h.c4)∧w.cell? ⟨N,5,none⟩=some (.int .i64 s)∧w.cell? ⟨N,6,none⟩=some (.int .i64 t)∧w.frozen? ⟨N,5,none⟩=false∧w.frozen? ⟨N,6,none⟩=false:=
 have c:=ze.cells H
 ⟨c 0 _ rfl,c 1 _ rfl,c 2 _ rfl,c 3 _ rfl,c 4 _ rfl,c 5 _ rfl,c 6 _ rfl,ze.free H 5,ze.free H 6⟩
theorem Qm.set5(H:Qm w N h m s t)(u:Int):Qm (w.setCell ⟨N,5,none⟩ (.int .i64 u)) N h m u t:=ze.set H 5 (.int .i64 u)
theorem Qm.set6(H:Qm w N h m s t)(u:Int):Qm (w.setCell ⟨N,6,none⟩ (.int .i64 u)) N h m s u:=ze.set H 6 (.int .i64 u)
end
theorem qii{m:za}{l:List (List zm)}(hs:qK (qC m 4096 4096)=0)(hl:kY (qC m 4096 4096) l)(hr:jr (qC m 4096 4096)=true)(hp:jL (qC m 4096 4096) l<0){s t er:Int}{n:Nat}{T:List (List zm)→Prop}(h0:0≤s∧s≤4096)(h1:0≤t∧t≤4096)(h:Qe (qC m s t) er n T):
  er=if(decide (Zj (qC m 4096 4096) l>s)||decide (kW (qC m 4096 4096)>t))=true then 7 else 0:=by
 have e1:qK (qC (qC m 4096 4096) s t)=0:=(qqr (q7n h0 (show(0:Int)≤4096∧(4096:Int)≤4096 by decide)) (q7n h1 (show(0:Int)≤4096∧(4096:Int)≤4096 by decide))).trans hs;have e2:=qsy (m:=qC (qC m 4096 4096) s t) h e1 (qgp hl);rw[e2];exact qpt hr hp
set_option maxHeartbeats 12800000 in
theorem qes(m:za)(h:zg)(w:World)(H:zi w w.heap.size h m):
  Calls Tryz.prog 5 #[zk h m] w fun e w'=>e= .returned (.bool true)∧Below w.heap.size w w':=by
 have HI:=zH H;have HX1:Hid (Below w.heap.size w (w.alloc (zo h m))):=zH jz;have HQ1:Hid (Qm (w.alloc (zo h m)) w.heap.size h m m.stack m.heap):=zH (ze.new w [.slice h.A0 m.classes.length h.c0,.slice h.A1 m.statics.length h.c1,.slice h.A2 m.ints.length h.c2,.slice h.A3 m.methods.length h.c3,.slice h.A4 m.entries.length h.c4,.int .i64 m.stack,.int .i64 m.heap] 28);clear H;go_enter Tryz.func5,Tryz.ntmps5;go_upto_region 1 with fail
 generalize w.alloc (zo h m)=w1 at*
 obtain⟨q0,q1,q2,q3,q4,q5,q6,f5,f6⟩:=HQ1.out.cells7;go_upto_region 3 with(first|(go_at_call 8;(with_reducible refine(q8o HI HX1).mono ?_);rintro e w2 ⟨b,rfl,hb⟩;have HX2:=zH (HX1.out.trans (hb.mono HX1.out.size));have HQ2:=zH (HQ1.out.keep hb);clear hb;clear q0 q1 q2 q3 q4 q5 q6 f5 f6;obtain⟨q0,q1,q2,q3,q4,q5,q6,f5,f6⟩:=HQ2.out.cells7;cases b)|(go_at_call 9;(with_reducible refine(Ji _).mono ?_);rintro e wz ⟨rfl,hb⟩;have HXZ:=zH (HX2.out.trans (hb.mono HX2.out.size));clear hb))
 ·go_ret;exact⟨by first|rfl|simp,HXZ.out⟩
 go_upto_region 4 with fail
 have HX3:Hid (Below w.heap.size w ((w2.setCell ⟨w.heap.size,5,none⟩ (.int .i64 4096)).setCell ⟨w.heap.size,6,none⟩ (.int .i64 4096))):=zH ((HX2.out.setCell (p:=⟨w.heap.size,5,none⟩) (zn _) (.int .i64 4096)).setCell (p:=⟨w.heap.size,6,none⟩) (zn _) (.int .i64 4096));have HQ3:=zH ((HQ2.out.set5 4096).set6 4096);clear q0 q1 q2 q3 q4 q5 q6 f5 f6;generalize((w2.setCell ⟨w.heap.size,5,none⟩ (.int .i64 4096)).setCell ⟨w.heap.size,6,none⟩ (.int .i64 4096))=w3 at*
 obtain⟨q0,q1,q2,q3,q4,q5,q6,f5,f6⟩:=HQ3.out.cells7;go_upto_region 5 with(go_at_call 11;(with_reducible refine(qar (m:=qC m 4096 4096) (zH (VD HI.out)) HX3).mono ?_);rintro e w4 ⟨Ab,nb,cb,eb,rfl,hb,hab⟩;have HX4:=zH (HX3.out.trans (hb.mono HX3.out.size));have HB:=zH hab;have HQ4:=zH (HQ3.out.keep hb);clear hb hab)
 clear q0 q1 q2 q3 q4 q5 q6 f5 f6;obtain⟨q0,q1,q2,q3,q4,q5,q6,f5,f6⟩:=HQ4.out.cells7;by_cases h0:eb=0;rotate_left
 ·have hne:(eb !=0)=true:=bne_iff_ne.mpr h0;clear h0;go_wp2_with(go_at_call 9;(with_reducible refine(Ji _).mono ?_);rintro e wz ⟨rfl,hb⟩;have HXZ:=zH (HX4.out.trans (hb.mono HX4.out.size));clear hb)
  go_ret;exact⟨by first|rfl|simp,HXZ.out⟩
 subst h0;obtain⟨l,hl,hn,ht,hs,hr,hp,hq⟩:=(q29 HB.out).2 rfl;have HS:=zH (q03 hs);have HT:=zH ht;have HNB:Hid (l.length=nb):=zH hn.symm;have HR:=zH hr;have hlow:=qrf (JE hs) l;have HE:=zH (fun(s t er:Int) (n:Nat) (T:List (List zm)→Prop)=>qii (s:=s) (t:=t) (er:=er) (n:=n) (T:=T) hs hl hr hp);unfold QA at hq;obtain⟨sn,hsn⟩:∃z,Zj (qC m 4096 4096) l=z:=⟨_,rfl⟩
 obtain⟨pn,hpn⟩:∃z,kW (qC m 4096 4096)=z:=⟨_,rfl⟩
 have HSN:=zH hsn;have HPN:=zH hpn;rw[hsn,hpn]at hq hlow HE;rw[Bool.or_eq_false_iff,Wt,Wt]at hq;have hq1:sn≤4096:=by have:=hq.1;dsimp only at this;omega
 have hq2:pn≤4096:=by have:=hq.2;dsimp only at this;omega
 obtain⟨hl1,hl2⟩:=hlow;have HQS:Hid ((0≤sn∧sn≤4096)∧(0≤pn∧pn≤4096)):=zH ⟨⟨hl1,hq1⟩,hl2,hq2⟩;clear hl hn ht hs hr hp hq hsn hpn HB;go_upto_region 8 with(go_at_call 13;(with_reducible refine(q8u (m:=qC m 4096 4096) (zH (VD HI.out)) HX4 HS HT HNB HR HSN HPN).mono ?_);rintro e w5 ⟨rfl,hb⟩;have HX5:=zH (HX4.out.trans (hb.mono HX4.out.size));have HQ5:=zH (HQ4.out.keep hb);clear hb)
 clear q0 q1 q2 q3 q4 q5 q6 f5 f6;obtain⟨q0,q1,q2,q3,q4,q5,q6,f5,f6⟩:=HQ5.out.cells7;go_upto_region 9 with fail
 have HX6:Hid (Below w.heap.size w ((w5.setCell ⟨w.heap.size,5,none⟩ (.int .i64 sn)).setCell ⟨w.heap.size,6,none⟩ (.int .i64 pn))):=zH ((HX5.out.setCell (p:=⟨w.heap.size,5,none⟩) (zn _) (.int .i64 sn)).setCell (p:=⟨w.heap.size,6,none⟩) (zn _) (.int .i64 pn));have HQ6:=zH ((HQ5.out.set5 sn).set6 pn);clear q0 q1 q2 q3 q4 q5 q6 f5 f6;generalize((w5.setCell ⟨w.heap.size,5,none⟩ (.int .i64 sn)).setCell ⟨w.heap.size,6,none⟩ (.int .i64 pn))=w6 at*
 obtain⟨q0,q1,q2,q3,q4,q5,q6,f5,f6⟩:=HQ6.out.cells7;go_upto_region 10 with(go_at_call 10;go_loud (with_reducible refine(q09 (m:=qC m sn pn) (zH (VD HI.out)) HX6).mono ?_);go_loud (rintro e w7 ⟨Az,nz,cz,ez,rfl,hb,ha⟩);go_loud (have hez:ez=0:=(HE.out sn pn _ _ _ HQS.out.1 HQS.out.2 ha).trans (Xa (by simp)));go_loud (subst hez);have HX7:=zH (HX6.out.trans (hb.mono HX6.out.size));have HQ7:=zH (HQ6.out.keep hb);clear hb ha)
 clear q0 q1 q2 q3 q4 q5 q6 f5 f6;obtain⟨q0,q1,q2,q3,q4,q5,q6,f5,f6⟩:=HQ7.out.cells7;by_cases hs0:sn>0;rotate_left
 ·go_upto_region 18 with fail
  by_cases hp0:pn>0;rotate_left
  ·go_wp2_with(go_at_call 9;(with_reducible refine(Ji _).mono ?_);rintro e wz ⟨rfl,hb⟩;have HXZ:=zH (HX7.out.trans (hb.mono HX7.out.size));clear hb)
   go_ret;exact⟨by first|rfl|simp,HXZ.out⟩
  go_upto_region 20 with fail
  have HXB:Hid (Below w.heap.size w (w7.setCell ⟨w.heap.size,6,none⟩ (.int .i64 (pn - 1)))):=zH (HX7.out.setCell (p:=⟨w.heap.size,6,none⟩) (zn _) (.int .i64 (pn - 1)));have HQB:=zH (HQ7.out.set6 (pn - 1));clear q0 q1 q2 q3 q4 q5 q6 f5 f6;generalize(w7.setCell ⟨w.heap.size,6,none⟩ (.int .i64 (pn - 1)))=wb at*
  obtain⟨q0,q1,q2,q3,q4,q5,q6,f5,f6⟩:=HQB.out.cells7;go_upto_region 21 with(go_at_call 10;go_loud (with_reducible refine(q09 (m:=qC m sn (pn - 1)) (zH (VD HI.out)) HXB).mono ?_);go_loud (rintro e wc ⟨Az,nz,cz,ez,rfl,hb,ha⟩);go_loud (have hez:ez=7:=(HE.out sn (pn - 1) _ _ _ HQS.out.1 (by have:=HQS.out.2;omega) ha).trans (Xb (by rw[We,Xr,Xr];omega)));go_loud (subst hez);have HXC:=zH (HXB.out.trans (hb.mono HXB.out.size));have HQC:=zH (HQB.out.keep hb);clear hb ha)
  clear q0 q1 q2 q3 q4 q5 q6 f5 f6;obtain⟨q0,q1,q2,q3,q4,q5,q6,f5,f6⟩:=HQC.out.cells7;go_wp2_with(go_at_call 9;(with_reducible refine(Ji _).mono ?_);rintro e wz ⟨rfl,hb⟩;have HXZ:=zH (HXC.out.trans (hb.mono HXC.out.size));clear hb)
  go_ret;exact⟨by first|rfl|simp,HXZ.out⟩
 go_upto_region 14 with fail
 have HX8:Hid (Below w.heap.size w (w7.setCell ⟨w.heap.size,5,none⟩ (.int .i64 (sn - 1)))):=zH (HX7.out.setCell (p:=⟨w.heap.size,5,none⟩) (zn _) (.int .i64 (sn - 1)));have HQ8:=zH (HQ7.out.set5 (sn - 1));clear q0 q1 q2 q3 q4 q5 q6 f5 f6;generalize(w7.setCell ⟨w.heap.size,5,none⟩ (.int .i64 (sn - 1)))=w8 at*
 obtain⟨q0,q1,q2,q3,q4,q5,q6,f5,f6⟩:=HQ8.out.cells7;go_upto_region 15 with(go_at_call 10;go_loud (with_reducible refine(q09 (m:=qC m (sn - 1) pn) (zH (VD HI.out)) HX8).mono ?_);go_loud (rintro e w9 ⟨Az,nz,cz,ez,rfl,hb,ha⟩);go_loud (have hez:ez=7:=(HE.out (sn - 1) pn _ _ _ (by have:=HQS.out.1;omega) HQS.out.2 ha).trans (Xb (by rw[We,Xr,Xr];omega)));go_loud (subst hez);have HX9:=zH (HX8.out.trans (hb.mono HX8.out.size));have HQ9:=zH (HQ8.out.keep hb);clear hb ha)
 clear q0 q1 q2 q3 q4 q5 q6 f5 f6;obtain⟨q0,q1,q2,q3,q4,q5,q6,f5,f6⟩:=HQ9.out.cells7;go_upto_region 18 with fail
 have HXA:Hid (Below w.heap.size w (w9.setCell ⟨w.heap.size,5,none⟩ (.int .i64 sn))):=zH (HX9.out.setCell (p:=⟨w.heap.size,5,none⟩) (zn _) (.int .i64 sn));have HQA:=zH (HQ9.out.set5 sn);clear q0 q1 q2 q3 q4 q5 q6 f5 f6;generalize(w9.setCell ⟨w.heap.size,5,none⟩ (.int .i64 sn))=wa at*
 obtain⟨q0,q1,q2,q3,q4,q5,q6,f5,f6⟩:=HQA.out.cells7;by_cases hp0:pn>0;rotate_left
 ·go_wp2_with(go_at_call 9;(with_reducible refine(Ji _).mono ?_);rintro e wz ⟨rfl,hb⟩;have HXZ:=zH (HXA.out.trans (hb.mono HXA.out.size));clear hb)
  go_ret;exact⟨by first|rfl|simp,HXZ.out⟩
 go_upto_region 20 with fail
 have HXB:Hid (Below w.heap.size w (wa.setCell ⟨w.heap.size,6,none⟩ (.int .i64 (pn - 1)))):=zH (HXA.out.setCell (p:=⟨w.heap.size,6,none⟩) (zn _) (.int .i64 (pn - 1)));have HQB:=zH (HQA.out.set6 (pn - 1));clear q0 q1 q2 q3 q4 q5 q6 f5 f6;generalize(wa.setCell ⟨w.heap.size,6,none⟩ (.int .i64 (pn - 1)))=wb at*
 obtain⟨q0,q1,q2,q3,q4,q5,q6,f5,f6⟩:=HQB.out.cells7;go_upto_region 21 with(go_at_call 10;go_loud (with_reducible refine(q09 (m:=qC m sn (pn - 1)) (zH (VD HI.out)) HXB).mono ?_);go_loud (rintro e wc ⟨Az,nz,cz,ez,rfl,hb,ha⟩);go_loud (have hez:ez=7:=(HE.out sn (pn - 1) _ _ _ HQS.out.1 (by have:=HQS.out.2;omega) ha).trans (Xb (by rw[We,Xr,Xr];omega)));go_loud (subst hez);have HXC:=zH (HXB.out.trans (hb.mono HXB.out.size));have HQC:=zH (HQB.out.keep hb);clear hb ha)
 clear q0 q1 q2 q3 q4 q5 q6 f5 f6;obtain⟨q0,q1,q2,q3,q4,q5,q6,f5,f6⟩:=HQC.out.cells7;go_wp2_with(go_at_call 9;(with_reducible refine(Ji _).mono ?_);rintro e wz ⟨rfl,hb⟩;have HXZ:=zH (HXC.out.trans (hb.mono HXC.out.size));clear hb)
 go_ret;exact⟨by first|rfl|simp,HXZ.out⟩
end Go.Proofs.YtcmiljnbmgkdnaaGreat
