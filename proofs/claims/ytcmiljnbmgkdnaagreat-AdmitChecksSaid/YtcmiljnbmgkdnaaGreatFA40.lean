import Derived.Test.YtcmiljnbmgkdnaaGreatFA39
namespace Go.Proofs.YtcmiljnbmgkdnaaGreat
set_option maxRecDepth 100000
set_option linter.unusedVariables false
set_option linter.unusedSimpArgs false
open Go.ChangeShapes Go.WideShapes Go.ChangeAt Go.RowKit
set_option maxHeartbeats 6400000 in
theorem qet(m:za)(h:zg)(w:World)(H:zi w w.heap.size h m):
  Calls Tryz.prog 3 #[zk h m] w fun e w'=>e= .returned (.bool true)∧Below w.heap.size w w':=by
 have HW:=zH (jz (w:=w) (h:=h) (m:=m));have HBX:=zH (zX w h m);have HZ:Hid (w.heap.size<(w.alloc (zo h m)).heap.size):=zH (by simp);have HI:=zH (H.now HW.out);clear H;go_enter Tryz.func3,Tryz.ntmps3;go_upto_region 1 with fail
 generalize w.alloc (zo h m)=w1 at*
 obtain⟨q0,q1,q2,q3,q4,q5,q6⟩:=HBX.out;have HX:Hid (Below w1.heap.size w1 w1):=zH (zb _ _);go_upto_region 3 with(first|(go_at_call 8;(with_reducible refine(q8o HI HX).mono ?_);rintro e w2 ⟨b,rfl,hb⟩;have HX2:=zH (HX.out.trans (hb.mono HX.out.size));clear hb;obtain⟨q0,q1,q2,q3,q4,q5,q6⟩:=HBX.out.keep HX2.out HZ.out;cases b)|(go_at_call 9;(with_reducible refine(Ji _).mono ?_);rintro e w3 ⟨rfl,hb⟩;have HX3:=zH (HX2.out.trans (hb.mono HX2.out.size));clear hb))
 ·go_ret;exact⟨by first|rfl|simp,HW.out.trans (HX3.out.mono (Xk HZ.out))⟩
 go_upto_region 4 with(go_at_call 10;(with_reducible refine(q09 HI HX2).mono ?_);rintro e w3 ⟨Aa,na,ca,ea,rfl,hb,ha⟩;have HX3:=zH (HX2.out.trans (hb.mono HX2.out.size));have HA:=zH ha;clear hb ha)
 clear q0 q1 q2 q3 q4 q5 q6;obtain⟨q0,q1,q2,q3,q4,q5,q6⟩:=HBX.out.keep HX3.out HZ.out;go_upto_region 5 with(go_at_call 11;(with_reducible refine(qar HI HX3).mono ?_);rintro e w4 ⟨Ab,nb,cb,eb,rfl,hb,hab⟩;have HX4:=zH (HX3.out.trans (hb.mono HX3.out.size));have HB:=zH hab;have HB4:=zH hb;clear hb hab)
 clear q0 q1 q2 q3 q4 q5 q6;obtain⟨q0,q1,q2,q3,q4,q5,q6⟩:=HBX.out.keep HX4.out HZ.out;obtain rfl:ea=eb:=qa1 HA.out HB.out;by_cases h0:ea=0;rotate_left
 ·have hn0:na=0:=(q29 HA.out).1 h0;subst hn0;have hne:(ea !=0)=true:=bne_iff_ne.mpr h0;have hee:(ea==ea)=true:=by simp
  clear h0;go_wp2_with(go_at_call 9;(with_reducible refine(Ji _).mono ?_);rintro e w5 ⟨rfl,hb⟩;have HX5:=zH (HX4.out.trans (hb.mono HX4.out.size));clear hb)
  go_ret;exact⟨by first|rfl|simp,HW.out.trans (HX5.out.mono (Xk HZ.out))⟩
 subst h0;obtain⟨l,hl,hn,ht,hs,hr,hp,hq⟩:=(q29 HA.out).2 rfl;obtain⟨l',hl',hn',ht',_,_,_,_⟩:=(q29 HB.out).2 rfl;obtain rfl:=q6v hl hl';have HS:=zH (q03 hs);have HT:=zH (ht.now HB4.out);have HT':=zH ht';have HNA:Hid (l.length=na):=zH hn.symm;have HNB:Hid (l.length=nb):=zH hn'.symm;have HR:=zH hr;obtain⟨sn,hsn⟩:∃z,Zj m l=z:=⟨_,rfl⟩
 obtain⟨pn,hpn⟩:∃z,kW m=z:=⟨_,rfl⟩
 have HSN:=zH hsn;have HPN:=zH hpn;unfold QA at hq;rw[hsn,hpn,Bool.or_eq_false_iff,Wt,Wt]at hq;have hq1:sn≤m.stack:=by omega
 have hq2:pn≤m.heap:=by omega
 clear hl hn ht hs hr hp hq hl' hn' ht' hsn hpn HA HB;go_upto_region 8 with(go_at_call 12;(with_reducible refine(qld HI HX4 HS HT HNA HR HSN HPN).mono ?_);rintro e w5 ⟨rfl,hb⟩;have HX5:=zH (HX4.out.trans (hb.mono HX4.out.size));have HT5:=zH (HT.out.now hb);have HT5':=zH (HT'.out.now hb);clear hb)
 clear q0 q1 q2 q3 q4 q5 q6;obtain⟨q0,q1,q2,q3,q4,q5,q6⟩:=HBX.out.keep HX5.out HZ.out;go_upto_region 9 with(go_at_call 13;(with_reducible refine(q8u HI HX5 HS HT5' HNB HR HSN HPN).mono ?_);rintro e w6 ⟨rfl,hb⟩;have HX6:=zH (HX5.out.trans (hb.mono HX5.out.size));have HT6:=zH (HT5.out.now hb);have HT6':=zH (HT5'.out.now hb);clear hb)
 clear q0 q1 q2 q3 q4 q5 q6;have hs1:(sn==sn)=true:=by simp
 have hs2:(pn==pn)=true:=by simp
 go_wp2_with(first
  |(go_at_call 9;(with_reducible refine(Ji _).mono ?_);rintro e w7 ⟨rfl,hb⟩;have HX7:=zH (HX6.out.trans (hb.mono HX6.out.size));have HM7:=zH (HT6.out.now hb).1;have HM7':=zH (HT6'.out.now hb).1;clear hb)
  |(go_at_call 14;(with_reducible refine(qfj HM7 HM7' HNA HNB).mono ?_);rintro e w8 ⟨rfl,hb⟩;have HX8:=zH (HX7.out.trans (hb.mono HX7.out.size));clear hb;obtain⟨q0,q1,q2,q3,q4,q5,q6⟩:=HBX.out.keep HX8.out HZ.out))
 go_ret;exact⟨by first|rfl|simp,HW.out.trans (HX8.out.mono (Xk HZ.out))⟩
end Go.Proofs.YtcmiljnbmgkdnaaGreat
