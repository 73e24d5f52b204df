import Derived.Test.YtcmiljnbmgkdnaaGreatFB44
namespace Go.Proofs.YtcmiljnbmgkdnaaGreat
set_option maxRecDepth 100000
set_option linter.unusedVariables false
set_option linter.unusedSimpArgs false
open Go.ChangeShapes Go.WideShapes Go.ChangeAt Go.RowKit
theorem Jz{w:World}{B:Nat}{h:zi}{m:za}{s t:Int}(H:zm w B h m):zm w B h (qJ m s t):=⟨H.classes,H.statics,H.ints,H.methods,H.entries⟩
def Qp(w:World)(N:Nat)(h:zi)(m:za)(s t:Int):Prop:=zd w N [.slice h.A0 m.classes.length h.c0,.slice h.A1 m.statics.length h.c1,.slice h.A2 m.ints.length h.c2,.slice h.A3 m.methods.length h.c3,.slice h.A4 m.entries.length h.c4,.int .i64 s,.int .i64 t] 28
section
variable{w w':World}{N:Nat}{h:zi}{m:za}{s t:Int}
theorem Qp.keep(H:Qp w N h m s t)(hb:Below w.heap.size w w'):Qp w' N h m s t:=zd.keep H hb (zd.lt H)
theorem Qp.cells7(H:Qp w N h m s t):w.cell? ⟨N,0,none⟩=some (.slice h.A0 m.classes.length h.c0)∧w.cell? ⟨N,1,none⟩=some (.slice h.A1 m.statics.length h.c1)∧w.cell? ⟨N,2,none⟩=some (.slice h.A2 m.ints.length h.c2)∧w.cell? ⟨N,3,none⟩=some (.slice h.A3 m.methods.length h.c3)∧w.cell? ⟨N,4,none⟩=some (.slice h.A4 m.entries.length h.c4)∧w.cell? ⟨N,5,none⟩=some (.int .i64 s)∧w.cell? ⟨N,6,none⟩=some (.int .i64 t)∧w.frozen? ⟨N,5,none⟩=false∧w.frozen? ⟨N,6,none⟩=false:=
 have c:=zd.cells H
 ⟨c 0 _ rfl,c 1 _ rfl,c 2 _ rfl,c 3 _ rfl,c 4 _ rfl,c 5 _ rfl,c 6 _ rfl,zd.free H 5,zd.free H 6⟩
theorem Qp.set5(H:Qp w N h m s t)(u:Int):Qp (w.setCell ⟨N,5,none⟩ (.int .i64 u)) N h m u t:=zd.set H 5 (.int .i64 u)
theorem Qp.set6(H:Qp w N h m s t)(u:Int):Qp (w.setCell ⟨N,6,none⟩ (.int .i64 u)) N h m s u:=zd.set H 6 (.int .i64 u)
end
set_option maxHeartbeats 12800000 in
theorem qg7(m:za)(a b:Int)(a0:0≤a)(a1:a≤255)(b0:0≤b)(b1:b≤255)(h:zi)(w:World)(H:zm w w.heap.size h m):
  Calls Tryz.prog 6 #[zp h m,.int .u8 a,.int .u8 b] w fun e w'=>e= .returned (.bool true)∧Below w.heap.size w w':=by
 have HW:=zH (vr (w:=w) (h:=h) (m:=m));have HBX:=zH (ql w h m);have HZ:Hid (w.heap.size<(w.alloc (zg h m)).heap.size):=zH (by simp);have HI:=zH (H.now HW.out);clear H;go_enter Tryz.func6,Tryz.ntmps6;go_upto_region 1 with fail
 generalize w.alloc (zg h m)=w1 at*
 obtain⟨q0,q1,q2,q3,q4,q5,q6⟩:=HBX.out;have HX:Hid (Below w1.heap.size w1 w1):=zH (zb _ _);go_upto_region 3 with(first|(go_at_call 8;(with_reducible refine(q2h HI HX).mono ?_);rintro e w2 ⟨b,rfl,hb⟩;have HX2:=zH (HX.out.trans (hb.mono HX.out.size));clear hb;clear q0 q1 q2 q3 q4 q5 q6;obtain⟨q0,q1,q2,q3,q4,q5,q6⟩:=HBX.out.keep HX2.out HZ.out;cases b)|(go_at_call 9;(with_reducible refine(qO _).mono ?_);rintro e wz ⟨rfl,hb⟩;have HXZ:=zH (HX2.out.trans (hb.mono HX2.out.size));clear hb))
 ·go_ret;exact⟨by first|rfl|simp,HW.out.trans (HXZ.out.mono (Xh HZ.out))⟩
 go_upto_region 4 with(go_at_call 10;(with_reducible refine(Qw HI HX2).mono ?_);rintro e w3 ⟨Aa,na,ca,ea,rfl,hb,ha⟩;have HX3:=zH (HX2.out.trans (hb.mono HX2.out.size));have HA:=zH ha;clear hb ha)
 clear q0 q1 q2 q3 q4 q5 q6;obtain⟨q0,q1,q2,q3,q4,q5,q6⟩:=HBX.out.keep HX3.out HZ.out;have hN:=HX3.out.size;have HQ4:Hid (Qp (w3.alloc (zg h m)) w3.heap.size h m m.stack m.heap):=zH (zd.new w3 [.slice h.A0 m.classes.length h.c0,.slice h.A1 m.statics.length h.c1,.slice h.A2 m.ints.length h.c2,.slice h.A3 m.methods.length h.c3,.slice h.A4 m.entries.length h.c4,.int .i64 m.stack,.int .i64 m.heap] 28);have HX4:=zH (HX3.out.alloc hN (zg h m));go_upto_region 5 with fail
 clear q0 q1 q2 q3 q4 q5 q6;generalize w3.alloc (zg h m)=w4 at*
 obtain⟨N,hNe⟩:∃z,w3.heap.size=z:=⟨_,rfl⟩
 rw[hNe]at hN HQ4;try simp only[hNe]
 clear hNe;obtain⟨S,hS⟩:∃z,m.stack=z:=⟨_,rfl⟩
 obtain⟨T,hT⟩:∃z,m.heap=z:=⟨_,rfl⟩
 have HSE:=zH hS;have HTE:=zH hT;rw[hS,hT]at HQ4;clear hS hT;have HMS:Hid (∀s t:Int,zP s 0 4096=zP m.stack 0 4096→zP t 0 4096=zP m.heap 0 4096→qR (qJ m s t)=qR m):=zH (fun s t h1 h2=>qrx h1 h2);by_cases hS:0≤S∧S<4000
 ·have hS0:=hS.1;have hS1:=hS.2;obtain⟨q0,q1,q2,q3,q4,q5,q6⟩:=HBX.out.keep HX4.out HZ.out;rw[HSE.out]at q5;rw[HTE.out]at q6;obtain⟨p0,p1,p2,p3,p4,p5,p6,f5,f6⟩:=HQ4.out.cells7;go_upto_region 7 with fail
  clear q0 q1 q2 q3 q4 q5 q6 p0 p1 p2 p3 p4 p5 p6 f5 f6;have HX5:Hid (Below w1.heap.size w1 (w4.setCell ⟨N,5,none⟩ (.int .i64 (S+a % 90)))):=zH (HX4.out.setCell (p:=⟨N,5,none⟩) hN (.int .i64 (S+a % 90)));have HQ5:=zH (HQ4.out.set5 (S+a % 90));generalize w4.setCell ⟨N,5,none⟩ (.int .i64 (S+a % 90))=w5 at*
  by_cases hT:0≤T∧T<4000
  ·have hT0:=hT.1;have hT1:=hT.2;obtain⟨q0,q1,q2,q3,q4,q5,q6⟩:=HBX.out.keep HX5.out HZ.out;rw[HSE.out]at q5;rw[HTE.out]at q6;obtain⟨p0,p1,p2,p3,p4,p5,p6,f5,f6⟩:=HQ5.out.cells7;go_upto_region 9 with fail
   clear q0 q1 q2 q3 q4 q5 q6 p0 p1 p2 p3 p4 p5 p6 f5 f6;have HXH:Hid (Below w1.heap.size w1 (w5.setCell ⟨N,6,none⟩ (.int .i64 (T+b % 90)))):=zH (HX5.out.setCell (p:=⟨N,6,none⟩) hN (.int .i64 (T+b % 90)));have HQH:=zH (HQ5.out.set6 (T+b % 90));generalize(w5.setCell ⟨N,6,none⟩ (.int .i64 (T+b % 90)))=wh at*
   obtain⟨q0,q1,q2,q3,q4,q5,q6⟩:=HBX.out.keep HXH.out HZ.out;rw[HSE.out]at q5;rw[HTE.out]at q6;obtain⟨p0,p1,p2,p3,p4,p5,p6,f5,f6⟩:=HQH.out.cells7;go_upto_region 10 with(go_at_call 10;(with_reducible refine(Qw (m:=qJ m (S+a % 90) (T+b % 90)) (zH (Jz HI.out)) HXH).mono ?_);rintro e wb ⟨Ab,nb,cb,eb,rfl,hb,hab⟩;have HXB:=zH (HXH.out.trans (hb.mono HXH.out.size));have HM:=zH (Jk HA.out hab (HMS.out (S+a % 90) (T+b % 90) (by rw[HSE.out];exact VA ⟨by omega,by omega⟩ ⟨by omega,by omega⟩) (by rw[HTE.out];exact VA ⟨by omega,by omega⟩ ⟨by omega,by omega⟩)) (by rw[HSE.out];omega) (by rw[HTE.out];omega));clear hb hab)
   clear q0 q1 q2 q3 q4 q5 q6 p0 p1 p2 p3 p4 p5 p6 f5 f6;have HM:=HM.out;clear HA;rcases HM with⟨rfl,rfl⟩|⟨hne,rfl⟩|⟨hne,hnf,rfl⟩
   ·go_wp2_with(go_at_call 9;(with_reducible refine(qO _).mono ?_);rintro e wz ⟨rfl,hb⟩;have HXZ:=zH (HXB.out.trans (hb.mono HXB.out.size));clear hb)
    go_ret;exact⟨by first|rfl|simp,HW.out.trans (HXZ.out.mono (Xh HZ.out))⟩
   ·have h1:(ea !=0)=true:=XC.mpr hne;have h2:(ea==0)=false:=XG.mpr hne;clear hne;go_wp2_with(go_at_call 9;(with_reducible refine(qO _).mono ?_);rintro e wz ⟨rfl,hb⟩;have HXZ:=zH (HXB.out.trans (hb.mono HXB.out.size));clear hb)
    go_ret;exact⟨by first|rfl|simp,HW.out.trans (HXZ.out.mono (Xh HZ.out))⟩
   ·have h1:(ea !=0)=true:=XC.mpr hne;have h2:(ea==0)=false:=XG.mpr hne;have h3:(ea==ea)=true:=by simp
    clear hne hnf;go_wp2_with(go_at_call 9;(with_reducible refine(qO _).mono ?_);rintro e wz ⟨rfl,hb⟩;have HXZ:=zH (HXB.out.trans (hb.mono HXB.out.size));clear hb)
    go_ret;exact⟨by first|rfl|simp,HW.out.trans (HXZ.out.mono (Xh HZ.out))⟩
  ·have hTf:(decide (T ≥ 0)&& decide (T<4000))=false:=by rw[Bool.and_eq_false_iff,Wg,Wg];omega
   rcases Int.lt_or_le T 0 with hTn|hTn
   ·have hTx:¬T ≥ 0:=by omega
    obtain⟨q0,q1,q2,q3,q4,q5,q6⟩:=HBX.out.keep HX5.out HZ.out;rw[HSE.out]at q5;rw[HTE.out]at q6;obtain⟨p0,p1,p2,p3,p4,p5,p6,f5,f6⟩:=HQ5.out.cells7;go_upto_region 9 with fail
    clear q0 q1 q2 q3 q4 q5 q6 p0 p1 p2 p3 p4 p5 p6 f5 f6;obtain⟨q0,q1,q2,q3,q4,q5,q6⟩:=HBX.out.keep HX5.out HZ.out;rw[HSE.out]at q5;rw[HTE.out]at q6;obtain⟨p0,p1,p2,p3,p4,p5,p6,f5,f6⟩:=HQ5.out.cells7;go_upto_region 10 with(go_at_call 10;(with_reducible refine(Qw (m:=qJ m (S+a % 90) T) (zH (Jz HI.out)) HX5).mono ?_);rintro e wb ⟨Ab,nb,cb,eb,rfl,hb,hab⟩;have HXB:=zH (HX5.out.trans (hb.mono HX5.out.size));have HM:=zH (Jk HA.out hab (HMS.out (S+a % 90) T (by rw[HSE.out];exact VA ⟨by omega,by omega⟩ ⟨by omega,by omega⟩) (by rw[HTE.out])) (by rw[HSE.out];omega) (by rw[HTE.out];exact XE _));clear hb hab)
    clear q0 q1 q2 q3 q4 q5 q6 p0 p1 p2 p3 p4 p5 p6 f5 f6;have HM:=HM.out;clear HA;rcases HM with⟨rfl,rfl⟩|⟨hne,rfl⟩|⟨hne,hnf,rfl⟩
    ·go_wp2_with(go_at_call 9;(with_reducible refine(qO _).mono ?_);rintro e wz ⟨rfl,hb⟩;have HXZ:=zH (HXB.out.trans (hb.mono HXB.out.size));clear hb)
     go_ret;exact⟨by first|rfl|simp,HW.out.trans (HXZ.out.mono (Xh HZ.out))⟩
    ·have h1:(ea !=0)=true:=XC.mpr hne;have h2:(ea==0)=false:=XG.mpr hne;clear hne;go_wp2_with(go_at_call 9;(with_reducible refine(qO _).mono ?_);rintro e wz ⟨rfl,hb⟩;have HXZ:=zH (HXB.out.trans (hb.mono HXB.out.size));clear hb)
     go_ret;exact⟨by first|rfl|simp,HW.out.trans (HXZ.out.mono (Xh HZ.out))⟩
    ·have h1:(ea !=0)=true:=XC.mpr hne;have h2:(ea==0)=false:=XG.mpr hne;have h3:(ea==ea)=true:=by simp
     clear hne hnf;go_wp2_with(go_at_call 9;(with_reducible refine(qO _).mono ?_);rintro e wz ⟨rfl,hb⟩;have HXZ:=zH (HXB.out.trans (hb.mono HXB.out.size));clear hb)
     go_ret;exact⟨by first|rfl|simp,HW.out.trans (HXZ.out.mono (Xh HZ.out))⟩
   ·have hTx:T ≥ 0:=by omega
    have hTy:¬T<4000:=by omega
    obtain⟨q0,q1,q2,q3,q4,q5,q6⟩:=HBX.out.keep HX5.out HZ.out;rw[HSE.out]at q5;rw[HTE.out]at q6;obtain⟨p0,p1,p2,p3,p4,p5,p6,f5,f6⟩:=HQ5.out.cells7;go_upto_region 9 with fail
    clear q0 q1 q2 q3 q4 q5 q6 p0 p1 p2 p3 p4 p5 p6 f5 f6;obtain⟨q0,q1,q2,q3,q4,q5,q6⟩:=HBX.out.keep HX5.out HZ.out;rw[HSE.out]at q5;rw[HTE.out]at q6;obtain⟨p0,p1,p2,p3,p4,p5,p6,f5,f6⟩:=HQ5.out.cells7;go_upto_region 10 with(go_at_call 10;(with_reducible refine(Qw (m:=qJ m (S+a % 90) T) (zH (Jz HI.out)) HX5).mono ?_);rintro e wb ⟨Ab,nb,cb,eb,rfl,hb,hab⟩;have HXB:=zH (HX5.out.trans (hb.mono HX5.out.size));have HM:=zH (Jk HA.out hab (HMS.out (S+a % 90) T (by rw[HSE.out];exact VA ⟨by omega,by omega⟩ ⟨by omega,by omega⟩) (by rw[HTE.out])) (by rw[HSE.out];omega) (by rw[HTE.out];exact XE _));clear hb hab)
    clear q0 q1 q2 q3 q4 q5 q6 p0 p1 p2 p3 p4 p5 p6 f5 f6;have HM:=HM.out;clear HA;rcases HM with⟨rfl,rfl⟩|⟨hne,rfl⟩|⟨hne,hnf,rfl⟩
    ·go_wp2_with(go_at_call 9;(with_reducible refine(qO _).mono ?_);rintro e wz ⟨rfl,hb⟩;have HXZ:=zH (HXB.out.trans (hb.mono HXB.out.size));clear hb)
     go_ret;exact⟨by first|rfl|simp,HW.out.trans (HXZ.out.mono (Xh HZ.out))⟩
    ·have h1:(ea !=0)=true:=XC.mpr hne;have h2:(ea==0)=false:=XG.mpr hne;clear hne;go_wp2_with(go_at_call 9;(with_reducible refine(qO _).mono ?_);rintro e wz ⟨rfl,hb⟩;have HXZ:=zH (HXB.out.trans (hb.mono HXB.out.size));clear hb)
     go_ret;exact⟨by first|rfl|simp,HW.out.trans (HXZ.out.mono (Xh HZ.out))⟩
    ·have h1:(ea !=0)=true:=XC.mpr hne;have h2:(ea==0)=false:=XG.mpr hne;have h3:(ea==ea)=true:=by simp
     clear hne hnf;go_wp2_with(go_at_call 9;(with_reducible refine(qO _).mono ?_);rintro e wz ⟨rfl,hb⟩;have HXZ:=zH (HXB.out.trans (hb.mono HXB.out.size));clear hb)
     go_ret;exact⟨by first|rfl|simp,HW.out.trans (HXZ.out.mono (Xh HZ.out))⟩
 ·rcases Int.lt_or_le S 0 with hSn|hSn
  ·have hSx:¬S ≥ 0:=by omega
   obtain⟨q0,q1,q2,q3,q4,q5,q6⟩:=HBX.out.keep HX4.out HZ.out;rw[HSE.out]at q5;rw[HTE.out]at q6;obtain⟨p0,p1,p2,p3,p4,p5,p6,f5,f6⟩:=HQ4.out.cells7;go_upto_region 7 with fail
   clear q0 q1 q2 q3 q4 q5 q6 p0 p1 p2 p3 p4 p5 p6 f5 f6;by_cases hT:0≤T∧T<4000
   ·have hT0:=hT.1;have hT1:=hT.2;obtain⟨q0,q1,q2,q3,q4,q5,q6⟩:=HBX.out.keep HX4.out HZ.out;rw[HSE.out]at q5;rw[HTE.out]at q6;obtain⟨p0,p1,p2,p3,p4,p5,p6,f5,f6⟩:=HQ4.out.cells7;go_upto_region 9 with fail
    clear q0 q1 q2 q3 q4 q5 q6 p0 p1 p2 p3 p4 p5 p6 f5 f6;have HXH:Hid (Below w1.heap.size w1 (w4.setCell ⟨N,6,none⟩ (.int .i64 (T+b % 90)))):=zH (HX4.out.setCell (p:=⟨N,6,none⟩) hN (.int .i64 (T+b % 90)));have HQH:=zH (HQ4.out.set6 (T+b % 90));generalize(w4.setCell ⟨N,6,none⟩ (.int .i64 (T+b % 90)))=wh at*
    obtain⟨q0,q1,q2,q3,q4,q5,q6⟩:=HBX.out.keep HXH.out HZ.out;rw[HSE.out]at q5;rw[HTE.out]at q6;obtain⟨p0,p1,p2,p3,p4,p5,p6,f5,f6⟩:=HQH.out.cells7;go_upto_region 10 with(go_at_call 10;(with_reducible refine(Qw (m:=qJ m S (T+b % 90)) (zH (Jz HI.out)) HXH).mono ?_);rintro e wb ⟨Ab,nb,cb,eb,rfl,hb,hab⟩;have HXB:=zH (HXH.out.trans (hb.mono HXH.out.size));have HM:=zH (Jk HA.out hab (HMS.out S (T+b % 90) (by rw[HSE.out]) (by rw[HTE.out];exact VA ⟨by omega,by omega⟩ ⟨by omega,by omega⟩)) (by rw[HSE.out];exact XE _) (by rw[HTE.out];omega));clear hb hab)
    clear q0 q1 q2 q3 q4 q5 q6 p0 p1 p2 p3 p4 p5 p6 f5 f6;have HM:=HM.out;clear HA;rcases HM with⟨rfl,rfl⟩|⟨hne,rfl⟩|⟨hne,hnf,rfl⟩
    ·go_wp2_with(go_at_call 9;(with_reducible refine(qO _).mono ?_);rintro e wz ⟨rfl,hb⟩;have HXZ:=zH (HXB.out.trans (hb.mono HXB.out.size));clear hb)
     go_ret;exact⟨by first|rfl|simp,HW.out.trans (HXZ.out.mono (Xh HZ.out))⟩
    ·have h1:(ea !=0)=true:=XC.mpr hne;have h2:(ea==0)=false:=XG.mpr hne;clear hne;go_wp2_with(go_at_call 9;(with_reducible refine(qO _).mono ?_);rintro e wz ⟨rfl,hb⟩;have HXZ:=zH (HXB.out.trans (hb.mono HXB.out.size));clear hb)
     go_ret;exact⟨by first|rfl|simp,HW.out.trans (HXZ.out.mono (Xh HZ.out))⟩
    ·have h1:(ea !=0)=true:=XC.mpr hne;have h2:(ea==0)=false:=XG.mpr hne;have h3:(ea==ea)=true:=by simp
     clear hne hnf;go_wp2_with(go_at_call 9;(with_reducible refine(qO _).mono ?_);rintro e wz ⟨rfl,hb⟩;have HXZ:=zH (HXB.out.trans (hb.mono HXB.out.size));clear hb)
     go_ret;exact⟨by first|rfl|simp,HW.out.trans (HXZ.out.mono (Xh HZ.out))⟩
   ·have hTf:(decide (T ≥ 0)&& decide (T<4000))=false:=by rw[Bool.and_eq_false_iff,Wg,Wg];omega
    rcases Int.lt_or_le T 0 with hTn|hTn
    ·have hTx:¬T ≥ 0:=by omega
     obtain⟨q0,q1,q2,q3,q4,q5,q6⟩:=HBX.out.keep HX4.out HZ.out;rw[HSE.out]at q5;rw[HTE.out]at q6;obtain⟨p0,p1,p2,p3,p4,p5,p6,f5,f6⟩:=HQ4.out.cells7;go_upto_region 9 with fail
     clear q0 q1 q2 q3 q4 q5 q6 p0 p1 p2 p3 p4 p5 p6 f5 f6;obtain⟨q0,q1,q2,q3,q4,q5,q6⟩:=HBX.out.keep HX4.out HZ.out;rw[HSE.out]at q5;rw[HTE.out]at q6;obtain⟨p0,p1,p2,p3,p4,p5,p6,f5,f6⟩:=HQ4.out.cells7;go_upto_region 10 with(go_at_call 10;(with_reducible refine(Qw (m:=qJ m S T) (zH (Jz HI.out)) HX4).mono ?_);rintro e wb ⟨Ab,nb,cb,eb,rfl,hb,hab⟩;have HXB:=zH (HX4.out.trans (hb.mono HX4.out.size));have HM:=zH (Jk HA.out hab (HMS.out S T (by rw[HSE.out]) (by rw[HTE.out])) (by rw[HSE.out];exact XE _) (by rw[HTE.out];exact XE _));clear hb hab)
     clear q0 q1 q2 q3 q4 q5 q6 p0 p1 p2 p3 p4 p5 p6 f5 f6;have HM:=HM.out;clear HA;rcases HM with⟨rfl,rfl⟩|⟨hne,rfl⟩|⟨hne,hnf,rfl⟩
     ·go_wp2_with(go_at_call 9;(with_reducible refine(qO _).mono ?_);rintro e wz ⟨rfl,hb⟩;have HXZ:=zH (HXB.out.trans (hb.mono HXB.out.size));clear hb)
      go_ret;exact⟨by first|rfl|simp,HW.out.trans (HXZ.out.mono (Xh HZ.out))⟩
     ·have h1:(ea !=0)=true:=XC.mpr hne;have h2:(ea==0)=false:=XG.mpr hne;clear hne;go_wp2_with(go_at_call 9;(with_reducible refine(qO _).mono ?_);rintro e wz ⟨rfl,hb⟩;have HXZ:=zH (HXB.out.trans (hb.mono HXB.out.size));clear hb)
      go_ret;exact⟨by first|rfl|simp,HW.out.trans (HXZ.out.mono (Xh HZ.out))⟩
     ·have h1:(ea !=0)=true:=XC.mpr hne;have h2:(ea==0)=false:=XG.mpr hne;have h3:(ea==ea)=true:=by simp
      clear hne hnf;go_wp2_with(go_at_call 9;(with_reducible refine(qO _).mono ?_);rintro e wz ⟨rfl,hb⟩;have HXZ:=zH (HXB.out.trans (hb.mono HXB.out.size));clear hb)
      go_ret;exact⟨by first|rfl|simp,HW.out.trans (HXZ.out.mono (Xh HZ.out))⟩
    ·have hTx:T ≥ 0:=by omega
     have hTy:¬T<4000:=by omega
     obtain⟨q0,q1,q2,q3,q4,q5,q6⟩:=HBX.out.keep HX4.out HZ.out;rw[HSE.out]at q5;rw[HTE.out]at q6;obtain⟨p0,p1,p2,p3,p4,p5,p6,f5,f6⟩:=HQ4.out.cells7;go_upto_region 9 with fail
     clear q0 q1 q2 q3 q4 q5 q6 p0 p1 p2 p3 p4 p5 p6 f5 f6;obtain⟨q0,q1,q2,q3,q4,q5,q6⟩:=HBX.out.keep HX4.out HZ.out;rw[HSE.out]at q5;rw[HTE.out]at q6;obtain⟨p0,p1,p2,p3,p4,p5,p6,f5,f6⟩:=HQ4.out.cells7;go_upto_region 10 with(go_at_call 10;(with_reducible refine(Qw (m:=qJ m S T) (zH (Jz HI.out)) HX4).mono ?_);rintro e wb ⟨Ab,nb,cb,eb,rfl,hb,hab⟩;have HXB:=zH (HX4.out.trans (hb.mono HX4.out.size));have HM:=zH (Jk HA.out hab (HMS.out S T (by rw[HSE.out]) (by rw[HTE.out])) (by rw[HSE.out];exact XE _) (by rw[HTE.out];exact XE _));clear hb hab)
     clear q0 q1 q2 q3 q4 q5 q6 p0 p1 p2 p3 p4 p5 p6 f5 f6;have HM:=HM.out;clear HA;rcases HM with⟨rfl,rfl⟩|⟨hne,rfl⟩|⟨hne,hnf,rfl⟩
     ·go_wp2_with(go_at_call 9;(with_reducible refine(qO _).mono ?_);rintro e wz ⟨rfl,hb⟩;have HXZ:=zH (HXB.out.trans (hb.mono HXB.out.size));clear hb)
      go_ret;exact⟨by first|rfl|simp,HW.out.trans (HXZ.out.mono (Xh HZ.out))⟩
     ·have h1:(ea !=0)=true:=XC.mpr hne;have h2:(ea==0)=false:=XG.mpr hne;clear hne;go_wp2_with(go_at_call 9;(with_reducible refine(qO _).mono ?_);rintro e wz ⟨rfl,hb⟩;have HXZ:=zH (HXB.out.trans (hb.mono HXB.out.size));clear hb)
      go_ret;exact⟨by first|rfl|simp,HW.out.trans (HXZ.out.mono (Xh HZ.out))⟩
     ·have h1:(ea !=0)=true:=XC.mpr hne;have h2:(ea==0)=false:=XG.mpr hne;have h3:(ea==ea)=true:=by simp
      clear hne hnf;go_wp2_with(go_at_call 9;(with_reducible refine(qO _).mono ?_);rintro e wz ⟨rfl,hb⟩;have HXZ:=zH (HXB.out.trans (hb.mono HXB.out.size));clear hb)
      go_ret;exact⟨by first|rfl|simp,HW.out.trans (HXZ.out.mono (Xh HZ.out))⟩
  ·have hSx:S ≥ 0:=by omega
   have hSy:¬S<4000:=by omega
   obtain⟨q0,q1,q2,q3,q4,q5,q6⟩:=HBX.out.keep HX4.out HZ.out;rw[HSE.out]at q5;rw[HTE.out]at q6;obtain⟨p0,p1,p2,p3,p4,p5,p6,f5,f6⟩:=HQ4.out.cells7;go_upto_region 7 with fail
   clear q0 q1 q2 q3 q4 q5 q6 p0 p1 p2 p3 p4 p5 p6 f5 f6;by_cases hT:0≤T∧T<4000
   ·have hT0:=hT.1;have hT1:=hT.2;obtain⟨q0,q1,q2,q3,q4,q5,q6⟩:=HBX.out.keep HX4.out HZ.out;rw[HSE.out]at q5;rw[HTE.out]at q6;obtain⟨p0,p1,p2,p3,p4,p5,p6,f5,f6⟩:=HQ4.out.cells7;go_upto_region 9 with fail
    clear q0 q1 q2 q3 q4 q5 q6 p0 p1 p2 p3 p4 p5 p6 f5 f6;have HXH:Hid (Below w1.heap.size w1 (w4.setCell ⟨N,6,none⟩ (.int .i64 (T+b % 90)))):=zH (HX4.out.setCell (p:=⟨N,6,none⟩) hN (.int .i64 (T+b % 90)));have HQH:=zH (HQ4.out.set6 (T+b % 90));generalize(w4.setCell ⟨N,6,none⟩ (.int .i64 (T+b % 90)))=wh at*
    obtain⟨q0,q1,q2,q3,q4,q5,q6⟩:=HBX.out.keep HXH.out HZ.out;rw[HSE.out]at q5;rw[HTE.out]at q6;obtain⟨p0,p1,p2,p3,p4,p5,p6,f5,f6⟩:=HQH.out.cells7;go_upto_region 10 with(go_at_call 10;(with_reducible refine(Qw (m:=qJ m S (T+b % 90)) (zH (Jz HI.out)) HXH).mono ?_);rintro e wb ⟨Ab,nb,cb,eb,rfl,hb,hab⟩;have HXB:=zH (HXH.out.trans (hb.mono HXH.out.size));have HM:=zH (Jk HA.out hab (HMS.out S (T+b % 90) (by rw[HSE.out]) (by rw[HTE.out];exact VA ⟨by omega,by omega⟩ ⟨by omega,by omega⟩)) (by rw[HSE.out];exact XE _) (by rw[HTE.out];omega));clear hb hab)
    clear q0 q1 q2 q3 q4 q5 q6 p0 p1 p2 p3 p4 p5 p6 f5 f6;have HM:=HM.out;clear HA;rcases HM with⟨rfl,rfl⟩|⟨hne,rfl⟩|⟨hne,hnf,rfl⟩
    ·go_wp2_with(go_at_call 9;(with_reducible refine(qO _).mono ?_);rintro e wz ⟨rfl,hb⟩;have HXZ:=zH (HXB.out.trans (hb.mono HXB.out.size));clear hb)
     go_ret;exact⟨by first|rfl|simp,HW.out.trans (HXZ.out.mono (Xh HZ.out))⟩
    ·have h1:(ea !=0)=true:=XC.mpr hne;have h2:(ea==0)=false:=XG.mpr hne;clear hne;go_wp2_with(go_at_call 9;(with_reducible refine(qO _).mono ?_);rintro e wz ⟨rfl,hb⟩;have HXZ:=zH (HXB.out.trans (hb.mono HXB.out.size));clear hb)
     go_ret;exact⟨by first|rfl|simp,HW.out.trans (HXZ.out.mono (Xh HZ.out))⟩
    ·have h1:(ea !=0)=true:=XC.mpr hne;have h2:(ea==0)=false:=XG.mpr hne;have h3:(ea==ea)=true:=by simp
     clear hne hnf;go_wp2_with(go_at_call 9;(with_reducible refine(qO _).mono ?_);rintro e wz ⟨rfl,hb⟩;have HXZ:=zH (HXB.out.trans (hb.mono HXB.out.size));clear hb)
     go_ret;exact⟨by first|rfl|simp,HW.out.trans (HXZ.out.mono (Xh HZ.out))⟩
   ·have hTf:(decide (T ≥ 0)&& decide (T<4000))=false:=by rw[Bool.and_eq_false_iff,Wg,Wg];omega
    rcases Int.lt_or_le T 0 with hTn|hTn
    ·have hTx:¬T ≥ 0:=by omega
     obtain⟨q0,q1,q2,q3,q4,q5,q6⟩:=HBX.out.keep HX4.out HZ.out;rw[HSE.out]at q5;rw[HTE.out]at q6;obtain⟨p0,p1,p2,p3,p4,p5,p6,f5,f6⟩:=HQ4.out.cells7;go_upto_region 9 with fail
     clear q0 q1 q2 q3 q4 q5 q6 p0 p1 p2 p3 p4 p5 p6 f5 f6;obtain⟨q0,q1,q2,q3,q4,q5,q6⟩:=HBX.out.keep HX4.out HZ.out;rw[HSE.out]at q5;rw[HTE.out]at q6;obtain⟨p0,p1,p2,p3,p4,p5,p6,f5,f6⟩:=HQ4.out.cells7;go_upto_region 10 with(go_at_call 10;(with_reducible refine(Qw (m:=qJ m S T) (zH (Jz HI.out)) HX4).mono ?_);rintro e wb ⟨Ab,nb,cb,eb,rfl,hb,hab⟩;have HXB:=zH (HX4.out.trans (hb.mono HX4.out.size));have HM:=zH (Jk HA.out hab (HMS.out S T (by rw[HSE.out]) (by rw[HTE.out])) (by rw[HSE.out];exact XE _) (by rw[HTE.out];exact XE _));clear hb hab)
     clear q0 q1 q2 q3 q4 q5 q6 p0 p1 p2 p3 p4 p5 p6 f5 f6;have HM:=HM.out;clear HA;rcases HM with⟨rfl,rfl⟩|⟨hne,rfl⟩|⟨hne,hnf,rfl⟩
     ·go_wp2_with(go_at_call 9;(with_reducible refine(qO _).mono ?_);rintro e wz ⟨rfl,hb⟩;have HXZ:=zH (HXB.out.trans (hb.mono HXB.out.size));clear hb)
      go_ret;exact⟨by first|rfl|simp,HW.out.trans (HXZ.out.mono (Xh HZ.out))⟩
     ·have h1:(ea !=0)=true:=XC.mpr hne;have h2:(ea==0)=false:=XG.mpr hne;clear hne;go_wp2_with(go_at_call 9;(with_reducible refine(qO _).mono ?_);rintro e wz ⟨rfl,hb⟩;have HXZ:=zH (HXB.out.trans (hb.mono HXB.out.size));clear hb)
      go_ret;exact⟨by first|rfl|simp,HW.out.trans (HXZ.out.mono (Xh HZ.out))⟩
     ·have h1:(ea !=0)=true:=XC.mpr hne;have h2:(ea==0)=false:=XG.mpr hne;have h3:(ea==ea)=true:=by simp
      clear hne hnf;go_wp2_with(go_at_call 9;(with_reducible refine(qO _).mono ?_);rintro e wz ⟨rfl,hb⟩;have HXZ:=zH (HXB.out.trans (hb.mono HXB.out.size));clear hb)
      go_ret;exact⟨by first|rfl|simp,HW.out.trans (HXZ.out.mono (Xh HZ.out))⟩
    ·have hTx:T ≥ 0:=by omega
     have hTy:¬T<4000:=by omega
     obtain⟨q0,q1,q2,q3,q4,q5,q6⟩:=HBX.out.keep HX4.out HZ.out;rw[HSE.out]at q5;rw[HTE.out]at q6;obtain⟨p0,p1,p2,p3,p4,p5,p6,f5,f6⟩:=HQ4.out.cells7;go_upto_region 9 with fail
     clear q0 q1 q2 q3 q4 q5 q6 p0 p1 p2 p3 p4 p5 p6 f5 f6;obtain⟨q0,q1,q2,q3,q4,q5,q6⟩:=HBX.out.keep HX4.out HZ.out;rw[HSE.out]at q5;rw[HTE.out]at q6;obtain⟨p0,p1,p2,p3,p4,p5,p6,f5,f6⟩:=HQ4.out.cells7;go_upto_region 10 with(go_at_call 10;(with_reducible refine(Qw (m:=qJ m S T) (zH (Jz HI.out)) HX4).mono ?_);rintro e wb ⟨Ab,nb,cb,eb,rfl,hb,hab⟩;have HXB:=zH (HX4.out.trans (hb.mono HX4.out.size));have HM:=zH (Jk HA.out hab (HMS.out S T (by rw[HSE.out]) (by rw[HTE.out])) (by rw[HSE.out];exact XE _) (by rw[HTE.out];exact XE _));clear hb hab)
     clear q0 q1 q2 q3 q4 q5 q6 p0 p1 p2 p3 p4 p5 p6 f5 f6;have HM:=HM.out;clear HA;rcases HM with⟨rfl,rfl⟩|⟨hne,rfl⟩|⟨hne,hnf,rfl⟩
     ·go_wp2_with(go_at_call 9;(with_reducible refine(qO _).mono ?_);rintro e wz ⟨rfl,hb⟩;have HXZ:=zH (HXB.out.trans (hb.mono HXB.out.size));clear hb)
      go_ret;exact⟨by first|rfl|simp,HW.out.trans (HXZ.out.mono (Xh HZ.out))⟩
     ·have h1:(ea !=0)=true:=XC.mpr hne;have h2:(ea==0)=false:=XG.mpr hne;clear hne;go_wp2_with(go_at_call 9;(with_reducible refine(qO _).mono ?_);rintro e wz ⟨rfl,hb⟩;have HXZ:=zH (HXB.out.trans (hb.mono HXB.out.size));clear hb)
      go_ret;exact⟨by first|rfl|simp,HW.out.trans (HXZ.out.mono (Xh HZ.out))⟩
     ·have h1:(ea !=0)=true:=XC.mpr hne;have h2:(ea==0)=false:=XG.mpr hne;have h3:(ea==ea)=true:=by simp
      clear hne hnf;go_wp2_with(go_at_call 9;(with_reducible refine(qO _).mono ?_);rintro e wz ⟨rfl,hb⟩;have HXZ:=zH (HXB.out.trans (hb.mono HXB.out.size));clear hb)
      go_ret;exact⟨by first|rfl|simp,HW.out.trans (HXZ.out.mono (Xh HZ.out))⟩
end Go.Proofs.YtcmiljnbmgkdnaaGreat
