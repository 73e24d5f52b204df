import Derived.Test.YtnfeiginmngknaaGreatFZ27
namespace Go.Proofs.YtnfeiginmngknaaGreat
set_option maxRecDepth 100000
set_option linter.unusedVariables false
set_option linter.unusedSimpArgs false
open Go.ChangeShapes Go.WideShapes Go.ChangeAt Go.RowKit
abbrev Fv(N:Nat)(h:zh)(m:za)(op a b:Int)(w':World):Prop:=I7h N h m w' (w'.cell? ⟨N+1,0,none⟩=some (.int .i64 op)/\w'.cell? ⟨N+1,1,none⟩=some (.int .i64 a)/\w'.cell? ⟨N+1,2,none⟩=some (.int .i64 b))
theorem rz.held{w2:World}{N:Nat}{h:zh}{m:za}{op a b:Int}(HP:Hid (rz w2 N h m op a b)):Hid (∀W,Below w2.heap.size w2 W->Fv N h m op a b W):=zH (fun W hW=>by
 have hz:=HP.out.size;obtain⟨d0,d1,d2,d3,d4,d5,d6⟩:=HP.out.img.keep hW (by omega);have di:=HP.out.ins.keep hW (by omega);exact⟨d0,d1,d2,d3,d4,d5,d6,di 0 _ rfl,di 1 _ rfl,di 2 _ rfl⟩)
theorem JV{L L':List (Int×Int)}{w w':World}{e:Ending}(h:Ys L w e w')(hl:L'=L):Ys L' w e w':=hl ▸ h
theorem q0q{P:Prop}(h:P:=by
 go_wp2_with(first|(go_at_call 175;(with_reducible refine(q0v op Bw.1 Bw.2 _).mono ?_);rintro e w9 ⟨rfl,rfl⟩)|(go_at_call 190;(first|(with_reducible refine(q07 (zH rfl) HN HC HX).mono ?_)|(with_reducible refine(qk2 (zH rfl) HN HC HX).mono ?_)|(with_reducible refine(qk1 (zH rfl) HN HC HX).mono ?_));rintro e w3 ⟨v3,rfl,ho3,hb3⟩;have qa:=zH ho3;have zp:=zH hb3;clear ho3 hb3))
 go_ret;exact JV (bP.some_ (w0:=w2) ⟨_,rfl,qa.out,zp.out⟩ HW.out) (by simp[jE,ZY,rP, *])):P:=h
set_option maxHeartbeats 6400000 in
theorem q8j(m:za)(x:zl)(f:Nat)(op a b:Int)(h:zh)(w:World)(H:zr w w.heap.size h m)(hm:zP m)(hg:m.methods[f]? =some x)(hi:qs op a b=true)(hn:zK m x op a b=true):
  Calls Tryz.prog 142 #[zv h m,qt op a b,.int .i64 f] w (Ys (jE m x op a b) w):=by
 obtain⟨o0,o1,a0,a1,b0,b1⟩:=YN hi;have hcl:m.classes.length<=1000:=by have:=hm.fits.cl;omega
 have HF:Hid (∀c ∈m.classes,c.fields.length<=1000):=zH fun c hc=>by have:=(hm.fits.ct c hc).fl;omega
 obtain⟨hw,hp⟩:=Rn h m op a b w;have HW:=zH hw;have HP:=zH hp;have HI:=zH (H.now hw);have HM:=zH hm;have HG:=zH hg;have Qf:=zH hn;clear hw hp H hi hm hg hn;go_enter Tryz.func142,Tryz.ntmps142;go_upto_region 1 with fail
 change Code.wp _ _ _ _ (iH h m op a b w);go_upto_region 2 with(go_at_call 167;(refine(V6 (h:=h) (m:=m) (w:=w)).mono ?_);rintro e w2 ⟨rfl,rfl⟩)
 generalize Bg h m op a b w=w2 at*
 have HX:=qP w2;have HN:=zH HP.out.fnlt;have HC:=zH HP.out.fn;obtain⟨q0,q1,q2,q3,q4,q5,q6⟩:=HP.out.img;obtain⟨o0,o1,o2⟩:=qv HP.out.ins;by_cases nl:op=5\/op=6\/op=19\/op=20\/op=21\/op=23\/op=24\/op=25\/op=26\/op=27\/op=34
 ·rcases nl with rfl|rfl|rfl|rfl|rfl|rfl|rfl|rfl|rfl|rfl|rfl<;>exact q0q
 by_cases n4:op=4
 ·subst n4;obtain⟨t,ht⟩:=zj (vB x a);have HT:=zH ht;clear ht;go_wp2_with(go_at_call 168;(with_reducible refine(Ui HI HX HG.out (by omega) HT).mono ?_);rintro e w3 ⟨rfl,hb⟩;have zp:=zH hb;clear hb)
  go_ret;exact JV (L:=[t]) ⟨_,_,rfl,JT (by simp) (by go_simp) (by go_simp),HW.out.trans ((zp.out.alloc zp.out.size _).mono HW.out.size)⟩ (by simp[jE,HT.out])
 by_cases n33:op=33
 ·subst n33;go_wp2_with(go_at_call 174;(with_reducible refine(J8 HI HX HG.out).mono ?_);rintro e w3 ⟨A3,c3,rfl,hs3,hb⟩;have zp:=zi HX hb;have jM:=zH hs3;clear hb hs3)
  go_ret;exact JV ⟨_,_,rfl,jM.out,zD HW zp⟩ (by simp[jE])
 by_cases n30:op=30
 ·subst n30;obtain⟨j,rfl⟩:=Xj a0;have hj:j<m.statics.length:=by have:=uH (op:=30) (by omega) Qf.out;omega
  go_wp2_with(go_at_call 170;(with_reducible refine(Sc HI HX (zH (Xc hj))).mono ?_);rintro e w3 ⟨rfl,hb⟩;have zp:=zH hb;clear hb)
  go_ret;exact JV (L:=[m.statics[j]]) ⟨_,_,rfl,JT (by simp) (by go_simp) (by go_simp),HW.out.trans ((zp.out.alloc zp.out.size _).mono HW.out.size)⟩ (by simp[jE,gX,hj])
 by_cases n31:op=31
 ·subst n31;obtain⟨j,rfl⟩:=Xj a0;have hj:j<m.methods.length:=by have:=o8 Qf.out;omega
  go_wp2_with(go_at_call 171;(with_reducible refine(WF HI HX (Xc hj)).mono ?_);rintro e w3 ⟨A3,c3,rfl,hs3,hb⟩;have zp:=zH hb;have jM:=zH hs3;clear hb hs3)
  go_ret;exact JV ⟨_,_,rfl,jM.out,zD HW zp⟩ (by simp[jE,zA,hj])
 by_cases Bw:7<=op/\op<=17
 ·simp only[not_or]at nl;obtain⟨n5,n6,n19,n20,n21,n23,n24,n25,n26,n27,n34⟩:=nl;have n28:¬op=28:=by omega
  have n32:¬op=32:=by omega
  exact q0q
 have jC:=rz.held HP;have HL:Hid (ZY a [3]=[(3,a)]):=zH (by simp[ZY,rP]);have qy:Hid (Below w2.heap.size w2 w2.drew):=zH (zb _ _).drew;obtain⟨i0,hi,hz0,hz1,hz2⟩:=jJ bM;by_cases n28:op=28
 ·subst n28;obtain⟨k,rfl⟩:=Xj b0;have hk:k<(qg m.classes a).length:=by have:=(oZ (op:=28) (by omega) Qf.out).2;omega
  obtain⟨t,ht⟩:=zj ((qg m.classes a)[k]);have HK:Hid ((qg m.classes a)[k]? =some t):=zH (by rw[<-ht];exact Xc hk);clear ht hk;go_wp2_with fail
  clear q0 q1 q2 q3 q4 q5 q6 o0 o1 o2;refine wp_region_noPanic ?_;refine wp_region_held_drew (S:=Fv w.heap.size h m 28 a (k:Int)) (by kernel_rfl) (jC.out _ qy.out) (fun hHeld=> ?_);refine mT 0 (h:=mT 3 (h:=mT 4 (h:=mR 1 (h:=fun K hK=> ?_))));go_simp;refine mK hK (jC.out _ (qy.out.alloc qy.out.size _)) (h:=fun hHeld=> ?_);clear hK K;refine mR 2 (h:=fun K hK=> ?_);go_simp;go_wp2_with(go_at_call 190;(with_reducible refine(WA HL HN HC).mono ?_);rintro e w3 ⟨v3,rfl,ho3,hb3⟩;have qa:=zH ho3;have zp:=zH hb3;clear ho3 hb3)
  refine mK hK (jC.out _ zp.out) (h:=fun hHeld=> ?_);clear hK K;refine mR 5 (h:=fun K hK=> ?_);go_simp;go_wp2_with(go_at_call 169;(with_reducible refine(Uj HI zp HK hcl HF).mono ?_);rintro e w4 ⟨rfl,hb⟩;have HX4:=zi zp hb;have HO4:=kpO qa hb;clear hb)
  refine mK hK (jC.out _ HX4.out) (h:=fun hHeld=> ?_);clear hK K;refine mR 6 (h:=fun K hK=> ?_);go_simp;have HXB:=zH (HX4.out.alloc HX4.out.size (.cells #[.int .i64 t.1,.int .i64 t.2] 45));have hsz:=HX4.out.size;refine mK hK (jC.out _ HXB.out) (h:=fun hHeld=> ?_);clear hK K;refine mR 7 (h:=fun K hK=> ?_)
  (refine gL rfl _ _ 24 rfl w2.heap.size 45 i0 (.agg #[.int .i64 0,.int .i64 0]) 2 16 Tryz.underlying24 hi hz0 hz1 hz2 rfl (by decide) _ 1 (zN [(3,a)]) rfl (HO4.out.alloc _) (some ⟨w4.heap.size,0,none⟩) 1 1 _ (zN [t]) rfl rfl (LC (by simp) (by go_simp) (by go_simp)) (QM _) (by unfold maxLen;omega) (by omega) (by simp;omega) ?_;intro v6 w6 hown hgrow;have HX6:=zH (jx HXB.out (HO4.out.alloc _) (by simp;omega) hgrow);have HO6:=zH hown;clear hown hgrow)
  refine mK hK (jC.out _ HX6.out) (h:=fun hHeld=> ?_);clear hK K;refine mT 8 (h:= ?_);refine wpAnyH_done (by kernel_rfl) ?_ _;refine NoPanic.normal ?_;go_wp2_with fail
  go_ret;exact JV (L:=[(3,a),t]) (bP.some_ (w0:=w2) ⟨_,rfl,HO6.out,HX6.out⟩ HW.out) (by simp[jE,bZ,HK.out])
 by_cases n32:op=32
 ·subst n32;obtain⟨_,k,y,hs,hy,hp⟩:=o7 HM.out a0 b0 Qf.out;have qm1:y.args.length<=1000:=by have:=(HM.out.method (Xr hy)).all;omega
  obtain⟨D,hD⟩:=zj (y.args.drop 1);have hDl:D.length<=1000:=by rw[<-hD,XK];omega
  have jD:=zH hs;have HY:=zH hy;have HD:=zH hD;have tL:Hid (jE m x 32 a b=(3,a)::D):=zH (by rw[<-hD];simp[jE,Yz,zA,hs,hy]);have HCO:Hid (((3,a)::D).length=1+D.length):=zH (by rw[XI,Nat.add_comm]);clear hs hy hD;go_wp2_with fail
  clear q0 q1 q2 q3 q4 q5 q6 o0 o1 o2;refine wp_region_noPanic ?_;refine wp_region_held_drew (S:=Fv w.heap.size h m 32 a b) (by kernel_rfl) (jC.out _ qy.out) (fun hHeld=> ?_);refine mT 0 (h:=mT 3 (h:=mT 4 (h:=mT 5 (h:=mR 1 (h:=fun K hK=> ?_)))));go_simp;refine mK hK (jC.out _ (qy.out.alloc qy.out.size _)) (h:=fun hHeld=> ?_);clear hK K;refine mR 2 (h:=fun K hK=> ?_);go_simp;go_wp2_with(go_at_call 190;(with_reducible refine(WA HL HN HC).mono ?_);rintro e w3 ⟨v3,rfl,ho3,hb3⟩;have qa:=zH ho3;have zp:=zH hb3;clear ho3 hb3)
  refine mK hK (jC.out _ zp.out) (h:=fun hHeld=> ?_);clear hK K;refine mR 6 (h:=fun K hK=> ?_);go_simp;go_wp2_with(go_at_call 173;(with_reducible refine(Wy HI zp jD).mono ?_);rintro e w4 ⟨rfl,hb⟩;have HX4:=zi zp hb;have HO4:=kpO qa hb;clear hb)
  refine mK hK (jC.out _ HX4.out) (h:=fun hHeld=> ?_);clear hK K;refine mR 7 (h:=fun K hK=> ?_);go_simp;go_wp2_with(go_at_call 172;(with_reducible refine(q8m HI HX4 HY.out hp).mono ?_);rintro e w5 ⟨A5,c5,rfl,hs5,hb⟩;(try rw[HD.out]at hs5);have tq:=zH (YQ hs5.row);have qc:=zi HX4 hb;have Vk:=kpO HO4 hb;clear hb hs5;have HXB:=qc;have hsz:=qc.out.size;rw[HD.out])
  refine mK hK (jC.out _ qc.out) (h:=fun hHeld=> ?_);clear hK K;refine mR 8 (h:=fun K hK=> ?_)
  (refine gL rfl _ _ 24 rfl w2.heap.size 45 i0 (.agg #[.int .i64 0,.int .i64 0]) 2 16 Tryz.underlying24 hi hz0 hz1 hz2 rfl (by decide) _ 1 (zN [(3,a)]) rfl Vk.out A5 D.length c5 _ (zN D) (Yt _) rfl tq.out (QM _) (by unfold maxLen;omega) (by omega) hsz ?_;intro v6 w6 hown hgrow;have HX6:=zH (jx HXB.out Vk.out hsz hgrow);have HO6:=zH hown;clear hown hgrow)
  refine mK hK (jC.out _ HX6.out) (h:=fun hHeld=> ?_);clear hK K;refine mT 9 (h:= ?_);refine wpAnyH_done (by kernel_rfl) ?_ _;refine NoPanic.normal ?_;go_wp2_with fail
  go_ret;exact JV (bP.some_ (w0:=w2) ⟨_,rfl,by rw[HCO.out];exact HO6.out,HX6.out⟩ HW.out) tL.out
 simp only[not_or]at nl;obtain⟨n5,n6,n19,n20,n21,n23,n24,n25,n26,n27,n34⟩:=nl;go_wp2_with(go_at_call 175;(with_reducible refine(is_no op (by omega) _).mono ?_);rintro e w9 ⟨rfl,rfl⟩)
 go_ret;exact JV ⟨none,0,rfl,va,HW.out⟩ (by simp[jE,n4,n5,n6,n19,n20,n21,n23,n24,n25,n26,n27,n28,n30,n31,n32,n33,n34];omega)
