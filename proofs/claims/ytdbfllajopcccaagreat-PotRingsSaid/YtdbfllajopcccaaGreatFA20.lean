import Derived.Test.YtdbfllajopcccaaGreatFA18
namespace Go.Proofs.YtdbfllajopcccaaGreat
set_option maxRecDepth 100000
set_option linter.unusedVariables false
set_option linter.unusedSimpArgs false
theorem VO{P:Prop}(h:P:=by
 have e1:=World.new_ne wr _ p0;have e2:=World.new_ne wr _ r0;go_region_held3 (fun w'=>w'.cell? (ad1.add (j*2))=some (.int .i64 t0)∧w'.cell? (zc (ad1.add (j*2)) 1)=some (.int .i64 t1)∧w'.cell? (ad2.add (k*2))=some (.int .i64 u0)∧w'.cell? (zc (ad2.add (k*2)) 1)=some (.int .i64 u1)) (go_keep) (first|fail)
 all_goals
  go_wp2_with fail
  go_meet
  first
   |exact⟨_,_,rfl,rfl,zH (Qx wr 39 [.int .i64 t0,.int .i64 t1] [.int .i64 u0,.int .i64 u1]).1,zH (Qx wr 39 [.int .i64 t0,.int .i64 t1] [.int .i64 u0,.int .i64 u1]).2.1,zH (Qx wr 39 [.int .i64 t0,.int .i64 t1] [.int .i64 u0,.int .i64 u1]).2.2.1,zH (Qx wr 39 [.int .i64 t0,.int .i64 t1] [.int .i64 u0,.int .i64 u1]).2.2.2.1,zH (Qx wr 39 [.int .i64 t0,.int .i64 t1] [.int .i64 u0,.int .i64 u1]).2.2.2.2⟩
   |exact⟨_,_,rfl,rfl,zH (Qx wr 39 [.int .i64 u0,.int .i64 u1] [.int .i64 t0,.int .i64 t1]).2.1,zH (Qx wr 39 [.int .i64 u0,.int .i64 u1] [.int .i64 t0,.int .i64 t1]).1,zH (Qx wr 39 [.int .i64 u0,.int .i64 u1] [.int .i64 t0,.int .i64 t1]).2.2.1,zH (Qx wr 39 [.int .i64 u0,.int .i64 u1] [.int .i64 t0,.int .i64 t1]).2.2.2.2,zH (Qx wr 39 [.int .i64 u0,.int .i64 u1] [.int .i64 t0,.int .i64 t1]).2.2.2.1⟩):P:=h
theorem q7r{P:Prop}(h:P:=by
 obtain rfl:k=TK.length:=by omega
 obtain⟨q0,q1,q2,q3,q4,q5,q6⟩:=HBX2.out.keep (HY.out.trans (HX.out.mono HY.out.size)) HZB.out;have E2:=zH (E1.out.trans (if_pos (ZO HN.out (by rw[HZl.out];exact zn _))));obtain⟨i0,hi,hz0,hz1,hz2⟩:=jg kK;have HXT:=zH (HY.out.trans (HX.out.mono HY.out.size));have HB0:=zH ((zb wr.heap.size wr).alloc (zn _) (.cells #[] 39));have HO0:=zH (ka wr 39 2);have HA:=zH (((vl (HST2.out.row.take_ d)).below_to (HXT.out.trans (HB0.out.mono HXT.out.size)) (zn _)):zz (wr.alloc (.cells #[] 39)) w2.heap.size A (zD (st.take d)));have htd:(st.take d).length=d:=by rw[List.length_take];omega
 have hdc:d≤cap:=by omega
 have HE:=zH E2.out;rcases A with _|ad0
 ·have hst0:st.length=0:=Nat.eq_zero_of_not_pos fun q=>by obtain⟨_,e,_⟩:=HST2.out.row.at_ q;exact absurd e (by simp)
  obtain rfl:st=[]:=List.eq_nil_of_length_eq_zero hst0;obtain rfl:d=0:=by omega
  go_wp2_with(first
   |(at_builtin;refine ja rfl _ _ 23 rfl wr.heap.size 39 i0 (.agg #[.int .i64 0,.int .i64 0]) 2 16 Tryz.underlying23 hi hz0 hz1 hz2 rfl (by decide) _ 0 [] rfl HO0.out none 0 _ _ (zD (([]:List (Int×Int)).take 0)) rfl rfl HA.out (jt _) (by unfold maxLen;omega) (by omega) HB0.out.size ?_;intro v6 w6 hO6 hG6;have HB6:=zH (qA HB0.out HO0.out HB0.out.size hG6);have HO6:=zH hO6;have HG6:=zH (((vl HG.out.row).below_to (HX.out.trans (HB6.out.mono HX.out.size)) (zn _)):zz w6 w5.heap.size Ag (zD GV));clear hO6 hG6)
   |(at_builtin;refine ja rfl _ _ 23 rfl wr.heap.size 39 i0 (.agg #[.int .i64 0,.int .i64 0]) 2 16 Tryz.underlying23 hi hz0 hz1 hz2 rfl (by decide) _ (0+0) ([]++zD (([]:List (Int×Int)).take 0)) rfl HO6.out Ag GV.length cg _ (zD GV) (vz _) rfl HG6.out (jt _) (by unfold maxLen;omega) (by omega) HB6.out.size ?_;intro v7 w7 hO7 hG7;have HB7:=zH (qA HB6.out HO6.out HB6.out.size hG7);have HO7:=zH hO7;clear hO7 hG7))
  have hO:w7.ownsRow wr.heap.size 39 2 v7 (([]:List (Int×Int)).take 0++GV).length (zD (([]:List (Int×Int)).take 0++GV)):=by
   have:=HO7.out;rw[List.length_append];unfold zD at this⊢
   rw[List.flatMap_append];simpa using this
  obtain⟨A7,c7,rfl,hS,_⟩:=vy hO;go_ret3
  rw[HE.out];have hB:=HY.out.trans ((HX.out.trans (HB7.out.mono HX.out.size)).mono HY.out.size);refine⟨A7,c7,some ⟨w2.heap.size,0,none⟩,1,?_,hS,HNX.out.keep' zo.keeps (Nat.le_trans HX.out.size HB7.out.size) (fun q hq=>((HX.out.trans (HB7.out.mono HX.out.size)).cell hq)),HW2.out.trans (hB.mono HW2.out.size),JM HW2.out.size⟩;show _=Ending.returned (.tuple #[.slice A7 (([]:List (Int×Int)).take 0++GV).length c7,.slice (some ⟨w2.heap.size,0,none⟩) nl.length 1,.int .i64 0]);rw[HNL.out];rfl
 ·go_wp2_with(first
   |(at_builtin;refine ja rfl _ _ 23 rfl wr.heap.size 39 i0 (.agg #[.int .i64 0,.int .i64 0]) 2 16 Tryz.underlying23 hi hz0 hz1 hz2 rfl (by decide) _ 0 [] rfl HO0.out (some ad0) d cap _ (zD (st.take d)) (by rw[vz,htd]) rfl HA.out (jt _) (by unfold maxLen;omega) (by omega) HB0.out.size ?_;intro v6 w6 hO6 hG6;have HB6:=zH (qA HB0.out HO0.out HB0.out.size hG6);have HO6:=zH hO6;have HG6:=zH (((vl HG.out.row).below_to (HX.out.trans (HB6.out.mono HX.out.size)) (zn _)):zz w6 w5.heap.size Ag (zD GV));clear hO6 hG6)
   |(at_builtin;refine ja rfl _ _ 23 rfl wr.heap.size 39 i0 (.agg #[.int .i64 0,.int .i64 0]) 2 16 Tryz.underlying23 hi hz0 hz1 hz2 rfl (by decide) _ (0+d) ([]++zD (st.take d)) rfl HO6.out Ag GV.length cg _ (zD GV) (vz _) rfl HG6.out (jt _) (by unfold maxLen;omega) (by omega) HB6.out.size ?_;intro v7 w7 hO7 hG7;have HB7:=zH (qA HB6.out HO6.out HB6.out.size hG7);have HO7:=zH hO7;clear hO7 hG7))
  have hO:w7.ownsRow wr.heap.size 39 2 v7 (st.take d++GV).length (zD (st.take d++GV)):=by
   have:=HO7.out;rw[List.length_append,htd];unfold zD at this⊢
   rw[List.flatMap_append];simpa using this
  obtain⟨A7,c7,rfl,hS,_⟩:=vy hO;go_ret3
  rw[HE.out];have hB:=HY.out.trans ((HX.out.trans (HB7.out.mono HX.out.size)).mono HY.out.size);refine⟨A7,c7,some ⟨w2.heap.size,0,none⟩,1,?_,hS,HNX.out.keep' zo.keeps (Nat.le_trans HX.out.size HB7.out.size) (fun q hq=>((HX.out.trans (HB7.out.mono HX.out.size)).cell hq)),HW2.out.trans (hB.mono HW2.out.size),JM HW2.out.size⟩;show _=Ending.returned (.tuple #[.slice A7 (st.take d++GV).length c7,.slice (some ⟨w2.heap.size,0,none⟩) nl.length 1,.int .i64 0]);rw[HNL.out];rfl):P:=h
theorem VN{P:Prop}(h:P:=by
 have bu4:(u0==4)=false:=beq_eq_false_iff_ne.mpr hu4;have HD:=zH ((qp9 hu0 hu4).symm.trans hr);cases r
 ·have E2:=zH (E1.out.trans (if_neg (by rw[HNO.out hr];decide)));clear hr;go_wp2_with(first|(go_at_call 34;(with_reducible refine(q8q HIM2 HXT HCL HD).mono ?_);rintro e w' ⟨rfl,hb⟩;have HX:=zj HX hb;clear hb))
  go_ret3
  rw[E2.out];exact kw 4 (HW2.out.trans ((HY.out.trans (HX.out.mono HY.out.size)).mono HW2.out.size))
 ·have HR2:=zH (HYE.out hr);clear hr;go_wp2_with(first|(go_at_call 34;(with_reducible refine(q8q HIM2 HXT HCL HD).mono ?_);rintro e w' ⟨rfl,hb⟩;have HX:=zj HX hb;clear hb))
  go_roundw;case rel=>exact⟨k+1,by omega,by go_num,HR2,HX⟩
  case measure=>simp[intOf];omega):P:=h
theorem VM{P:Prop}(h:P:=by
 have HR2:=zH (HYE.out qpa);go_wp2_with fail
 go_roundw;case rel=>exact⟨k+1,by omega,by go_num,HR2,HX⟩
 case measure=>simp[intOf];omega):P:=h
theorem q7q{P:Prop}(h:P:=by
 have E0:=zH (q4g (m:=m) (x:=x) (b:=b) (st:=st) en hov);go_region_held3 (fun w'=>w'.cell? ⟨w.heap.size,3,none⟩=some (.slice (some ad) m.methods.length h.c3)∧w'.cell? ⟨(ad.add (f*8)).block,(ad.add (f*8)).off+4,none⟩=some (.slice (some ac) x.code.length hx'.k4)∧w'.cell? ⟨w2.heap.size,0,none⟩=some (.int .i64 ((pc:Int)+1))) (first|exact⟨q3,c4,n0⟩) (first|fail)
 all_goals
  go_wp2_with fail
  go_ret3
  rw[E0.out];exact kw 4 (HW2.out.trans (HY.out.drew.mono HW2.out.size))):P:=h
theorem VL{P:Prop}(h:P:=by
 have E2:=zH (E0.out.trans (qjz hd hs2));go_wp2_with fail
 go_ret3
 rw[E2.out];exact kw 4 (HW2.out.trans (HY.out.mono HW2.out.size))):P:=h
theorem VK{P:Prop}(h:P:=by
 have E2:=zH (E0.out.trans (qg0 hs1));go_wp2_with fail
 go_ret3
 rw[E2.out];exact kw 4 (HW2.out.trans (HY.out.mono HW2.out.size))):P:=h
end Go.Proofs.YtdbfllajopcccaaGreat
