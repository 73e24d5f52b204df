/-
  The statement that what is proved by some is proved by more, none of which counts, and twice as much by twice as many times (LinAdds), walked: it answers true at any inequalities and numbers.
-/
import Derived.Test.YtncbmjpfbkngdaaLinMore
import Derived.Deep.Cut
import Derived.Deep.DeepCutAuto
import Derived.IntWalk
import Derived.RegionTactic
import Derived.ChangeAlike
import Derived.Deep.RegionHeld3
import Derived.Deep.QuietTactic
import Derived.BigQuiet
namespace Go.Proofs.Ytncbmjpfbkngdaa
set_option maxRecDepth 100000
set_option linter.unusedVariables false
set_option linter.unusedSimpArgs false
open Go.ChangeShapes Go.WideShapes Go.ChangeAt Go.RowKit
set_option linter.unusedVariables false
set_option linter.unusedSimpArgs false

noncomputable def addsReg : Code := ((Try.f7.body.bind (findRegion 32)).getD .skip)
set_option maxHeartbeats 12800000 in
theorem adds32 {list : List Inq} {T CL W : List Int} {CM m : Int} {A A7 C : Option Addr} {c k c7 ce ca ga u g7 gw : Nat} {w2 wr : World} (H1 : Hid (SlcIs IneqAt 2 w2 w2.heap.size A c list)) (HLN : Hid (list.length = k)) (HTL : Hid (T.length = k)) (HF : Hid (fewQ list = true)) (HS1 : Hid (sumR list T (u : Int) = some (CL, CM))) (HCN : Hid (CL.length = u)) (HWS : Hid (SlcIs IntAt 1 w2 w2.heap.size C ce W ∧ W.length = u)) (HBW : Hid (true = true → (-1152921504606846976 < m ∧ m < 1152921504606846976) ∧ ∀ c ∈ W.take u, -1152921504606846976 < c ∧ c < 1152921504606846976)) (HPV : Hid (provesB list T (CL, CM) = true)) (HS : Hid (SlcIs IntAt 1 wr wr.heap.size A7 c7 CL)) (HTO : Hid (wr.ownsRow w2.heap.size 3 1 (.slice (some ⟨ga, 0, none⟩) T.length ca) T.length (T.map (Value.int .i64)))) (HA7W : Hid (CL ≠ [] → ∀ ad, A7 = some ad → ga ≠ ad.block ∧ ad.block < wr.heap.size)) (HSC : Hid (Four wr g7 (.slice A7 u c7) (.int .i64 CM) gw (.slice C u ce) (.int .i64 m))) (HB : Hid (Below w2.heap.size w2 wr)) (HG7 : Hid (ga ≠ g7 ∧ ga ≠ gw)) (HG7W : Hid (g7 < wr.heap.size ∧ gw < wr.heap.size)) (hk10 : k ≤ 10) (hu50 : u ≤ 50)
    (Q : Exit → Act → World → Prop) (sl1 sl2 sl3 sl4 sl6 sl8 sl9 sl10 sl11 sl13 sl14 sl15 sl16 sl18 sl19 sl20 sl21 sl22 sl23 sl24 sl25 sl26 sl27 sl28 sl29 sl30 sl31 sl32 sl33 sl34 sl35 sl36 sl37 sl38 sl39 sl40 sl41 sl42 sl43 sl44 sl45 sl46 sl47 sl48 sl49 sl50 sl51 sl52 sl53 sl54 sl55 sl56 sl57 sl58 sl59 sl60 sl61 sl62 sl63 sl64 sl65 sl66 sl67 sl68 sl69 sl70 sl71 sl72 sl73 sl74 sl75 sl76 sl77 sl78 sl79 sl80 sl81 sl82 sl83 sl84 sl85 sl86 sl87 sl88 sl89 sl90 sl91 sl92 sl93 sl94 sl95 sl96 sl97 sl98 sl99 sl100 sl101 sl102 sl103 sl104 sl105 sl106 sl107 sl108 sl109 sl110 sl111 sl112 sl113 sl114 sl115 sl116 sl117 sl118 sl119 sl120 sl121 sl122 sl123 sl124 sl125 sl126 sl127 sl128 sl129 sl130 sl131 sl132 sl133 sl134 sl135 sl136 sl137 sl138 sl139 sl140 sl141 sl142 sl143 sl144 sl145 sl146 sl147 sl148 sl149 sl150 sl151 sl152 sl153 sl154 sl155 sl156 sl157 sl158 sl159 sl160 sl161 sl162 sl163 sl164 sl165 sl166 sl167 sl168 sl169 sl170 sl171 sl172 sl173 sl174 sl175 sl176 sl177 sl178 sl179 sl180 sl181 sl182 sl183 sl184 sl185 sl186 sl187 sl188 sl189 sl190 sl191 sl192 sl193 sl194 sl195 sl196 sl197 sl198 sl199 sl200 sl201 sl202 sl203 sl204 sl205 sl206 sl207 sl208 sl209 sl210 sl211 sl212 sl213 sl214 sl215 sl216 sl217 sl218 sl219 sl220 sl221 sl222 sl223 sl224 sl225 sl226 sl227 sl228 sl229 sl230 sl231 sl232 sl233 sl234 sl235 sl236 : Value)
    (hQ : ∀ (vl213 vl214 vl215 vl216 vl217 vl218 vl219 vl220 vl221 vl222 vl223 vl224 vl225 vl226 vl227 vl228 vl229 vl230 vl231 vl232 vl233 vl234 vl235 vl236 : Value) (w' : World), Hid (Below w2.heap.size w2 w') → Q .normal ⟨#[.slice A k c, sl1, sl2, sl3, sl4, .pointer (some ⟨gw, 0, none⟩), .bool true, .slice (some ⟨ga, 0, none⟩) T.length ca, sl8, sl9, sl10, sl11, .pointer (some ⟨g7, 0, none⟩), sl13, sl14, sl15, sl16, .bool true, sl18, sl19, sl20, sl21, sl22, sl23, sl24, sl25, sl26, sl27, sl28, sl29, sl30, sl31, sl32, sl33, sl34, sl35, sl36, sl37, sl38, sl39, sl40, sl41, sl42, sl43, sl44, sl45, sl46, sl47, sl48, sl49, sl50, sl51, sl52, sl53, sl54, sl55, sl56, sl57, sl58, sl59, sl60, sl61, sl62, sl63, sl64, sl65, sl66, sl67, sl68, sl69, sl70, sl71, sl72, sl73, sl74, sl75, sl76, sl77, sl78, sl79, sl80, sl81, sl82, sl83, sl84, sl85, sl86, sl87, sl88, sl89, sl90, sl91, sl92, sl93, sl94, sl95, sl96, sl97, sl98, sl99, sl100, sl101, sl102, sl103, sl104, sl105, sl106, sl107, sl108, sl109, sl110, sl111, sl112, sl113, sl114, sl115, sl116, sl117, sl118, sl119, sl120, sl121, sl122, sl123, sl124, sl125, sl126, sl127, sl128, sl129, sl130, sl131, sl132, sl133, sl134, sl135, sl136, sl137, sl138, sl139, sl140, sl141, sl142, sl143, sl144, sl145, sl146, sl147, sl148, sl149, sl150, sl151, sl152, sl153, sl154, sl155, sl156, sl157, sl158, sl159, sl160, sl161, sl162, sl163, sl164, sl165, sl166, sl167, sl168, sl169, sl170, sl171, sl172, sl173, sl174, sl175, sl176, sl177, sl178, sl179, sl180, sl181, sl182, sl183, sl184, sl185, sl186, sl187, sl188, sl189, sl190, sl191, sl192, sl193, sl194, sl195, sl196, sl197, sl198, sl199, sl200, sl201, sl202, sl203, sl204, sl205, sl206, sl207, sl208, sl209, sl210, sl211, sl212, vl213, vl214, vl215, vl216, vl217, vl218, vl219, vl220, vl221, vl222, vl223, vl224, vl225, vl226, vl227, vl228, vl229, vl230, vl231, vl232, vl233, vl234, vl235, vl236], []⟩ w') :
    Code.wp Try.prog addsReg Q ⟨#[.slice A k c, sl1, sl2, sl3, sl4, .pointer (some ⟨gw, 0, none⟩), sl6, .slice (some ⟨ga, 0, none⟩) T.length ca, sl8, sl9, sl10, sl11, .pointer (some ⟨g7, 0, none⟩), sl13, sl14, sl15, sl16, .bool true, sl18, sl19, sl20, sl21, sl22, sl23, sl24, sl25, sl26, sl27, sl28, sl29, sl30, sl31, sl32, sl33, sl34, sl35, sl36, sl37, sl38, sl39, sl40, sl41, sl42, sl43, sl44, sl45, sl46, sl47, sl48, sl49, sl50, sl51, sl52, sl53, sl54, sl55, sl56, sl57, sl58, sl59, sl60, sl61, sl62, sl63, sl64, sl65, sl66, sl67, sl68, sl69, sl70, sl71, sl72, sl73, sl74, sl75, sl76, sl77, sl78, sl79, sl80, sl81, sl82, sl83, sl84, sl85, sl86, sl87, sl88, sl89, sl90, sl91, sl92, sl93, sl94, sl95, sl96, sl97, sl98, sl99, sl100, sl101, sl102, sl103, sl104, sl105, sl106, sl107, sl108, sl109, sl110, sl111, sl112, sl113, sl114, sl115, sl116, sl117, sl118, sl119, sl120, sl121, sl122, sl123, sl124, sl125, sl126, sl127, sl128, sl129, sl130, sl131, sl132, sl133, sl134, sl135, sl136, sl137, sl138, sl139, sl140, sl141, sl142, sl143, sl144, sl145, sl146, sl147, sl148, sl149, sl150, sl151, sl152, sl153, sl154, sl155, sl156, sl157, sl158, sl159, sl160, sl161, sl162, sl163, sl164, sl165, sl166, sl167, sl168, sl169, sl170, sl171, sl172, sl173, sl174, sl175, sl176, sl177, sl178, sl179, sl180, sl181, sl182, sl183, sl184, sl185, sl186, sl187, sl188, sl189, sl190, sl191, sl192, sl193, sl194, sl195, sl196, sl197, sl198, sl199, sl200, sl201, sl202, sl203, sl204, sl205, sl206, sl207, sl208, sl209, sl210, sl211, sl212, sl213, sl214, sl215, sl216, sl217, sl218, sl219, sl220, sl221, sl222, sl223, sl224, sl225, sl226, sl227, sl228, sl229, sl230, sl231, sl232, sl233, sl234, sl235, sl236], []⟩ wr := by
  obtain ⟨i0, hi, hz0, hz1, hz2⟩ := info_parts14 info_int14
  obtain ⟨j0, hj, jz0, jz1, jz2⟩ := info_parts14 info_inq
  have HZ0 : Hid (wr.heap.size ≤ wr.heap.size) := Lib.hid (Nat.le_refl _)
  have HPV2 : Hid (provesB (list ++ [(W, m)]) (T ++ [0]) (CL, CM) = true) := Lib.hid (proves_more HS1.out HCN.out HWS.out.2 (HBW.out rfl).1 (by have h := (HBW.out rfl).2; rw [← HWS.out.2, List.take_length] at h; exact h))
  obtain ⟨xs, hxv, hxl, hx1⟩ := inqs_lie H1.out k (by rw [HLN.out]; exact Nat.le_refl _)
  rw [← HLN.out, List.take_length] at hxv
  have hxn : xs.length = k * 2 := by have := hxv.1; rw [HLN.out] at this; exact this
  have HXV := Lib.hid hxv
  have HXL := Lib.hid hxl
  have HFM : Hid (fewQ (list ++ [(W, m)]) = true) := Lib.hid (fewQ_intro (by rw [List.length_append, HLN.out]; simp; omega) (fun q hq => by
    rw [List.mem_append, List.mem_singleton] at hq
    rcases hq with hq | rfl
    · exact (fewQ_yes HF.out).2 q hq
    · show W.length ≤ 100; rw [HWS.out.2]; omega))
  have HLM : Hid ((list ++ [(W, m)]).length = k + 1) := Lib.hid (by simp [HLN.out])
  have hT10 : T.length ≤ 10 := by rw [HTL.out]; exact hk10
  have hl7 := HS.out.le
  rw [HCN.out] at hl7
  have hc7 := HS.out.cap
  have hCe := HWS.out.1.le
  rw [HWS.out.2] at hCe
  have hCc := HWS.out.1.cap
  have hLe := H1.out.le
  rw [HLN.out] at hLe
  have hLc := H1.out.cap
  have HW7 : Hid (g7 < wr.heap.size) := Lib.hid HG7W.out.1
  have HWW : Hid (gw < wr.heap.size) := Lib.hid HG7W.out.2
  have HWB : Hid (w2.heap.size ≤ wr.heap.size) := Lib.hid HB.out.size
  have HXN : Hid (InqsV w2 (xs ++ [.slice C u ce, .int .i64 m]) (list ++ [(W, m)])) := Lib.hid (by have h := HXV.out.snoc (m := m) HWS.out.1; rw [HWS.out.2] at h; exact h)
  clear hxv hxl
  conv => arg 2; whnf
  have HB := Lib.hid HB.out.drew
  have HS : Hid (SlcIs IntAt 1 wr.drew wr.drew.heap.size A7 c7 CL) := Lib.hid (lslcUp IntAt.keeps HS.out (Below.refl _ _).drew)
  have HTO := Lib.hid (own_below HTO.out (Below.refl wr.heap.size wr).drew (own_block_lt HTO.out))
  have HSC := Lib.hid (HSC.out.below (Below.refl _ _).drew)
  have HZ0 : Hid (wr.heap.size ≤ wr.drew.heap.size) := Lib.hid (Nat.le_refl _)
  refine wp_region_noPanic ?_
  refine wp_region_held_drew (S := fun w' => w'.cell? ⟨g7, 0, none⟩ = some (.slice A7 u c7) ∧ w'.cell? ⟨g7, 1, none⟩ = some (.int .i64 CM) ∧ w'.cell? ⟨gw, 0, none⟩ = some (.slice C u ce) ∧ w'.cell? ⟨gw, 1, none⟩ = some (.int .i64 m)) (by kernel_rfl) HSC.out.cells (fun hHeld => ?_)
  generalize wr.drew = w12 at HB HS HTO HSC HZ0 hHeld ⊢
  refine wpAnyH_ready (rs := [0]) (by kernel_rfl) (by simp) ?_
  refine AllReadyH.cons (o := _) rfl (fun K hK => ?_) AllReadyH.nil
  go_simp
  (go_at_call 10; (with_reducible refine (linAwake_any _).mono ?_); rintro e w13 ⟨rfl, hb⟩; have HB := Lib.hid (HB.out.trans (hb.mono HB.out.size)); have HS := Lib.hid (lslcUp IntAt.keeps HS.out hb); have HTO := Lib.hid (own_below HTO.out hb (own_block_lt HTO.out)); have HSC := Lib.hid (HSC.out.below hb); have HZ0 := Lib.hid (Nat.le_trans HZ0.out hb.size); clear hb)
  refine hK.out _ _ HSC.out.cells (fun hHeld => ?_)
  clear hK K
  try simp only [List.getElem_toArray, List.getElem_cons_succ, List.getElem_cons_zero, Act.put, List.setIfInBounds_toArray, List.set_cons_zero, List.set_cons_succ]
  refine wpAnyH_take (i := 1) (oi := _) (v := ?_) rfl (by kernel_rfl) (by kernel_rfl) (by kernel_rfl) (fun _ _ _ h => h) (Or.inl ⟨by rfl, ?_⟩) (by assumption) ?_
  rotate_left
  · (intro w hSw; (try dsimp only at hSw); go_simp <;> with_reducible rfl)
  try simp only [List.getElem_toArray, List.getElem_cons_succ, List.getElem_cons_zero, Act.put, List.setIfInBounds_toArray, List.set_cons_zero, List.set_cons_succ]
  refine wpAnyH_take (i := 2) (oi := _) (v := ?_) rfl (by kernel_rfl) (by kernel_rfl) (by kernel_rfl) (fun _ _ _ h => h) (Or.inl ⟨by rfl, ?_⟩) (by assumption) ?_
  rotate_left
  · (intro w hSw; (try dsimp only at hSw); go_simp <;> with_reducible rfl)
  try simp only [List.getElem_toArray, List.getElem_cons_succ, List.getElem_cons_zero, Act.put, List.setIfInBounds_toArray, List.set_cons_zero, List.set_cons_succ]
  refine wpAnyH_take (i := 3) (oi := _) (v := ?_) rfl (by kernel_rfl) (by kernel_rfl) (by kernel_rfl) (fun _ _ _ h => h) (Or.inl ⟨by rfl, ?_⟩) (by assumption) ?_
  rotate_left
  · (intro w hSw; (try dsimp only at hSw); go_simp <;> with_reducible rfl)
  try simp only [List.getElem_toArray, List.getElem_cons_succ, List.getElem_cons_zero, Act.put, List.setIfInBounds_toArray, List.set_cons_zero, List.set_cons_succ]
  refine wpAnyH_take (i := 4) (oi := _) (v := ?_) rfl (by kernel_rfl) (by kernel_rfl) (by kernel_rfl) (fun _ _ _ h => h) (Or.inl ⟨by rfl, ?_⟩) (by assumption) ?_
  rotate_left
  · (intro w hSw; (try dsimp only at hSw); go_simp <;> with_reducible rfl)
  try simp only [List.getElem_toArray, List.getElem_cons_succ, List.getElem_cons_zero, Act.put, List.setIfInBounds_toArray, List.set_cons_zero, List.set_cons_succ]
  refine wpAnyH_ready (rs := [5]) (by kernel_rfl) (by simp) ?_
  refine AllReadyH.cons (o := _) rfl (fun K hK => ?_) AllReadyH.nil
  go_simp
  (go_at_call 14; (with_reducible refine (lproves_is (Lib.hid (lslcUp IneqAt.keeps H1.out HB.out)) (Lib.hid (own_lit_ints HTO.out rfl)) (Lib.hid (Below.refl _ _)) (Lib.hid ⟨HLN.out, rfl⟩) HF (Lib.hid ⟨HS.out, HCN.out⟩) HPV (by omega)).mono ?_); rintro e w14 ⟨rfl, hb⟩; have HB := Lib.hid (HB.out.trans (hb.mono HB.out.size)); have HS := Lib.hid (lslcUp IntAt.keeps HS.out hb); have HTO := Lib.hid (own_below HTO.out hb (own_block_lt HTO.out)); have HSC := Lib.hid (HSC.out.below hb); have HZ0 := Lib.hid (Nat.le_trans HZ0.out hb.size); clear hb)
  refine hK.out _ _ HSC.out.cells (fun hHeld => ?_)
  clear hK K
  try simp only [List.getElem_toArray, List.getElem_cons_succ, List.getElem_cons_zero, Act.put, List.setIfInBounds_toArray, List.set_cons_zero, List.set_cons_succ]
  refine wpAnyH_take (i := 6) (oi := _) (v := ?_) rfl (by kernel_rfl) (by kernel_rfl) (by kernel_rfl) (fun _ _ _ h => h) (Or.inl ⟨by rfl, ?_⟩) (by assumption) ?_
  rotate_left
  · (intro w hSw; (try dsimp only at hSw); go_simp <;> with_reducible rfl)
  try simp only [List.getElem_toArray, List.getElem_cons_succ, List.getElem_cons_zero, Act.put, List.setIfInBounds_toArray, List.set_cons_zero, List.set_cons_succ]
  refine wpAnyH_take (i := 7) (oi := _) (v := ?_) rfl (by kernel_rfl) (by kernel_rfl) (by kernel_rfl) (fun _ _ _ h => h) (Or.inl ⟨by rfl, ?_⟩) (by assumption) ?_
  rotate_left
  · (intro w hSw; (try dsimp only at hSw); go_simp <;> with_reducible rfl)
  try simp only [List.getElem_toArray, List.getElem_cons_succ, List.getElem_cons_zero, Act.put, List.setIfInBounds_toArray, List.set_cons_zero, List.set_cons_succ]
  refine wpAnyH_take (i := 8) (oi := _) (v := ?_) rfl (by kernel_rfl) (by kernel_rfl) (by kernel_rfl) (fun _ _ _ h => h) (Or.inl ⟨by rfl, ?_⟩) (by assumption) ?_
  rotate_left
  · (intro w hSw; (try dsimp only at hSw); go_simp <;> with_reducible rfl)
  try simp only [List.getElem_toArray, List.getElem_cons_succ, List.getElem_cons_zero, Act.put, List.setIfInBounds_toArray, List.set_cons_zero, List.set_cons_succ]
  refine wpAnyH_take (i := 9) (oi := _) (v := ?_) rfl (by kernel_rfl) (by kernel_rfl) (by kernel_rfl) (fun _ _ _ h => h) (Or.inl ⟨by rfl, ?_⟩) (by assumption) ?_
  rotate_left
  · (intro w hSw; (try dsimp only at hSw); go_simp <;> with_reducible rfl)
  try simp only [List.getElem_toArray, List.getElem_cons_succ, List.getElem_cons_zero, Act.put, List.setIfInBounds_toArray, List.set_cons_zero, List.set_cons_succ]
  refine wpAnyH_take (i := 10) (oi := _) (v := ?_) rfl (by kernel_rfl) (by kernel_rfl) (by kernel_rfl) (fun _ _ _ h => h) (Or.inl ⟨by rfl, ?_⟩) (by assumption) ?_
  rotate_left
  · (intro w hSw; (try dsimp only at hSw); go_simp <;> with_reducible rfl)
  try simp only [List.getElem_toArray, List.getElem_cons_succ, List.getElem_cons_zero, Act.put, List.setIfInBounds_toArray, List.set_cons_zero, List.set_cons_succ]
  refine wpAnyH_take (i := 12) (oi := _) (v := ?_) rfl (by kernel_rfl) (by kernel_rfl) (by kernel_rfl) (fun _ _ _ h => h) (Or.inl ⟨by rfl, ?_⟩) (by assumption) ?_
  rotate_left
  · (intro w hSw; (try dsimp only at hSw); go_simp <;> with_reducible rfl)
  try simp only [List.getElem_toArray, List.getElem_cons_succ, List.getElem_cons_zero, Act.put, List.setIfInBounds_toArray, List.set_cons_zero, List.set_cons_succ]
  refine wpAnyH_take (i := 14) (oi := _) (v := ?_) rfl (by kernel_rfl) (by kernel_rfl) (by kernel_rfl) (fun _ _ _ h => h) (Or.inl ⟨by rfl, ?_⟩) (by assumption) ?_
  rotate_left
  · (intro w hSw; (try dsimp only at hSw); go_simp <;> with_reducible rfl)
  try simp only [List.getElem_toArray, List.getElem_cons_succ, List.getElem_cons_zero, Act.put, List.setIfInBounds_toArray, List.set_cons_zero, List.set_cons_succ]
  refine wpAnyH_take (i := 17) (oi := _) (v := ?_) rfl (by kernel_rfl) (by kernel_rfl) (by kernel_rfl) (fun _ _ _ h => h) (Or.inl ⟨by rfl, ?_⟩) (by assumption) ?_
  rotate_left
  · (intro w hSw; (try dsimp only at hSw); go_simp <;> with_reducible rfl)
  try simp only [List.getElem_toArray, List.getElem_cons_succ, List.getElem_cons_zero, Act.put, List.setIfInBounds_toArray, List.set_cons_zero, List.set_cons_succ]
  refine wpAnyH_take (i := 20) (oi := _) (v := ?_) rfl (by kernel_rfl) (by kernel_rfl) (by kernel_rfl) (fun _ _ _ h => h) (Or.inl ⟨by rfl, ?_⟩) (by assumption) ?_
  rotate_left
  · (intro w hSw; (try dsimp only at hSw); go_simp <;> with_reducible rfl)
  try simp only [List.getElem_toArray, List.getElem_cons_succ, List.getElem_cons_zero, Act.put, List.setIfInBounds_toArray, List.set_cons_zero, List.set_cons_succ]
  refine wpAnyH_ready (rs := [11, 15, 18]) (by kernel_rfl) (by simp) ?_
  refine (AllReadyH.cons (o := _) rfl (fun K hK => ?_) (AllReadyH.cons (o := _) rfl (fun K hK => ?_) (AllReadyH.cons (o := _) rfl (fun K hK => ?_) AllReadyH.nil)))
  · go_simp
    have HZQ := HZ0; have hb : Below (w14).heap.size w14 ((w14).alloc (.cells #[] 27)) := (Below.refl _ _).alloc (Nat.le_refl _) _; have HB := Lib.hid (HB.out.trans (hb.mono HB.out.size)); have HS := Lib.hid (lslcUp IntAt.keeps HS.out hb); have HTO := Lib.hid (own_below HTO.out hb (own_block_lt HTO.out)); have HSC := Lib.hid (HSC.out.below hb); have HZ0 := Lib.hid (Nat.le_trans HZ0.out hb.size); have HR : Hid (((w14).alloc (.cells #[] 27)).ownsRow wr.heap.size 27 2 (.slice (some ⟨(w14).heap.size, 0, none⟩) 0 0) 0 []) := Lib.hid (own_lower (own_emptyK (w14) 27 2) HZQ.out); clear hb; generalize ((w14).alloc (.cells #[] 27)) = w301 at HB HS HTO HSC HZ0 HR ⊢
    refine hK.out _ _ HSC.out.cells (fun hHeld => ?_)
    clear hK K
    try simp only [List.getElem_toArray, List.getElem_cons_succ, List.getElem_cons_zero, Act.put, List.setIfInBounds_toArray, List.set_cons_zero, List.set_cons_succ]
    refine wpAnyH_ready (rs := [13, 15, 18]) (by kernel_rfl) (by simp) ?_
    refine (AllReadyH.cons (o := _) rfl (fun K hK => ?_) (AllReadyH.cons (o := _) rfl (fun K hK => ?_) (AllReadyH.cons (o := _) rfl (fun K hK => ?_) AllReadyH.nil)))
    · have hz := HZ0.out; refine step_appG (by rfl) _ _ 22 rfl wr.heap.size 27 j0 (.agg #[.slice none 0 0, .int .i64 0]) 2 32 Try.underlying22 hj jz0 jz1 jz2 rfl (by decide) (.slice (some ⟨w14.heap.size, 0, none⟩) 0 0) 0 [] rfl HR.out _ k _ _ xs hxn rfl (HXL.out.below_to HB.out (Nat.le_refl _)) hx1 (by unfold maxLen; omega) (by omega) hz ?_; intro v304 w304 hown hgrow; have hgrow : World.grownBy _ w304 (some (w14.heap.size)) := hgrow; have HS := Lib.hid (slc_far HS.out hgrow (fun hne ad e => far_row HR.out (HA7W.out hne ad e).2)); have HTO := Lib.hid (HTO.out.kept hgrow (Or.inr (fun e => own_types_ne HTO.out HR.out (by decide) _ rfl e.symm))); have HSC := Lib.hid (HSC.out.grown hgrow (far_row HR.out HW7.out) (far_row HR.out HWW.out)); have HB := Lib.hid (appK_more HB.out (own_lower HR.out HWB.out) HB.out.size hgrow); have HZ0 := Lib.hid (Nat.le_trans HZ0.out hgrow.size); have HR : Hid (w304.ownsRow wr.heap.size 27 2 v304 k xs) := Lib.hid (by simpa using hown); clear hown hgrow hz
      refine hK.out _ _ HSC.out.cells (fun hHeld => ?_)
      clear hK K
      try simp only [List.getElem_toArray, List.getElem_cons_succ, List.getElem_cons_zero, Act.put, List.setIfInBounds_toArray, List.set_cons_zero, List.set_cons_succ]
      refine wpAnyH_ready (rs := [15, 18]) (by kernel_rfl) (by simp) ?_
      refine (AllReadyH.cons (o := _) rfl (fun K hK => ?_) (AllReadyH.cons (o := _) rfl (fun K hK => ?_) AllReadyH.nil))
      · go_simp
        have hb : Below (w304).heap.size w304 ((w304).alloc (.cells #[.slice C u ce, .int .i64 m] 27)) := (Below.refl _ _).alloc (Nat.le_refl _) _; have HB := Lib.hid (HB.out.trans (hb.mono HB.out.size)); have HS := Lib.hid (lslcUp IntAt.keeps HS.out hb); have HTO := Lib.hid (own_below HTO.out hb (own_block_lt HTO.out)); have HSC := Lib.hid (HSC.out.below hb); have HZ0 := Lib.hid (Nat.le_trans HZ0.out hb.size); have HR := Lib.hid (own_below HR.out hb (own_block_lt HR.out)); have HBM : Hid (Whole ((w304).alloc (.cells #[.slice C u ce, .int .i64 m] 27)) (w304).heap.size [.slice C u ce, .int .i64 m] 27) := Lib.hid (Whole.new _ _ _); clear hb; generalize ((w304).alloc (.cells #[.slice C u ce, .int .i64 m] 27)) = w307 at HB HS HTO HSC HZ0 HR HBM ⊢
        refine hK.out _ _ HSC.out.cells (fun hHeld => ?_)
        clear hK K
        try simp only [List.getElem_toArray, List.getElem_cons_succ, List.getElem_cons_zero, Act.put, List.setIfInBounds_toArray, List.set_cons_zero, List.set_cons_succ]
        refine wpAnyH_ready (rs := [16, 18]) (by kernel_rfl) (by simp) ?_
        refine (AllReadyH.cons (o := _) rfl (fun K hK => ?_) (AllReadyH.cons (o := _) rfl (fun K hK => ?_) AllReadyH.nil))
        · have hz := HZ0.out; refine step_appG (by rfl) _ _ 22 rfl wr.heap.size 27 j0 (.agg #[.slice none 0 0, .int .i64 0]) 2 32 Try.underlying22 hj jz0 jz1 jz2 rfl (by decide) v304 k xs rfl HR.out (some ⟨w304.heap.size, 0, none⟩) 1 _ _ [.slice C u ce, .int .i64 m] rfl rfl (lies_whole HBM.out) (two_cellv rfl rfl) (by unfold maxLen; omega) (by omega) hz ?_; intro v309 w309 hown hgrow; have hgrow : World.grownBy _ w309 (Value.ownBlock v304) := hgrow; have HS := Lib.hid (slc_far HS.out hgrow (fun hne ad e => far_row HR.out (HA7W.out hne ad e).2)); have HTO := Lib.hid (HTO.out.kept hgrow (Or.inr (fun e => own_types_ne HTO.out HR.out (by decide) _ rfl e.symm))); have HSC := Lib.hid (HSC.out.grown hgrow (far_row HR.out HW7.out) (far_row HR.out HWW.out)); have HB := Lib.hid (appK_more HB.out (own_lower HR.out HWB.out) HB.out.size hgrow); have HZ0 := Lib.hid (Nat.le_trans HZ0.out hgrow.size); obtain ⟨g309, c309, rfl, _, _⟩ := hown.form (by omega); have HR := Lib.hid hown; clear hown hgrow hz
          refine hK.out _ _ HSC.out.cells (fun hHeld => ?_)
          clear hK K
          try simp only [List.getElem_toArray, List.getElem_cons_succ, List.getElem_cons_zero, Act.put, List.setIfInBounds_toArray, List.set_cons_zero, List.set_cons_succ]
          refine wpAnyH_ready (rs := [18]) (by kernel_rfl) (by simp) ?_
          refine AllReadyH.cons (o := _) rfl (fun K hK => ?_) AllReadyH.nil
          go_simp
          have hb : Below (w309).heap.size w309 ((w309).alloc (.cells #[.int .i64 0] 3)) := (Below.refl _ _).alloc (Nat.le_refl _) _; have HB := Lib.hid (HB.out.trans (hb.mono HB.out.size)); have HS := Lib.hid (lslcUp IntAt.keeps HS.out hb); have HTO := Lib.hid (own_below HTO.out hb (own_block_lt HTO.out)); have HSC := Lib.hid (HSC.out.below hb); have HZ0 := Lib.hid (Nat.le_trans HZ0.out hb.size); have HR := Lib.hid (own_below HR.out hb (own_block_lt HR.out)); have HBZ : Hid (Whole ((w309).alloc (.cells #[.int .i64 0] 3)) (w309).heap.size [.int .i64 0] 3) := Lib.hid (Whole.new _ _ _); clear hb; generalize ((w309).alloc (.cells #[.int .i64 0] 3)) = w311 at HB HS HTO HSC HZ0 HR HBZ ⊢
          refine hK.out _ _ HSC.out.cells (fun hHeld => ?_)
          clear hK K
          try simp only [List.getElem_toArray, List.getElem_cons_succ, List.getElem_cons_zero, Act.put, List.setIfInBounds_toArray, List.set_cons_zero, List.set_cons_succ]
          refine wpAnyH_ready (rs := [19]) (by kernel_rfl) (by simp) ?_
          refine AllReadyH.cons (o := _) rfl (fun K hK => ?_) AllReadyH.nil
          have hz := HB.out.size; refine step_appG (by rfl) _ _ 23 rfl w2.heap.size 3 i0 (.int .i64 0) 1 8 Try.underlying23 hi hz0 hz1 hz2 rfl (by decide) (.slice (some ⟨ga, 0, none⟩) T.length ca) T.length (T.map (Value.int .i64)) rfl HTO.out (some ⟨w309.heap.size, 0, none⟩) 1 _ _ [.int .i64 0] rfl rfl (lies_whole HBZ.out) (one_cellv rfl) (by unfold maxLen; omega) (by omega) hz ?_; intro v312 w312 hown hgrow; have hgrow : World.grownBy _ w312 (some ga) := hgrow; have HS := Lib.hid (slc_far HS.out hgrow (fun hne ad e h => (HA7W.out hne ad e).1 (by injection h))); have HR := Lib.hid (HR.out.kept hgrow (Or.inr (fun e => own_types_ne HTO.out HR.out (by decide) _ rfl e))); have HSC := Lib.hid (HSC.out.grown hgrow (fun e => HG7.out.1 (by injection e)) (fun e => HG7.out.2 (by injection e))); have HB := Lib.hid (appK_more HB.out HTO.out HB.out.size hgrow); have HZ0 := Lib.hid (Nat.le_trans HZ0.out hgrow.size); obtain ⟨g312, c312, rfl, _, _⟩ := hown.form (by omega); have HT2 : Hid (w312.ownsRow w2.heap.size 3 1 (.slice (some ⟨g312, 0, none⟩) (T.length + 1) c312) (T.length + 1) ((T ++ [0]).map (Value.int .i64))) := Lib.hid (by rw [List.map_append]; exact hown); clear hown hgrow hz
          refine hK.out _ _ HSC.out.cells (fun hHeld => ?_)
          clear hK K
          try simp only [List.getElem_toArray, List.getElem_cons_succ, List.getElem_cons_zero, Act.put, List.setIfInBounds_toArray, List.set_cons_zero, List.set_cons_succ]
          refine wpAnyH_ready (rs := [21]) (by kernel_rfl) (by simp) ?_
          refine AllReadyH.cons (o := _) rfl (fun K hK => ?_) AllReadyH.nil
          go_simp
          (go_at_call 14; (with_reducible refine (lproves_is (Lib.hid (HXN.out.row HB.out HR.out HLM.out)) (Lib.hid (own_lit_ints HT2.out (by simp))) (Lib.hid (Below.refl _ _)) (Lib.hid ⟨HLM.out, by simp⟩) HFM (Lib.hid ⟨HS.out, HCN.out⟩) HPV2 (by omega)).mono ?_); rintro e w99 ⟨rfl, hb⟩; have HB := Lib.hid (HB.out.trans (hb.mono HB.out.size)); have HSC := Lib.hid (HSC.out.below hb); clear hb)
          refine hK.out _ _ HSC.out.cells (fun hHeld => ?_)
          clear hK K
          try simp only [List.getElem_toArray, List.getElem_cons_succ, List.getElem_cons_zero, Act.put, List.setIfInBounds_toArray, List.set_cons_zero, List.set_cons_succ]
          refine wpAnyH_take (i := 22) (oi := _) (v := ?_) rfl (by kernel_rfl) (by kernel_rfl) (by kernel_rfl) (fun _ _ _ h => h) (Or.inl ⟨by rfl, ?_⟩) (by assumption) ?_
          rotate_left
          · (intro w hSw; (try dsimp only at hSw); go_simp <;> with_reducible rfl)
          try simp only [List.getElem_toArray, List.getElem_cons_succ, List.getElem_cons_zero, Act.put, List.setIfInBounds_toArray, List.set_cons_zero, List.set_cons_succ]
          refine wpAnyH_take (i := 23) (oi := _) (v := ?_) rfl (by kernel_rfl) (by kernel_rfl) (by kernel_rfl) (fun _ _ _ h => h) (Or.inl ⟨by rfl, ?_⟩) (by assumption) ?_
          rotate_left
          · (intro w hSw; (try dsimp only at hSw); go_simp <;> with_reducible rfl)
          try simp only [List.getElem_toArray, List.getElem_cons_succ, List.getElem_cons_zero, Act.put, List.setIfInBounds_toArray, List.set_cons_zero, List.set_cons_succ]
          refine wpAnyH_take (i := 24) (oi := _) (v := ?_) rfl (by kernel_rfl) (by kernel_rfl) (by kernel_rfl) (fun _ _ _ h => h) (Or.inl ⟨by rfl, ?_⟩) (by assumption) ?_
          rotate_left
          · (intro w hSw; (try dsimp only at hSw); go_simp <;> with_reducible rfl)
          try simp only [List.getElem_toArray, List.getElem_cons_succ, List.getElem_cons_zero, Act.put, List.setIfInBounds_toArray, List.set_cons_zero, List.set_cons_succ]
          refine wpAnyH_done (by kernel_rfl) ?_ _
          refine NoPanic.normal ?_
          exact hQ _ _ _ _ _ _ _ _ _ _ _ _ _ _ _ _ _ _ _ _ _ _ _ _ _ HB
        · go_simp
          have hb : Below (w307).heap.size w307 ((w307).alloc (.cells #[.int .i64 0] 3)) := (Below.refl _ _).alloc (Nat.le_refl _) _; have HB := Lib.hid (HB.out.trans (hb.mono HB.out.size)); have HS := Lib.hid (lslcUp IntAt.keeps HS.out hb); have HTO := Lib.hid (own_below HTO.out hb (own_block_lt HTO.out)); have HSC := Lib.hid (HSC.out.below hb); have HZ0 := Lib.hid (Nat.le_trans HZ0.out hb.size); have HR := Lib.hid (own_below HR.out hb (own_block_lt HR.out)); have HBM := Lib.hid (HBM.out.keep hb HBM.out.lt); have HBZ : Hid (Whole ((w307).alloc (.cells #[.int .i64 0] 3)) (w307).heap.size [.int .i64 0] 3) := Lib.hid (Whole.new _ _ _); clear hb; generalize ((w307).alloc (.cells #[.int .i64 0] 3)) = w310 at HB HS HTO HSC HZ0 HR HBM HBZ ⊢
          refine hK.out _ _ HSC.out.cells (fun hHeld => ?_)
          clear hK K
          try simp only [List.getElem_toArray, List.getElem_cons_succ, List.getElem_cons_zero, Act.put, List.setIfInBounds_toArray, List.set_cons_zero, List.set_cons_succ]
          refine wpAnyH_ready (rs := [16]) (by kernel_rfl) (by simp) ?_
          refine AllReadyH.cons (o := _) rfl (fun K hK => ?_) AllReadyH.nil
          have hz := HZ0.out; refine step_appG (by rfl) _ _ 22 rfl wr.heap.size 27 j0 (.agg #[.slice none 0 0, .int .i64 0]) 2 32 Try.underlying22 hj jz0 jz1 jz2 rfl (by decide) v304 k xs rfl HR.out (some ⟨w304.heap.size, 0, none⟩) 1 _ _ [.slice C u ce, .int .i64 m] rfl rfl (lies_whole HBM.out) (two_cellv rfl rfl) (by unfold maxLen; omega) (by omega) hz ?_; intro v313 w313 hown hgrow; have hgrow : World.grownBy _ w313 (Value.ownBlock v304) := hgrow; have HS := Lib.hid (slc_far HS.out hgrow (fun hne ad e => far_row HR.out (HA7W.out hne ad e).2)); have HTO := Lib.hid (HTO.out.kept hgrow (Or.inr (fun e => own_types_ne HTO.out HR.out (by decide) _ rfl e.symm))); have HSC := Lib.hid (HSC.out.grown hgrow (far_row HR.out HW7.out) (far_row HR.out HWW.out)); have HB := Lib.hid (appK_more HB.out (own_lower HR.out HWB.out) HB.out.size hgrow); have HZ0 := Lib.hid (Nat.le_trans HZ0.out hgrow.size); have HBZ := Lib.hid (whole_kept HBZ.out hgrow (fun e => whole_types_ne HR.out HBZ.out (by decide) e.symm)); obtain ⟨g313, c313, rfl, _, _⟩ := hown.form (by omega); have HR := Lib.hid hown; clear hown hgrow hz
          refine hK.out _ _ HSC.out.cells (fun hHeld => ?_)
          clear hK K
          try simp only [List.getElem_toArray, List.getElem_cons_succ, List.getElem_cons_zero, Act.put, List.setIfInBounds_toArray, List.set_cons_zero, List.set_cons_succ]
          refine wpAnyH_ready (rs := [19]) (by kernel_rfl) (by simp) ?_
          refine AllReadyH.cons (o := _) rfl (fun K hK => ?_) AllReadyH.nil
          have hz := HB.out.size; refine step_appG (by rfl) _ _ 23 rfl w2.heap.size 3 i0 (.int .i64 0) 1 8 Try.underlying23 hi hz0 hz1 hz2 rfl (by decide) (.slice (some ⟨ga, 0, none⟩) T.length ca) T.length (T.map (Value.int .i64)) rfl HTO.out (some ⟨w307.heap.size, 0, none⟩) 1 _ _ [.int .i64 0] rfl rfl (lies_whole HBZ.out) (one_cellv rfl) (by unfold maxLen; omega) (by omega) hz ?_; intro v314 w314 hown hgrow; have hgrow : World.grownBy _ w314 (some ga) := hgrow; have HS := Lib.hid (slc_far HS.out hgrow (fun hne ad e h => (HA7W.out hne ad e).1 (by injection h))); have HR := Lib.hid (HR.out.kept hgrow (Or.inr (fun e => own_types_ne HTO.out HR.out (by decide) _ rfl e))); have HSC := Lib.hid (HSC.out.grown hgrow (fun e => HG7.out.1 (by injection e)) (fun e => HG7.out.2 (by injection e))); have HB := Lib.hid (appK_more HB.out HTO.out HB.out.size hgrow); have HZ0 := Lib.hid (Nat.le_trans HZ0.out hgrow.size); obtain ⟨g314, c314, rfl, _, _⟩ := hown.form (by omega); have HT2 : Hid (w314.ownsRow w2.heap.size 3 1 (.slice (some ⟨g314, 0, none⟩) (T.length + 1) c314) (T.length + 1) ((T ++ [0]).map (Value.int .i64))) := Lib.hid (by rw [List.map_append]; exact hown); clear hown hgrow hz
          refine hK.out _ _ HSC.out.cells (fun hHeld => ?_)
          clear hK K
          try simp only [List.getElem_toArray, List.getElem_cons_succ, List.getElem_cons_zero, Act.put, List.setIfInBounds_toArray, List.set_cons_zero, List.set_cons_succ]
          refine wpAnyH_ready (rs := [21]) (by kernel_rfl) (by simp) ?_
          refine AllReadyH.cons (o := _) rfl (fun K hK => ?_) AllReadyH.nil
          go_simp
          (go_at_call 14; (with_reducible refine (lproves_is (Lib.hid (HXN.out.row HB.out HR.out HLM.out)) (Lib.hid (own_lit_ints HT2.out (by simp))) (Lib.hid (Below.refl _ _)) (Lib.hid ⟨HLM.out, by simp⟩) HFM (Lib.hid ⟨HS.out, HCN.out⟩) HPV2 (by omega)).mono ?_); rintro e w99 ⟨rfl, hb⟩; have HB := Lib.hid (HB.out.trans (hb.mono HB.out.size)); have HSC := Lib.hid (HSC.out.below hb); clear hb)
          refine hK.out _ _ HSC.out.cells (fun hHeld => ?_)
          clear hK K
          try simp only [List.getElem_toArray, List.getElem_cons_succ, List.getElem_cons_zero, Act.put, List.setIfInBounds_toArray, List.set_cons_zero, List.set_cons_succ]
          refine wpAnyH_take (i := 22) (oi := _) (v := ?_) rfl (by kernel_rfl) (by kernel_rfl) (by kernel_rfl) (fun _ _ _ h => h) (Or.inl ⟨by rfl, ?_⟩) (by assumption) ?_
          rotate_left
          · (intro w hSw; (try dsimp only at hSw); go_simp <;> with_reducible rfl)
          try simp only [List.getElem_toArray, List.getElem_cons_succ, List.getElem_cons_zero, Act.put, List.setIfInBounds_toArray, List.set_cons_zero, List.set_cons_succ]
          refine wpAnyH_take (i := 23) (oi := _) (v := ?_) rfl (by kernel_rfl) (by kernel_rfl) (by kernel_rfl) (fun _ _ _ h => h) (Or.inl ⟨by rfl, ?_⟩) (by assumption) ?_
          rotate_left
          · (intro w hSw; (try dsimp only at hSw); go_simp <;> with_reducible rfl)
          try simp only [List.getElem_toArray, List.getElem_cons_succ, List.getElem_cons_zero, Act.put, List.setIfInBounds_toArray, List.set_cons_zero, List.set_cons_succ]
          refine wpAnyH_take (i := 24) (oi := _) (v := ?_) rfl (by kernel_rfl) (by kernel_rfl) (by kernel_rfl) (fun _ _ _ h => h) (Or.inl ⟨by rfl, ?_⟩) (by assumption) ?_
          rotate_left
          · (intro w hSw; (try dsimp only at hSw); go_simp <;> with_reducible rfl)
          try simp only [List.getElem_toArray, List.getElem_cons_succ, List.getElem_cons_zero, Act.put, List.setIfInBounds_toArray, List.set_cons_zero, List.set_cons_succ]
          refine wpAnyH_done (by kernel_rfl) ?_ _
          refine NoPanic.normal ?_
          exact hQ _ _ _ _ _ _ _ _ _ _ _ _ _ _ _ _ _ _ _ _ _ _ _ _ _ HB
      · go_simp
        have hb : Below (w304).heap.size w304 ((w304).alloc (.cells #[.int .i64 0] 3)) := (Below.refl _ _).alloc (Nat.le_refl _) _; have HB := Lib.hid (HB.out.trans (hb.mono HB.out.size)); have HS := Lib.hid (lslcUp IntAt.keeps HS.out hb); have HTO := Lib.hid (own_below HTO.out hb (own_block_lt HTO.out)); have HSC := Lib.hid (HSC.out.below hb); have HZ0 := Lib.hid (Nat.le_trans HZ0.out hb.size); have HR := Lib.hid (own_below HR.out hb (own_block_lt HR.out)); have HBZ : Hid (Whole ((w304).alloc (.cells #[.int .i64 0] 3)) (w304).heap.size [.int .i64 0] 3) := Lib.hid (Whole.new _ _ _); clear hb; generalize ((w304).alloc (.cells #[.int .i64 0] 3)) = w308 at HB HS HTO HSC HZ0 HR HBZ ⊢
        refine hK.out _ _ HSC.out.cells (fun hHeld => ?_)
        clear hK K
        try simp only [List.getElem_toArray, List.getElem_cons_succ, List.getElem_cons_zero, Act.put, List.setIfInBounds_toArray, List.set_cons_zero, List.set_cons_succ]
        refine wpAnyH_ready (rs := [15]) (by kernel_rfl) (by simp) ?_
        refine AllReadyH.cons (o := _) rfl (fun K hK => ?_) AllReadyH.nil
        go_simp
        have hb : Below (w308).heap.size w308 ((w308).alloc (.cells #[.slice C u ce, .int .i64 m] 27)) := (Below.refl _ _).alloc (Nat.le_refl _) _; have HB := Lib.hid (HB.out.trans (hb.mono HB.out.size)); have HS := Lib.hid (lslcUp IntAt.keeps HS.out hb); have HTO := Lib.hid (own_below HTO.out hb (own_block_lt HTO.out)); have HSC := Lib.hid (HSC.out.below hb); have HZ0 := Lib.hid (Nat.le_trans HZ0.out hb.size); have HR := Lib.hid (own_below HR.out hb (own_block_lt HR.out)); have HBZ := Lib.hid (HBZ.out.keep hb HBZ.out.lt); have HBM : Hid (Whole ((w308).alloc (.cells #[.slice C u ce, .int .i64 m] 27)) (w308).heap.size [.slice C u ce, .int .i64 m] 27) := Lib.hid (Whole.new _ _ _); clear hb; generalize ((w308).alloc (.cells #[.slice C u ce, .int .i64 m] 27)) = w315 at HB HS HTO HSC HZ0 HR HBZ HBM ⊢
        refine hK.out _ _ HSC.out.cells (fun hHeld => ?_)
        clear hK K
        try simp only [List.getElem_toArray, List.getElem_cons_succ, List.getElem_cons_zero, Act.put, List.setIfInBounds_toArray, List.set_cons_zero, List.set_cons_succ]
        refine wpAnyH_ready (rs := [16]) (by kernel_rfl) (by simp) ?_
        refine AllReadyH.cons (o := _) rfl (fun K hK => ?_) AllReadyH.nil
        have hz := HZ0.out; refine step_appG (by rfl) _ _ 22 rfl wr.heap.size 27 j0 (.agg #[.slice none 0 0, .int .i64 0]) 2 32 Try.underlying22 hj jz0 jz1 jz2 rfl (by decide) v304 k xs rfl HR.out (some ⟨w308.heap.size, 0, none⟩) 1 _ _ [.slice C u ce, .int .i64 m] rfl rfl (lies_whole HBM.out) (two_cellv rfl rfl) (by unfold maxLen; omega) (by omega) hz ?_; intro v316 w316 hown hgrow; have hgrow : World.grownBy _ w316 (Value.ownBlock v304) := hgrow; have HS := Lib.hid (slc_far HS.out hgrow (fun hne ad e => far_row HR.out (HA7W.out hne ad e).2)); have HTO := Lib.hid (HTO.out.kept hgrow (Or.inr (fun e => own_types_ne HTO.out HR.out (by decide) _ rfl e.symm))); have HSC := Lib.hid (HSC.out.grown hgrow (far_row HR.out HW7.out) (far_row HR.out HWW.out)); have HB := Lib.hid (appK_more HB.out (own_lower HR.out HWB.out) HB.out.size hgrow); have HZ0 := Lib.hid (Nat.le_trans HZ0.out hgrow.size); have HBZ := Lib.hid (whole_kept HBZ.out hgrow (fun e => whole_types_ne HR.out HBZ.out (by decide) e.symm)); obtain ⟨g316, c316, rfl, _, _⟩ := hown.form (by omega); have HR := Lib.hid hown; clear hown hgrow hz
        refine hK.out _ _ HSC.out.cells (fun hHeld => ?_)
        clear hK K
        try simp only [List.getElem_toArray, List.getElem_cons_succ, List.getElem_cons_zero, Act.put, List.setIfInBounds_toArray, List.set_cons_zero, List.set_cons_succ]
        refine wpAnyH_ready (rs := [19]) (by kernel_rfl) (by simp) ?_
        refine AllReadyH.cons (o := _) rfl (fun K hK => ?_) AllReadyH.nil
        have hz := HB.out.size; refine step_appG (by rfl) _ _ 23 rfl w2.heap.size 3 i0 (.int .i64 0) 1 8 Try.underlying23 hi hz0 hz1 hz2 rfl (by decide) (.slice (some ⟨ga, 0, none⟩) T.length ca) T.length (T.map (Value.int .i64)) rfl HTO.out (some ⟨w304.heap.size, 0, none⟩) 1 _ _ [.int .i64 0] rfl rfl (lies_whole HBZ.out) (one_cellv rfl) (by unfold maxLen; omega) (by omega) hz ?_; intro v317 w317 hown hgrow; have hgrow : World.grownBy _ w317 (some ga) := hgrow; have HS := Lib.hid (slc_far HS.out hgrow (fun hne ad e h => (HA7W.out hne ad e).1 (by injection h))); have HR := Lib.hid (HR.out.kept hgrow (Or.inr (fun e => own_types_ne HTO.out HR.out (by decide) _ rfl e))); have HSC := Lib.hid (HSC.out.grown hgrow (fun e => HG7.out.1 (by injection e)) (fun e => HG7.out.2 (by injection e))); have HB := Lib.hid (appK_more HB.out HTO.out HB.out.size hgrow); have HZ0 := Lib.hid (Nat.le_trans HZ0.out hgrow.size); obtain ⟨g317, c317, rfl, _, _⟩ := hown.form (by omega); have HT2 : Hid (w317.ownsRow w2.heap.size 3 1 (.slice (some ⟨g317, 0, none⟩) (T.length + 1) c317) (T.length + 1) ((T ++ [0]).map (Value.int .i64))) := Lib.hid (by rw [List.map_append]; exact hown); clear hown hgrow hz
        refine hK.out _ _ HSC.out.cells (fun hHeld => ?_)
        clear hK K
        try simp only [List.getElem_toArray, List.getElem_cons_succ, List.getElem_cons_zero, Act.put, List.setIfInBounds_toArray, List.set_cons_zero, List.set_cons_succ]
        refine wpAnyH_ready (rs := [21]) (by kernel_rfl) (by simp) ?_
        refine AllReadyH.cons (o := _) rfl (fun K hK => ?_) AllReadyH.nil
        go_simp
        (go_at_call 14; (with_reducible refine (lproves_is (Lib.hid (HXN.out.row HB.out HR.out HLM.out)) (Lib.hid (own_lit_ints HT2.out (by simp))) (Lib.hid (Below.refl _ _)) (Lib.hid ⟨HLM.out, by simp⟩) HFM (Lib.hid ⟨HS.out, HCN.out⟩) HPV2 (by omega)).mono ?_); rintro e w99 ⟨rfl, hb⟩; have HB := Lib.hid (HB.out.trans (hb.mono HB.out.size)); have HSC := Lib.hid (HSC.out.below hb); clear hb)
        refine hK.out _ _ HSC.out.cells (fun hHeld => ?_)
        clear hK K
        try simp only [List.getElem_toArray, List.getElem_cons_succ, List.getElem_cons_zero, Act.put, List.setIfInBounds_toArray, List.set_cons_zero, List.set_cons_succ]
        refine wpAnyH_take (i := 22) (oi := _) (v := ?_) rfl (by kernel_rfl) (by kernel_rfl) (by kernel_rfl) (fun _ _ _ h => h) (Or.inl ⟨by rfl, ?_⟩) (by assumption) ?_
        rotate_left
        · (intro w hSw; (try dsimp only at hSw); go_simp <;> with_reducible rfl)
        try simp only [List.getElem_toArray, List.getElem_cons_succ, List.getElem_cons_zero, Act.put, List.setIfInBounds_toArray, List.set_cons_zero, List.set_cons_succ]
        refine wpAnyH_take (i := 23) (oi := _) (v := ?_) rfl (by kernel_rfl) (by kernel_rfl) (by kernel_rfl) (fun _ _ _ h => h) (Or.inl ⟨by rfl, ?_⟩) (by assumption) ?_
        rotate_left
        · (intro w hSw; (try dsimp only at hSw); go_simp <;> with_reducible rfl)
        try simp only [List.getElem_toArray, List.getElem_cons_succ, List.getElem_cons_zero, Act.put, List.setIfInBounds_toArray, List.set_cons_zero, List.set_cons_succ]
        refine wpAnyH_take (i := 24) (oi := _) (v := ?_) rfl (by kernel_rfl) (by kernel_rfl) (by kernel_rfl) (fun _ _ _ h => h) (Or.inl ⟨by rfl, ?_⟩) (by assumption) ?_
        rotate_left
        · (intro w hSw; (try dsimp only at hSw); go_simp <;> with_reducible rfl)
        try simp only [List.getElem_toArray, List.getElem_cons_succ, List.getElem_cons_zero, Act.put, List.setIfInBounds_toArray, List.set_cons_zero, List.set_cons_succ]
        refine wpAnyH_done (by kernel_rfl) ?_ _
        refine NoPanic.normal ?_
        exact hQ _ _ _ _ _ _ _ _ _ _ _ _ _ _ _ _ _ _ _ _ _ _ _ _ _ HB
    · go_simp
      have HR0 := Lib.hid (HR.out.lt _ rfl).2; have hb : Below (w301).heap.size w301 ((w301).alloc (.cells #[.slice C u ce, .int .i64 m] 27)) := (Below.refl _ _).alloc (Nat.le_refl _) _; have HB := Lib.hid (HB.out.trans (hb.mono HB.out.size)); have HS := Lib.hid (lslcUp IntAt.keeps HS.out hb); have HTO := Lib.hid (own_below HTO.out hb (own_block_lt HTO.out)); have HSC := Lib.hid (HSC.out.below hb); have HZ0 := Lib.hid (Nat.le_trans HZ0.out hb.size); have HR := Lib.hid (own_below HR.out hb (own_block_lt HR.out)); have HBM : Hid (Whole ((w301).alloc (.cells #[.slice C u ce, .int .i64 m] 27)) (w301).heap.size [.slice C u ce, .int .i64 m] 27) := Lib.hid (Whole.new _ _ _); have HNE : Hid (w14.heap.size ≠ (w301).heap.size) := Lib.hid (Nat.ne_of_lt HR0.out); clear hb; generalize ((w301).alloc (.cells #[.slice C u ce, .int .i64 m] 27)) = w305 at HB HS HTO HSC HZ0 HR HBM ⊢
      refine hK.out _ _ HSC.out.cells (fun hHeld => ?_)
      clear hK K
      try simp only [List.getElem_toArray, List.getElem_cons_succ, List.getElem_cons_zero, Act.put, List.setIfInBounds_toArray, List.set_cons_zero, List.set_cons_succ]
      refine wpAnyH_ready (rs := [13, 18]) (by kernel_rfl) (by simp) ?_
      refine (AllReadyH.cons (o := _) rfl (fun K hK => ?_) (AllReadyH.cons (o := _) rfl (fun K hK => ?_) AllReadyH.nil))
      · have hz := HZ0.out; refine step_appG (by rfl) _ _ 22 rfl wr.heap.size 27 j0 (.agg #[.slice none 0 0, .int .i64 0]) 2 32 Try.underlying22 hj jz0 jz1 jz2 rfl (by decide) (.slice (some ⟨w14.heap.size, 0, none⟩) 0 0) 0 [] rfl HR.out _ k _ _ xs hxn rfl (HXL.out.below_to HB.out (Nat.le_refl _)) hx1 (by unfold maxLen; omega) (by omega) hz ?_; intro v318 w318 hown hgrow; have hgrow : World.grownBy _ w318 (some (w14.heap.size)) := hgrow; have HS := Lib.hid (slc_far HS.out hgrow (fun hne ad e => far_row HR.out (HA7W.out hne ad e).2)); have HTO := Lib.hid (HTO.out.kept hgrow (Or.inr (fun e => own_types_ne HTO.out HR.out (by decide) _ rfl e.symm))); have HSC := Lib.hid (HSC.out.grown hgrow (far_row HR.out HW7.out) (far_row HR.out HWW.out)); have HB := Lib.hid (appK_more HB.out (own_lower HR.out HWB.out) HB.out.size hgrow); have HZ0 := Lib.hid (Nat.le_trans HZ0.out hgrow.size); have HBM := Lib.hid (whole_kept HBM.out hgrow (fun e => HNE.out (by injection e with e; exact e.symm))); have HR : Hid (w318.ownsRow wr.heap.size 27 2 v318 k xs) := Lib.hid (by simpa using hown); clear hown hgrow hz
        refine hK.out _ _ HSC.out.cells (fun hHeld => ?_)
        clear hK K
        try simp only [List.getElem_toArray, List.getElem_cons_succ, List.getElem_cons_zero, Act.put, List.setIfInBounds_toArray, List.set_cons_zero, List.set_cons_succ]
        refine wpAnyH_ready (rs := [16, 18]) (by kernel_rfl) (by simp) ?_
        refine (AllReadyH.cons (o := _) rfl (fun K hK => ?_) (AllReadyH.cons (o := _) rfl (fun K hK => ?_) AllReadyH.nil))
        · have hz := HZ0.out; refine step_appG (by rfl) _ _ 22 rfl wr.heap.size 27 j0 (.agg #[.slice none 0 0, .int .i64 0]) 2 32 Try.underlying22 hj jz0 jz1 jz2 rfl (by decide) v318 k xs rfl HR.out (some ⟨w301.heap.size, 0, none⟩) 1 _ _ [.slice C u ce, .int .i64 m] rfl rfl (lies_whole HBM.out) (two_cellv rfl rfl) (by unfold maxLen; omega) (by omega) hz ?_; intro v320 w320 hown hgrow; have hgrow : World.grownBy _ w320 (Value.ownBlock v318) := hgrow; have HS := Lib.hid (slc_far HS.out hgrow (fun hne ad e => far_row HR.out (HA7W.out hne ad e).2)); have HTO := Lib.hid (HTO.out.kept hgrow (Or.inr (fun e => own_types_ne HTO.out HR.out (by decide) _ rfl e.symm))); have HSC := Lib.hid (HSC.out.grown hgrow (far_row HR.out HW7.out) (far_row HR.out HWW.out)); have HB := Lib.hid (appK_more HB.out (own_lower HR.out HWB.out) HB.out.size hgrow); have HZ0 := Lib.hid (Nat.le_trans HZ0.out hgrow.size); obtain ⟨g320, c320, rfl, _, _⟩ := hown.form (by omega); have HR := Lib.hid hown; clear hown hgrow hz
          refine hK.out _ _ HSC.out.cells (fun hHeld => ?_)
          clear hK K
          try simp only [List.getElem_toArray, List.getElem_cons_succ, List.getElem_cons_zero, Act.put, List.setIfInBounds_toArray, List.set_cons_zero, List.set_cons_succ]
          refine wpAnyH_ready (rs := [18]) (by kernel_rfl) (by simp) ?_
          refine AllReadyH.cons (o := _) rfl (fun K hK => ?_) AllReadyH.nil
          go_simp
          have hb : Below (w320).heap.size w320 ((w320).alloc (.cells #[.int .i64 0] 3)) := (Below.refl _ _).alloc (Nat.le_refl _) _; have HB := Lib.hid (HB.out.trans (hb.mono HB.out.size)); have HS := Lib.hid (lslcUp IntAt.keeps HS.out hb); have HTO := Lib.hid (own_below HTO.out hb (own_block_lt HTO.out)); have HSC := Lib.hid (HSC.out.below hb); have HZ0 := Lib.hid (Nat.le_trans HZ0.out hb.size); have HR := Lib.hid (own_below HR.out hb (own_block_lt HR.out)); have HBZ : Hid (Whole ((w320).alloc (.cells #[.int .i64 0] 3)) (w320).heap.size [.int .i64 0] 3) := Lib.hid (Whole.new _ _ _); clear hb; generalize ((w320).alloc (.cells #[.int .i64 0] 3)) = w322 at HB HS HTO HSC HZ0 HR HBZ ⊢
          refine hK.out _ _ HSC.out.cells (fun hHeld => ?_)
          clear hK K
          try simp only [List.getElem_toArray, List.getElem_cons_succ, List.getElem_cons_zero, Act.put, List.setIfInBounds_toArray, List.set_cons_zero, List.set_cons_succ]
          refine wpAnyH_ready (rs := [19]) (by kernel_rfl) (by simp) ?_
          refine AllReadyH.cons (o := _) rfl (fun K hK => ?_) AllReadyH.nil
          have hz := HB.out.size; refine step_appG (by rfl) _ _ 23 rfl w2.heap.size 3 i0 (.int .i64 0) 1 8 Try.underlying23 hi hz0 hz1 hz2 rfl (by decide) (.slice (some ⟨ga, 0, none⟩) T.length ca) T.length (T.map (Value.int .i64)) rfl HTO.out (some ⟨w320.heap.size, 0, none⟩) 1 _ _ [.int .i64 0] rfl rfl (lies_whole HBZ.out) (one_cellv rfl) (by unfold maxLen; omega) (by omega) hz ?_; intro v323 w323 hown hgrow; have hgrow : World.grownBy _ w323 (some ga) := hgrow; have HS := Lib.hid (slc_far HS.out hgrow (fun hne ad e h => (HA7W.out hne ad e).1 (by injection h))); have HR := Lib.hid (HR.out.kept hgrow (Or.inr (fun e => own_types_ne HTO.out HR.out (by decide) _ rfl e))); have HSC := Lib.hid (HSC.out.grown hgrow (fun e => HG7.out.1 (by injection e)) (fun e => HG7.out.2 (by injection e))); have HB := Lib.hid (appK_more HB.out HTO.out HB.out.size hgrow); have HZ0 := Lib.hid (Nat.le_trans HZ0.out hgrow.size); obtain ⟨g323, c323, rfl, _, _⟩ := hown.form (by omega); have HT2 : Hid (w323.ownsRow w2.heap.size 3 1 (.slice (some ⟨g323, 0, none⟩) (T.length + 1) c323) (T.length + 1) ((T ++ [0]).map (Value.int .i64))) := Lib.hid (by rw [List.map_append]; exact hown); clear hown hgrow hz
          refine hK.out _ _ HSC.out.cells (fun hHeld => ?_)
          clear hK K
          try simp only [List.getElem_toArray, List.getElem_cons_succ, List.getElem_cons_zero, Act.put, List.setIfInBounds_toArray, List.set_cons_zero, List.set_cons_succ]
          refine wpAnyH_ready (rs := [21]) (by kernel_rfl) (by simp) ?_
          refine AllReadyH.cons (o := _) rfl (fun K hK => ?_) AllReadyH.nil
          go_simp
          (go_at_call 14; (with_reducible refine (lproves_is (Lib.hid (HXN.out.row HB.out HR.out HLM.out)) (Lib.hid (own_lit_ints HT2.out (by simp))) (Lib.hid (Below.refl _ _)) (Lib.hid ⟨HLM.out, by simp⟩) HFM (Lib.hid ⟨HS.out, HCN.out⟩) HPV2 (by omega)).mono ?_); rintro e w99 ⟨rfl, hb⟩; have HB := Lib.hid (HB.out.trans (hb.mono HB.out.size)); have HSC := Lib.hid (HSC.out.below hb); clear hb)
          refine hK.out _ _ HSC.out.cells (fun hHeld => ?_)
          clear hK K
          try simp only [List.getElem_toArray, List.getElem_cons_succ, List.getElem_cons_zero, Act.put, List.setIfInBounds_toArray, List.set_cons_zero, List.set_cons_succ]
          refine wpAnyH_take (i := 22) (oi := _) (v := ?_) rfl (by kernel_rfl) (by kernel_rfl) (by kernel_rfl) (fun _ _ _ h => h) (Or.inl ⟨by rfl, ?_⟩) (by assumption) ?_
          rotate_left
          · (intro w hSw; (try dsimp only at hSw); go_simp <;> with_reducible rfl)
          try simp only [List.getElem_toArray, List.getElem_cons_succ, List.getElem_cons_zero, Act.put, List.setIfInBounds_toArray, List.set_cons_zero, List.set_cons_succ]
          refine wpAnyH_take (i := 23) (oi := _) (v := ?_) rfl (by kernel_rfl) (by kernel_rfl) (by kernel_rfl) (fun _ _ _ h => h) (Or.inl ⟨by rfl, ?_⟩) (by assumption) ?_
          rotate_left
          · (intro w hSw; (try dsimp only at hSw); go_simp <;> with_reducible rfl)
          try simp only [List.getElem_toArray, List.getElem_cons_succ, List.getElem_cons_zero, Act.put, List.setIfInBounds_toArray, List.set_cons_zero, List.set_cons_succ]
          refine wpAnyH_take (i := 24) (oi := _) (v := ?_) rfl (by kernel_rfl) (by kernel_rfl) (by kernel_rfl) (fun _ _ _ h => h) (Or.inl ⟨by rfl, ?_⟩) (by assumption) ?_
          rotate_left
          · (intro w hSw; (try dsimp only at hSw); go_simp <;> with_reducible rfl)
          try simp only [List.getElem_toArray, List.getElem_cons_succ, List.getElem_cons_zero, Act.put, List.setIfInBounds_toArray, List.set_cons_zero, List.set_cons_succ]
          refine wpAnyH_done (by kernel_rfl) ?_ _
          refine NoPanic.normal ?_
          exact hQ _ _ _ _ _ _ _ _ _ _ _ _ _ _ _ _ _ _ _ _ _ _ _ _ _ HB
        · go_simp
          have hb : Below (w318).heap.size w318 ((w318).alloc (.cells #[.int .i64 0] 3)) := (Below.refl _ _).alloc (Nat.le_refl _) _; have HB := Lib.hid (HB.out.trans (hb.mono HB.out.size)); have HS := Lib.hid (lslcUp IntAt.keeps HS.out hb); have HTO := Lib.hid (own_below HTO.out hb (own_block_lt HTO.out)); have HSC := Lib.hid (HSC.out.below hb); have HZ0 := Lib.hid (Nat.le_trans HZ0.out hb.size); have HR := Lib.hid (own_below HR.out hb (own_block_lt HR.out)); have HBM := Lib.hid (HBM.out.keep hb HBM.out.lt); have HBZ : Hid (Whole ((w318).alloc (.cells #[.int .i64 0] 3)) (w318).heap.size [.int .i64 0] 3) := Lib.hid (Whole.new _ _ _); clear hb; generalize ((w318).alloc (.cells #[.int .i64 0] 3)) = w321 at HB HS HTO HSC HZ0 HR HBM HBZ ⊢
          refine hK.out _ _ HSC.out.cells (fun hHeld => ?_)
          clear hK K
          try simp only [List.getElem_toArray, List.getElem_cons_succ, List.getElem_cons_zero, Act.put, List.setIfInBounds_toArray, List.set_cons_zero, List.set_cons_succ]
          refine wpAnyH_ready (rs := [16]) (by kernel_rfl) (by simp) ?_
          refine AllReadyH.cons (o := _) rfl (fun K hK => ?_) AllReadyH.nil
          have hz := HZ0.out; refine step_appG (by rfl) _ _ 22 rfl wr.heap.size 27 j0 (.agg #[.slice none 0 0, .int .i64 0]) 2 32 Try.underlying22 hj jz0 jz1 jz2 rfl (by decide) v318 k xs rfl HR.out (some ⟨w301.heap.size, 0, none⟩) 1 _ _ [.slice C u ce, .int .i64 m] rfl rfl (lies_whole HBM.out) (two_cellv rfl rfl) (by unfold maxLen; omega) (by omega) hz ?_; intro v324 w324 hown hgrow; have hgrow : World.grownBy _ w324 (Value.ownBlock v318) := hgrow; have HS := Lib.hid (slc_far HS.out hgrow (fun hne ad e => far_row HR.out (HA7W.out hne ad e).2)); have HTO := Lib.hid (HTO.out.kept hgrow (Or.inr (fun e => own_types_ne HTO.out HR.out (by decide) _ rfl e.symm))); have HSC := Lib.hid (HSC.out.grown hgrow (far_row HR.out HW7.out) (far_row HR.out HWW.out)); have HB := Lib.hid (appK_more HB.out (own_lower HR.out HWB.out) HB.out.size hgrow); have HZ0 := Lib.hid (Nat.le_trans HZ0.out hgrow.size); have HBZ := Lib.hid (whole_kept HBZ.out hgrow (fun e => whole_types_ne HR.out HBZ.out (by decide) e.symm)); obtain ⟨g324, c324, rfl, _, _⟩ := hown.form (by omega); have HR := Lib.hid hown; clear hown hgrow hz
          refine hK.out _ _ HSC.out.cells (fun hHeld => ?_)
          clear hK K
          try simp only [List.getElem_toArray, List.getElem_cons_succ, List.getElem_cons_zero, Act.put, List.setIfInBounds_toArray, List.set_cons_zero, List.set_cons_succ]
          refine wpAnyH_ready (rs := [19]) (by kernel_rfl) (by simp) ?_
          refine AllReadyH.cons (o := _) rfl (fun K hK => ?_) AllReadyH.nil
          have hz := HB.out.size; refine step_appG (by rfl) _ _ 23 rfl w2.heap.size 3 i0 (.int .i64 0) 1 8 Try.underlying23 hi hz0 hz1 hz2 rfl (by decide) (.slice (some ⟨ga, 0, none⟩) T.length ca) T.length (T.map (Value.int .i64)) rfl HTO.out (some ⟨w318.heap.size, 0, none⟩) 1 _ _ [.int .i64 0] rfl rfl (lies_whole HBZ.out) (one_cellv rfl) (by unfold maxLen; omega) (by omega) hz ?_; intro v325 w325 hown hgrow; have hgrow : World.grownBy _ w325 (some ga) := hgrow; have HS := Lib.hid (slc_far HS.out hgrow (fun hne ad e h => (HA7W.out hne ad e).1 (by injection h))); have HR := Lib.hid (HR.out.kept hgrow (Or.inr (fun e => own_types_ne HTO.out HR.out (by decide) _ rfl e))); have HSC := Lib.hid (HSC.out.grown hgrow (fun e => HG7.out.1 (by injection e)) (fun e => HG7.out.2 (by injection e))); have HB := Lib.hid (appK_more HB.out HTO.out HB.out.size hgrow); have HZ0 := Lib.hid (Nat.le_trans HZ0.out hgrow.size); obtain ⟨g325, c325, rfl, _, _⟩ := hown.form (by omega); have HT2 : Hid (w325.ownsRow w2.heap.size 3 1 (.slice (some ⟨g325, 0, none⟩) (T.length + 1) c325) (T.length + 1) ((T ++ [0]).map (Value.int .i64))) := Lib.hid (by rw [List.map_append]; exact hown); clear hown hgrow hz
          refine hK.out _ _ HSC.out.cells (fun hHeld => ?_)
          clear hK K
          try simp only [List.getElem_toArray, List.getElem_cons_succ, List.getElem_cons_zero, Act.put, List.setIfInBounds_toArray, List.set_cons_zero, List.set_cons_succ]
          refine wpAnyH_ready (rs := [21]) (by kernel_rfl) (by simp) ?_
          refine AllReadyH.cons (o := _) rfl (fun K hK => ?_) AllReadyH.nil
          go_simp
          (go_at_call 14; (with_reducible refine (lproves_is (Lib.hid (HXN.out.row HB.out HR.out HLM.out)) (Lib.hid (own_lit_ints HT2.out (by simp))) (Lib.hid (Below.refl _ _)) (Lib.hid ⟨HLM.out, by simp⟩) HFM (Lib.hid ⟨HS.out, HCN.out⟩) HPV2 (by omega)).mono ?_); rintro e w99 ⟨rfl, hb⟩; have HB := Lib.hid (HB.out.trans (hb.mono HB.out.size)); have HSC := Lib.hid (HSC.out.below hb); clear hb)
          refine hK.out _ _ HSC.out.cells (fun hHeld => ?_)
          clear hK K
          try simp only [List.getElem_toArray, List.getElem_cons_succ, List.getElem_cons_zero, Act.put, List.setIfInBounds_toArray, List.set_cons_zero, List.set_cons_succ]
          refine wpAnyH_take (i := 22) (oi := _) (v := ?_) rfl (by kernel_rfl) (by kernel_rfl) (by kernel_rfl) (fun _ _ _ h => h) (Or.inl ⟨by rfl, ?_⟩) (by assumption) ?_
          rotate_left
          · (intro w hSw; (try dsimp only at hSw); go_simp <;> with_reducible rfl)
          try simp only [List.getElem_toArray, List.getElem_cons_succ, List.getElem_cons_zero, Act.put, List.setIfInBounds_toArray, List.set_cons_zero, List.set_cons_succ]
          refine wpAnyH_take (i := 23) (oi := _) (v := ?_) rfl (by kernel_rfl) (by kernel_rfl) (by kernel_rfl) (fun _ _ _ h => h) (Or.inl ⟨by rfl, ?_⟩) (by assumption) ?_
          rotate_left
          · (intro w hSw; (try dsimp only at hSw); go_simp <;> with_reducible rfl)
          try simp only [List.getElem_toArray, List.getElem_cons_succ, List.getElem_cons_zero, Act.put, List.setIfInBounds_toArray, List.set_cons_zero, List.set_cons_succ]
          refine wpAnyH_take (i := 24) (oi := _) (v := ?_) rfl (by kernel_rfl) (by kernel_rfl) (by kernel_rfl) (fun _ _ _ h => h) (Or.inl ⟨by rfl, ?_⟩) (by assumption) ?_
          rotate_left
          · (intro w hSw; (try dsimp only at hSw); go_simp <;> with_reducible rfl)
          try simp only [List.getElem_toArray, List.getElem_cons_succ, List.getElem_cons_zero, Act.put, List.setIfInBounds_toArray, List.set_cons_zero, List.set_cons_succ]
          refine wpAnyH_done (by kernel_rfl) ?_ _
          refine NoPanic.normal ?_
          exact hQ _ _ _ _ _ _ _ _ _ _ _ _ _ _ _ _ _ _ _ _ _ _ _ _ _ HB
      · go_simp
        have hb : Below (w305).heap.size w305 ((w305).alloc (.cells #[.int .i64 0] 3)) := (Below.refl _ _).alloc (Nat.le_refl _) _; have HB := Lib.hid (HB.out.trans (hb.mono HB.out.size)); have HS := Lib.hid (lslcUp IntAt.keeps HS.out hb); have HTO := Lib.hid (own_below HTO.out hb (own_block_lt HTO.out)); have HSC := Lib.hid (HSC.out.below hb); have HZ0 := Lib.hid (Nat.le_trans HZ0.out hb.size); have HR := Lib.hid (own_below HR.out hb (own_block_lt HR.out)); have HBM := Lib.hid (HBM.out.keep hb HBM.out.lt); have HBZ : Hid (Whole ((w305).alloc (.cells #[.int .i64 0] 3)) (w305).heap.size [.int .i64 0] 3) := Lib.hid (Whole.new _ _ _); clear hb; generalize ((w305).alloc (.cells #[.int .i64 0] 3)) = w319 at HB HS HTO HSC HZ0 HR HBM HBZ ⊢
        refine hK.out _ _ HSC.out.cells (fun hHeld => ?_)
        clear hK K
        try simp only [List.getElem_toArray, List.getElem_cons_succ, List.getElem_cons_zero, Act.put, List.setIfInBounds_toArray, List.set_cons_zero, List.set_cons_succ]
        refine wpAnyH_ready (rs := [13]) (by kernel_rfl) (by simp) ?_
        refine AllReadyH.cons (o := _) rfl (fun K hK => ?_) AllReadyH.nil
        have hz := HZ0.out; refine step_appG (by rfl) _ _ 22 rfl wr.heap.size 27 j0 (.agg #[.slice none 0 0, .int .i64 0]) 2 32 Try.underlying22 hj jz0 jz1 jz2 rfl (by decide) (.slice (some ⟨w14.heap.size, 0, none⟩) 0 0) 0 [] rfl HR.out _ k _ _ xs hxn rfl (HXL.out.below_to HB.out (Nat.le_refl _)) hx1 (by unfold maxLen; omega) (by omega) hz ?_; intro v326 w326 hown hgrow; have hgrow : World.grownBy _ w326 (some (w14.heap.size)) := hgrow; have HS := Lib.hid (slc_far HS.out hgrow (fun hne ad e => far_row HR.out (HA7W.out hne ad e).2)); have HTO := Lib.hid (HTO.out.kept hgrow (Or.inr (fun e => own_types_ne HTO.out HR.out (by decide) _ rfl e.symm))); have HSC := Lib.hid (HSC.out.grown hgrow (far_row HR.out HW7.out) (far_row HR.out HWW.out)); have HB := Lib.hid (appK_more HB.out (own_lower HR.out HWB.out) HB.out.size hgrow); have HZ0 := Lib.hid (Nat.le_trans HZ0.out hgrow.size); have HBM := Lib.hid (whole_kept HBM.out hgrow (fun e => HNE.out (by injection e with e; exact e.symm))); have HBZ := Lib.hid (whole_kept HBZ.out hgrow (fun e => whole_types_ne HR.out HBZ.out (by decide) e.symm)); have HR : Hid (w326.ownsRow wr.heap.size 27 2 v326 k xs) := Lib.hid (by simpa using hown); clear hown hgrow hz
        refine hK.out _ _ HSC.out.cells (fun hHeld => ?_)
        clear hK K
        try simp only [List.getElem_toArray, List.getElem_cons_succ, List.getElem_cons_zero, Act.put, List.setIfInBounds_toArray, List.set_cons_zero, List.set_cons_succ]
        refine wpAnyH_ready (rs := [16]) (by kernel_rfl) (by simp) ?_
        refine AllReadyH.cons (o := _) rfl (fun K hK => ?_) AllReadyH.nil
        have hz := HZ0.out; refine step_appG (by rfl) _ _ 22 rfl wr.heap.size 27 j0 (.agg #[.slice none 0 0, .int .i64 0]) 2 32 Try.underlying22 hj jz0 jz1 jz2 rfl (by decide) v326 k xs rfl HR.out (some ⟨w301.heap.size, 0, none⟩) 1 _ _ [.slice C u ce, .int .i64 m] rfl rfl (lies_whole HBM.out) (two_cellv rfl rfl) (by unfold maxLen; omega) (by omega) hz ?_; intro v327 w327 hown hgrow; have hgrow : World.grownBy _ w327 (Value.ownBlock v326) := hgrow; have HS := Lib.hid (slc_far HS.out hgrow (fun hne ad e => far_row HR.out (HA7W.out hne ad e).2)); have HTO := Lib.hid (HTO.out.kept hgrow (Or.inr (fun e => own_types_ne HTO.out HR.out (by decide) _ rfl e.symm))); have HSC := Lib.hid (HSC.out.grown hgrow (far_row HR.out HW7.out) (far_row HR.out HWW.out)); have HB := Lib.hid (appK_more HB.out (own_lower HR.out HWB.out) HB.out.size hgrow); have HZ0 := Lib.hid (Nat.le_trans HZ0.out hgrow.size); have HBZ := Lib.hid (whole_kept HBZ.out hgrow (fun e => whole_types_ne HR.out HBZ.out (by decide) e.symm)); obtain ⟨g327, c327, rfl, _, _⟩ := hown.form (by omega); have HR := Lib.hid hown; clear hown hgrow hz
        refine hK.out _ _ HSC.out.cells (fun hHeld => ?_)
        clear hK K
        try simp only [List.getElem_toArray, List.getElem_cons_succ, List.getElem_cons_zero, Act.put, List.setIfInBounds_toArray, List.set_cons_zero, List.set_cons_succ]
        refine wpAnyH_ready (rs := [19]) (by kernel_rfl) (by simp) ?_
        refine AllReadyH.cons (o := _) rfl (fun K hK => ?_) AllReadyH.nil
        have hz := HB.out.size; refine step_appG (by rfl) _ _ 23 rfl w2.heap.size 3 i0 (.int .i64 0) 1 8 Try.underlying23 hi hz0 hz1 hz2 rfl (by decide) (.slice (some ⟨ga, 0, none⟩) T.length ca) T.length (T.map (Value.int .i64)) rfl HTO.out (some ⟨w305.heap.size, 0, none⟩) 1 _ _ [.int .i64 0] rfl rfl (lies_whole HBZ.out) (one_cellv rfl) (by unfold maxLen; omega) (by omega) hz ?_; intro v328 w328 hown hgrow; have hgrow : World.grownBy _ w328 (some ga) := hgrow; have HS := Lib.hid (slc_far HS.out hgrow (fun hne ad e h => (HA7W.out hne ad e).1 (by injection h))); have HR := Lib.hid (HR.out.kept hgrow (Or.inr (fun e => own_types_ne HTO.out HR.out (by decide) _ rfl e))); have HSC := Lib.hid (HSC.out.grown hgrow (fun e => HG7.out.1 (by injection e)) (fun e => HG7.out.2 (by injection e))); have HB := Lib.hid (appK_more HB.out HTO.out HB.out.size hgrow); have HZ0 := Lib.hid (Nat.le_trans HZ0.out hgrow.size); obtain ⟨g328, c328, rfl, _, _⟩ := hown.form (by omega); have HT2 : Hid (w328.ownsRow w2.heap.size 3 1 (.slice (some ⟨g328, 0, none⟩) (T.length + 1) c328) (T.length + 1) ((T ++ [0]).map (Value.int .i64))) := Lib.hid (by rw [List.map_append]; exact hown); clear hown hgrow hz
        refine hK.out _ _ HSC.out.cells (fun hHeld => ?_)
        clear hK K
        try simp only [List.getElem_toArray, List.getElem_cons_succ, List.getElem_cons_zero, Act.put, List.setIfInBounds_toArray, List.set_cons_zero, List.set_cons_succ]
        refine wpAnyH_ready (rs := [21]) (by kernel_rfl) (by simp) ?_
        refine AllReadyH.cons (o := _) rfl (fun K hK => ?_) AllReadyH.nil
        go_simp
        (go_at_call 14; (with_reducible refine (lproves_is (Lib.hid (HXN.out.row HB.out HR.out HLM.out)) (Lib.hid (own_lit_ints HT2.out (by simp))) (Lib.hid (Below.refl _ _)) (Lib.hid ⟨HLM.out, by simp⟩) HFM (Lib.hid ⟨HS.out, HCN.out⟩) HPV2 (by omega)).mono ?_); rintro e w99 ⟨rfl, hb⟩; have HB := Lib.hid (HB.out.trans (hb.mono HB.out.size)); have HSC := Lib.hid (HSC.out.below hb); clear hb)
        refine hK.out _ _ HSC.out.cells (fun hHeld => ?_)
        clear hK K
        try simp only [List.getElem_toArray, List.getElem_cons_succ, List.getElem_cons_zero, Act.put, List.setIfInBounds_toArray, List.set_cons_zero, List.set_cons_succ]
        refine wpAnyH_take (i := 22) (oi := _) (v := ?_) rfl (by kernel_rfl) (by kernel_rfl) (by kernel_rfl) (fun _ _ _ h => h) (Or.inl ⟨by rfl, ?_⟩) (by assumption) ?_
        rotate_left
        · (intro w hSw; (try dsimp only at hSw); go_simp <;> with_reducible rfl)
        try simp only [List.getElem_toArray, List.getElem_cons_succ, List.getElem_cons_zero, Act.put, List.setIfInBounds_toArray, List.set_cons_zero, List.set_cons_succ]
        refine wpAnyH_take (i := 23) (oi := _) (v := ?_) rfl (by kernel_rfl) (by kernel_rfl) (by kernel_rfl) (fun _ _ _ h => h) (Or.inl ⟨by rfl, ?_⟩) (by assumption) ?_
        rotate_left
        · (intro w hSw; (try dsimp only at hSw); go_simp <;> with_reducible rfl)
        try simp only [List.getElem_toArray, List.getElem_cons_succ, List.getElem_cons_zero, Act.put, List.setIfInBounds_toArray, List.set_cons_zero, List.set_cons_succ]
        refine wpAnyH_take (i := 24) (oi := _) (v := ?_) rfl (by kernel_rfl) (by kernel_rfl) (by kernel_rfl) (fun _ _ _ h => h) (Or.inl ⟨by rfl, ?_⟩) (by assumption) ?_
        rotate_left
        · (intro w hSw; (try dsimp only at hSw); go_simp <;> with_reducible rfl)
        try simp only [List.getElem_toArray, List.getElem_cons_succ, List.getElem_cons_zero, Act.put, List.setIfInBounds_toArray, List.set_cons_zero, List.set_cons_succ]
        refine wpAnyH_done (by kernel_rfl) ?_ _
        refine NoPanic.normal ?_
        exact hQ _ _ _ _ _ _ _ _ _ _ _ _ _ _ _ _ _ _ _ _ _ _ _ _ _ HB
    · go_simp
      have hb : Below (w301).heap.size w301 ((w301).alloc (.cells #[.int .i64 0] 3)) := (Below.refl _ _).alloc (Nat.le_refl _) _; have HB := Lib.hid (HB.out.trans (hb.mono HB.out.size)); have HS := Lib.hid (lslcUp IntAt.keeps HS.out hb); have HTO := Lib.hid (own_below HTO.out hb (own_block_lt HTO.out)); have HSC := Lib.hid (HSC.out.below hb); have HZ0 := Lib.hid (Nat.le_trans HZ0.out hb.size); have HR := Lib.hid (own_below HR.out hb (own_block_lt HR.out)); have HBZ : Hid (Whole ((w301).alloc (.cells #[.int .i64 0] 3)) (w301).heap.size [.int .i64 0] 3) := Lib.hid (Whole.new _ _ _); clear hb; generalize ((w301).alloc (.cells #[.int .i64 0] 3)) = w306 at HB HS HTO HSC HZ0 HR HBZ ⊢
      refine hK.out _ _ HSC.out.cells (fun hHeld => ?_)
      clear hK K
      try simp only [List.getElem_toArray, List.getElem_cons_succ, List.getElem_cons_zero, Act.put, List.setIfInBounds_toArray, List.set_cons_zero, List.set_cons_succ]
      refine wpAnyH_ready (rs := [13, 15]) (by kernel_rfl) (by simp) ?_
      refine (AllReadyH.cons (o := _) rfl (fun K hK => ?_) (AllReadyH.cons (o := _) rfl (fun K hK => ?_) AllReadyH.nil))
      · have hz := HZ0.out; refine step_appG (by rfl) _ _ 22 rfl wr.heap.size 27 j0 (.agg #[.slice none 0 0, .int .i64 0]) 2 32 Try.underlying22 hj jz0 jz1 jz2 rfl (by decide) (.slice (some ⟨w14.heap.size, 0, none⟩) 0 0) 0 [] rfl HR.out _ k _ _ xs hxn rfl (HXL.out.below_to HB.out (Nat.le_refl _)) hx1 (by unfold maxLen; omega) (by omega) hz ?_; intro v329 w329 hown hgrow; have hgrow : World.grownBy _ w329 (some (w14.heap.size)) := hgrow; have HS := Lib.hid (slc_far HS.out hgrow (fun hne ad e => far_row HR.out (HA7W.out hne ad e).2)); have HTO := Lib.hid (HTO.out.kept hgrow (Or.inr (fun e => own_types_ne HTO.out HR.out (by decide) _ rfl e.symm))); have HSC := Lib.hid (HSC.out.grown hgrow (far_row HR.out HW7.out) (far_row HR.out HWW.out)); have HB := Lib.hid (appK_more HB.out (own_lower HR.out HWB.out) HB.out.size hgrow); have HZ0 := Lib.hid (Nat.le_trans HZ0.out hgrow.size); have HBZ := Lib.hid (whole_kept HBZ.out hgrow (fun e => whole_types_ne HR.out HBZ.out (by decide) e.symm)); have HR : Hid (w329.ownsRow wr.heap.size 27 2 v329 k xs) := Lib.hid (by simpa using hown); clear hown hgrow hz
        refine hK.out _ _ HSC.out.cells (fun hHeld => ?_)
        clear hK K
        try simp only [List.getElem_toArray, List.getElem_cons_succ, List.getElem_cons_zero, Act.put, List.setIfInBounds_toArray, List.set_cons_zero, List.set_cons_succ]
        refine wpAnyH_ready (rs := [15]) (by kernel_rfl) (by simp) ?_
        refine AllReadyH.cons (o := _) rfl (fun K hK => ?_) AllReadyH.nil
        go_simp
        have hb : Below (w329).heap.size w329 ((w329).alloc (.cells #[.slice C u ce, .int .i64 m] 27)) := (Below.refl _ _).alloc (Nat.le_refl _) _; have HB := Lib.hid (HB.out.trans (hb.mono HB.out.size)); have HS := Lib.hid (lslcUp IntAt.keeps HS.out hb); have HTO := Lib.hid (own_below HTO.out hb (own_block_lt HTO.out)); have HSC := Lib.hid (HSC.out.below hb); have HZ0 := Lib.hid (Nat.le_trans HZ0.out hb.size); have HR := Lib.hid (own_below HR.out hb (own_block_lt HR.out)); have HBZ := Lib.hid (HBZ.out.keep hb HBZ.out.lt); have HBM : Hid (Whole ((w329).alloc (.cells #[.slice C u ce, .int .i64 m] 27)) (w329).heap.size [.slice C u ce, .int .i64 m] 27) := Lib.hid (Whole.new _ _ _); clear hb; generalize ((w329).alloc (.cells #[.slice C u ce, .int .i64 m] 27)) = w331 at HB HS HTO HSC HZ0 HR HBZ HBM ⊢
        refine hK.out _ _ HSC.out.cells (fun hHeld => ?_)
        clear hK K
        try simp only [List.getElem_toArray, List.getElem_cons_succ, List.getElem_cons_zero, Act.put, List.setIfInBounds_toArray, List.set_cons_zero, List.set_cons_succ]
        refine wpAnyH_ready (rs := [16]) (by kernel_rfl) (by simp) ?_
        refine AllReadyH.cons (o := _) rfl (fun K hK => ?_) AllReadyH.nil
        have hz := HZ0.out; refine step_appG (by rfl) _ _ 22 rfl wr.heap.size 27 j0 (.agg #[.slice none 0 0, .int .i64 0]) 2 32 Try.underlying22 hj jz0 jz1 jz2 rfl (by decide) v329 k xs rfl HR.out (some ⟨w329.heap.size, 0, none⟩) 1 _ _ [.slice C u ce, .int .i64 m] rfl rfl (lies_whole HBM.out) (two_cellv rfl rfl) (by unfold maxLen; omega) (by omega) hz ?_; intro v332 w332 hown hgrow; have hgrow : World.grownBy _ w332 (Value.ownBlock v329) := hgrow; have HS := Lib.hid (slc_far HS.out hgrow (fun hne ad e => far_row HR.out (HA7W.out hne ad e).2)); have HTO := Lib.hid (HTO.out.kept hgrow (Or.inr (fun e => own_types_ne HTO.out HR.out (by decide) _ rfl e.symm))); have HSC := Lib.hid (HSC.out.grown hgrow (far_row HR.out HW7.out) (far_row HR.out HWW.out)); have HB := Lib.hid (appK_more HB.out (own_lower HR.out HWB.out) HB.out.size hgrow); have HZ0 := Lib.hid (Nat.le_trans HZ0.out hgrow.size); have HBZ := Lib.hid (whole_kept HBZ.out hgrow (fun e => whole_types_ne HR.out HBZ.out (by decide) e.symm)); obtain ⟨g332, c332, rfl, _, _⟩ := hown.form (by omega); have HR := Lib.hid hown; clear hown hgrow hz
        refine hK.out _ _ HSC.out.cells (fun hHeld => ?_)
        clear hK K
        try simp only [List.getElem_toArray, List.getElem_cons_succ, List.getElem_cons_zero, Act.put, List.setIfInBounds_toArray, List.set_cons_zero, List.set_cons_succ]
        refine wpAnyH_ready (rs := [19]) (by kernel_rfl) (by simp) ?_
        refine AllReadyH.cons (o := _) rfl (fun K hK => ?_) AllReadyH.nil
        have hz := HB.out.size; refine step_appG (by rfl) _ _ 23 rfl w2.heap.size 3 i0 (.int .i64 0) 1 8 Try.underlying23 hi hz0 hz1 hz2 rfl (by decide) (.slice (some ⟨ga, 0, none⟩) T.length ca) T.length (T.map (Value.int .i64)) rfl HTO.out (some ⟨w301.heap.size, 0, none⟩) 1 _ _ [.int .i64 0] rfl rfl (lies_whole HBZ.out) (one_cellv rfl) (by unfold maxLen; omega) (by omega) hz ?_; intro v333 w333 hown hgrow; have hgrow : World.grownBy _ w333 (some ga) := hgrow; have HS := Lib.hid (slc_far HS.out hgrow (fun hne ad e h => (HA7W.out hne ad e).1 (by injection h))); have HR := Lib.hid (HR.out.kept hgrow (Or.inr (fun e => own_types_ne HTO.out HR.out (by decide) _ rfl e))); have HSC := Lib.hid (HSC.out.grown hgrow (fun e => HG7.out.1 (by injection e)) (fun e => HG7.out.2 (by injection e))); have HB := Lib.hid (appK_more HB.out HTO.out HB.out.size hgrow); have HZ0 := Lib.hid (Nat.le_trans HZ0.out hgrow.size); obtain ⟨g333, c333, rfl, _, _⟩ := hown.form (by omega); have HT2 : Hid (w333.ownsRow w2.heap.size 3 1 (.slice (some ⟨g333, 0, none⟩) (T.length + 1) c333) (T.length + 1) ((T ++ [0]).map (Value.int .i64))) := Lib.hid (by rw [List.map_append]; exact hown); clear hown hgrow hz
        refine hK.out _ _ HSC.out.cells (fun hHeld => ?_)
        clear hK K
        try simp only [List.getElem_toArray, List.getElem_cons_succ, List.getElem_cons_zero, Act.put, List.setIfInBounds_toArray, List.set_cons_zero, List.set_cons_succ]
        refine wpAnyH_ready (rs := [21]) (by kernel_rfl) (by simp) ?_
        refine AllReadyH.cons (o := _) rfl (fun K hK => ?_) AllReadyH.nil
        go_simp
        (go_at_call 14; (with_reducible refine (lproves_is (Lib.hid (HXN.out.row HB.out HR.out HLM.out)) (Lib.hid (own_lit_ints HT2.out (by simp))) (Lib.hid (Below.refl _ _)) (Lib.hid ⟨HLM.out, by simp⟩) HFM (Lib.hid ⟨HS.out, HCN.out⟩) HPV2 (by omega)).mono ?_); rintro e w99 ⟨rfl, hb⟩; have HB := Lib.hid (HB.out.trans (hb.mono HB.out.size)); have HSC := Lib.hid (HSC.out.below hb); clear hb)
        refine hK.out _ _ HSC.out.cells (fun hHeld => ?_)
        clear hK K
        try simp only [List.getElem_toArray, List.getElem_cons_succ, List.getElem_cons_zero, Act.put, List.setIfInBounds_toArray, List.set_cons_zero, List.set_cons_succ]
        refine wpAnyH_take (i := 22) (oi := _) (v := ?_) rfl (by kernel_rfl) (by kernel_rfl) (by kernel_rfl) (fun _ _ _ h => h) (Or.inl ⟨by rfl, ?_⟩) (by assumption) ?_
        rotate_left
        · (intro w hSw; (try dsimp only at hSw); go_simp <;> with_reducible rfl)
        try simp only [List.getElem_toArray, List.getElem_cons_succ, List.getElem_cons_zero, Act.put, List.setIfInBounds_toArray, List.set_cons_zero, List.set_cons_succ]
        refine wpAnyH_take (i := 23) (oi := _) (v := ?_) rfl (by kernel_rfl) (by kernel_rfl) (by kernel_rfl) (fun _ _ _ h => h) (Or.inl ⟨by rfl, ?_⟩) (by assumption) ?_
        rotate_left
        · (intro w hSw; (try dsimp only at hSw); go_simp <;> with_reducible rfl)
        try simp only [List.getElem_toArray, List.getElem_cons_succ, List.getElem_cons_zero, Act.put, List.setIfInBounds_toArray, List.set_cons_zero, List.set_cons_succ]
        refine wpAnyH_take (i := 24) (oi := _) (v := ?_) rfl (by kernel_rfl) (by kernel_rfl) (by kernel_rfl) (fun _ _ _ h => h) (Or.inl ⟨by rfl, ?_⟩) (by assumption) ?_
        rotate_left
        · (intro w hSw; (try dsimp only at hSw); go_simp <;> with_reducible rfl)
        try simp only [List.getElem_toArray, List.getElem_cons_succ, List.getElem_cons_zero, Act.put, List.setIfInBounds_toArray, List.set_cons_zero, List.set_cons_succ]
        refine wpAnyH_done (by kernel_rfl) ?_ _
        refine NoPanic.normal ?_
        exact hQ _ _ _ _ _ _ _ _ _ _ _ _ _ _ _ _ _ _ _ _ _ _ _ _ _ HB
      · go_simp
        have HR0 := Lib.hid (HR.out.lt _ rfl).2; have hb : Below (w306).heap.size w306 ((w306).alloc (.cells #[.slice C u ce, .int .i64 m] 27)) := (Below.refl _ _).alloc (Nat.le_refl _) _; have HB := Lib.hid (HB.out.trans (hb.mono HB.out.size)); have HS := Lib.hid (lslcUp IntAt.keeps HS.out hb); have HTO := Lib.hid (own_below HTO.out hb (own_block_lt HTO.out)); have HSC := Lib.hid (HSC.out.below hb); have HZ0 := Lib.hid (Nat.le_trans HZ0.out hb.size); have HR := Lib.hid (own_below HR.out hb (own_block_lt HR.out)); have HBZ := Lib.hid (HBZ.out.keep hb HBZ.out.lt); have HBM : Hid (Whole ((w306).alloc (.cells #[.slice C u ce, .int .i64 m] 27)) (w306).heap.size [.slice C u ce, .int .i64 m] 27) := Lib.hid (Whole.new _ _ _); have HNE : Hid (w14.heap.size ≠ (w306).heap.size) := Lib.hid (Nat.ne_of_lt HR0.out); clear hb; generalize ((w306).alloc (.cells #[.slice C u ce, .int .i64 m] 27)) = w330 at HB HS HTO HSC HZ0 HR HBZ HBM ⊢
        refine hK.out _ _ HSC.out.cells (fun hHeld => ?_)
        clear hK K
        try simp only [List.getElem_toArray, List.getElem_cons_succ, List.getElem_cons_zero, Act.put, List.setIfInBounds_toArray, List.set_cons_zero, List.set_cons_succ]
        refine wpAnyH_ready (rs := [13]) (by kernel_rfl) (by simp) ?_
        refine AllReadyH.cons (o := _) rfl (fun K hK => ?_) AllReadyH.nil
        have hz := HZ0.out; refine step_appG (by rfl) _ _ 22 rfl wr.heap.size 27 j0 (.agg #[.slice none 0 0, .int .i64 0]) 2 32 Try.underlying22 hj jz0 jz1 jz2 rfl (by decide) (.slice (some ⟨w14.heap.size, 0, none⟩) 0 0) 0 [] rfl HR.out _ k _ _ xs hxn rfl (HXL.out.below_to HB.out (Nat.le_refl _)) hx1 (by unfold maxLen; omega) (by omega) hz ?_; intro v334 w334 hown hgrow; have hgrow : World.grownBy _ w334 (some (w14.heap.size)) := hgrow; have HS := Lib.hid (slc_far HS.out hgrow (fun hne ad e => far_row HR.out (HA7W.out hne ad e).2)); have HTO := Lib.hid (HTO.out.kept hgrow (Or.inr (fun e => own_types_ne HTO.out HR.out (by decide) _ rfl e.symm))); have HSC := Lib.hid (HSC.out.grown hgrow (far_row HR.out HW7.out) (far_row HR.out HWW.out)); have HB := Lib.hid (appK_more HB.out (own_lower HR.out HWB.out) HB.out.size hgrow); have HZ0 := Lib.hid (Nat.le_trans HZ0.out hgrow.size); have HBM := Lib.hid (whole_kept HBM.out hgrow (fun e => HNE.out (by injection e with e; exact e.symm))); have HBZ := Lib.hid (whole_kept HBZ.out hgrow (fun e => whole_types_ne HR.out HBZ.out (by decide) e.symm)); have HR : Hid (w334.ownsRow wr.heap.size 27 2 v334 k xs) := Lib.hid (by simpa using hown); clear hown hgrow hz
        refine hK.out _ _ HSC.out.cells (fun hHeld => ?_)
        clear hK K
        try simp only [List.getElem_toArray, List.getElem_cons_succ, List.getElem_cons_zero, Act.put, List.setIfInBounds_toArray, List.set_cons_zero, List.set_cons_succ]
        refine wpAnyH_ready (rs := [16]) (by kernel_rfl) (by simp) ?_
        refine AllReadyH.cons (o := _) rfl (fun K hK => ?_) AllReadyH.nil
        have hz := HZ0.out; refine step_appG (by rfl) _ _ 22 rfl wr.heap.size 27 j0 (.agg #[.slice none 0 0, .int .i64 0]) 2 32 Try.underlying22 hj jz0 jz1 jz2 rfl (by decide) v334 k xs rfl HR.out (some ⟨w306.heap.size, 0, none⟩) 1 _ _ [.slice C u ce, .int .i64 m] rfl rfl (lies_whole HBM.out) (two_cellv rfl rfl) (by unfold maxLen; omega) (by omega) hz ?_; intro v335 w335 hown hgrow; have hgrow : World.grownBy _ w335 (Value.ownBlock v334) := hgrow; have HS := Lib.hid (slc_far HS.out hgrow (fun hne ad e => far_row HR.out (HA7W.out hne ad e).2)); have HTO := Lib.hid (HTO.out.kept hgrow (Or.inr (fun e => own_types_ne HTO.out HR.out (by decide) _ rfl e.symm))); have HSC := Lib.hid (HSC.out.grown hgrow (far_row HR.out HW7.out) (far_row HR.out HWW.out)); have HB := Lib.hid (appK_more HB.out (own_lower HR.out HWB.out) HB.out.size hgrow); have HZ0 := Lib.hid (Nat.le_trans HZ0.out hgrow.size); have HBZ := Lib.hid (whole_kept HBZ.out hgrow (fun e => whole_types_ne HR.out HBZ.out (by decide) e.symm)); obtain ⟨g335, c335, rfl, _, _⟩ := hown.form (by omega); have HR := Lib.hid hown; clear hown hgrow hz
        refine hK.out _ _ HSC.out.cells (fun hHeld => ?_)
        clear hK K
        try simp only [List.getElem_toArray, List.getElem_cons_succ, List.getElem_cons_zero, Act.put, List.setIfInBounds_toArray, List.set_cons_zero, List.set_cons_succ]
        refine wpAnyH_ready (rs := [19]) (by kernel_rfl) (by simp) ?_
        refine AllReadyH.cons (o := _) rfl (fun K hK => ?_) AllReadyH.nil
        have hz := HB.out.size; refine step_appG (by rfl) _ _ 23 rfl w2.heap.size 3 i0 (.int .i64 0) 1 8 Try.underlying23 hi hz0 hz1 hz2 rfl (by decide) (.slice (some ⟨ga, 0, none⟩) T.length ca) T.length (T.map (Value.int .i64)) rfl HTO.out (some ⟨w301.heap.size, 0, none⟩) 1 _ _ [.int .i64 0] rfl rfl (lies_whole HBZ.out) (one_cellv rfl) (by unfold maxLen; omega) (by omega) hz ?_; intro v336 w336 hown hgrow; have hgrow : World.grownBy _ w336 (some ga) := hgrow; have HS := Lib.hid (slc_far HS.out hgrow (fun hne ad e h => (HA7W.out hne ad e).1 (by injection h))); have HR := Lib.hid (HR.out.kept hgrow (Or.inr (fun e => own_types_ne HTO.out HR.out (by decide) _ rfl e))); have HSC := Lib.hid (HSC.out.grown hgrow (fun e => HG7.out.1 (by injection e)) (fun e => HG7.out.2 (by injection e))); have HB := Lib.hid (appK_more HB.out HTO.out HB.out.size hgrow); have HZ0 := Lib.hid (Nat.le_trans HZ0.out hgrow.size); obtain ⟨g336, c336, rfl, _, _⟩ := hown.form (by omega); have HT2 : Hid (w336.ownsRow w2.heap.size 3 1 (.slice (some ⟨g336, 0, none⟩) (T.length + 1) c336) (T.length + 1) ((T ++ [0]).map (Value.int .i64))) := Lib.hid (by rw [List.map_append]; exact hown); clear hown hgrow hz
        refine hK.out _ _ HSC.out.cells (fun hHeld => ?_)
        clear hK K
        try simp only [List.getElem_toArray, List.getElem_cons_succ, List.getElem_cons_zero, Act.put, List.setIfInBounds_toArray, List.set_cons_zero, List.set_cons_succ]
        refine wpAnyH_ready (rs := [21]) (by kernel_rfl) (by simp) ?_
        refine AllReadyH.cons (o := _) rfl (fun K hK => ?_) AllReadyH.nil
        go_simp
        (go_at_call 14; (with_reducible refine (lproves_is (Lib.hid (HXN.out.row HB.out HR.out HLM.out)) (Lib.hid (own_lit_ints HT2.out (by simp))) (Lib.hid (Below.refl _ _)) (Lib.hid ⟨HLM.out, by simp⟩) HFM (Lib.hid ⟨HS.out, HCN.out⟩) HPV2 (by omega)).mono ?_); rintro e w99 ⟨rfl, hb⟩; have HB := Lib.hid (HB.out.trans (hb.mono HB.out.size)); have HSC := Lib.hid (HSC.out.below hb); clear hb)
        refine hK.out _ _ HSC.out.cells (fun hHeld => ?_)
        clear hK K
        try simp only [List.getElem_toArray, List.getElem_cons_succ, List.getElem_cons_zero, Act.put, List.setIfInBounds_toArray, List.set_cons_zero, List.set_cons_succ]
        refine wpAnyH_take (i := 22) (oi := _) (v := ?_) rfl (by kernel_rfl) (by kernel_rfl) (by kernel_rfl) (fun _ _ _ h => h) (Or.inl ⟨by rfl, ?_⟩) (by assumption) ?_
        rotate_left
        · (intro w hSw; (try dsimp only at hSw); go_simp <;> with_reducible rfl)
        try simp only [List.getElem_toArray, List.getElem_cons_succ, List.getElem_cons_zero, Act.put, List.setIfInBounds_toArray, List.set_cons_zero, List.set_cons_succ]
        refine wpAnyH_take (i := 23) (oi := _) (v := ?_) rfl (by kernel_rfl) (by kernel_rfl) (by kernel_rfl) (fun _ _ _ h => h) (Or.inl ⟨by rfl, ?_⟩) (by assumption) ?_
        rotate_left
        · (intro w hSw; (try dsimp only at hSw); go_simp <;> with_reducible rfl)
        try simp only [List.getElem_toArray, List.getElem_cons_succ, List.getElem_cons_zero, Act.put, List.setIfInBounds_toArray, List.set_cons_zero, List.set_cons_succ]
        refine wpAnyH_take (i := 24) (oi := _) (v := ?_) rfl (by kernel_rfl) (by kernel_rfl) (by kernel_rfl) (fun _ _ _ h => h) (Or.inl ⟨by rfl, ?_⟩) (by assumption) ?_
        rotate_left
        · (intro w hSw; (try dsimp only at hSw); go_simp <;> with_reducible rfl)
        try simp only [List.getElem_toArray, List.getElem_cons_succ, List.getElem_cons_zero, Act.put, List.setIfInBounds_toArray, List.set_cons_zero, List.set_cons_succ]
        refine wpAnyH_done (by kernel_rfl) ?_ _
        refine NoPanic.normal ?_
        exact hQ _ _ _ _ _ _ _ _ _ _ _ _ _ _ _ _ _ _ _ _ _ _ _ _ _ HB
  · go_simp
    have hb : Below (w14).heap.size w14 ((w14).alloc (.cells #[.slice C u ce, .int .i64 m] 27)) := (Below.refl _ _).alloc (Nat.le_refl _) _; have HB := Lib.hid (HB.out.trans (hb.mono HB.out.size)); have HS := Lib.hid (lslcUp IntAt.keeps HS.out hb); have HTO := Lib.hid (own_below HTO.out hb (own_block_lt HTO.out)); have HSC := Lib.hid (HSC.out.below hb); have HZ0 := Lib.hid (Nat.le_trans HZ0.out hb.size); have HBM : Hid (Whole ((w14).alloc (.cells #[.slice C u ce, .int .i64 m] 27)) (w14).heap.size [.slice C u ce, .int .i64 m] 27) := Lib.hid (Whole.new _ _ _); clear hb; generalize ((w14).alloc (.cells #[.slice C u ce, .int .i64 m] 27)) = w302 at HB HS HTO HSC HZ0 HBM ⊢
    refine hK.out _ _ HSC.out.cells (fun hHeld => ?_)
    clear hK K
    try simp only [List.getElem_toArray, List.getElem_cons_succ, List.getElem_cons_zero, Act.put, List.setIfInBounds_toArray, List.set_cons_zero, List.set_cons_succ]
    refine wpAnyH_ready (rs := [11, 18]) (by kernel_rfl) (by simp) ?_
    refine (AllReadyH.cons (o := _) rfl (fun K hK => ?_) (AllReadyH.cons (o := _) rfl (fun K hK => ?_) AllReadyH.nil))
    · go_simp
      have HBM0 := Lib.hid HBM.out.lt; have HZQ := HZ0; have hb : Below (w302).heap.size w302 ((w302).alloc (.cells #[] 27)) := (Below.refl _ _).alloc (Nat.le_refl _) _; have HB := Lib.hid (HB.out.trans (hb.mono HB.out.size)); have HS := Lib.hid (lslcUp IntAt.keeps HS.out hb); have HTO := Lib.hid (own_below HTO.out hb (own_block_lt HTO.out)); have HSC := Lib.hid (HSC.out.below hb); have HZ0 := Lib.hid (Nat.le_trans HZ0.out hb.size); have HBM := Lib.hid (HBM.out.keep hb HBM.out.lt); have HR : Hid (((w302).alloc (.cells #[] 27)).ownsRow wr.heap.size 27 2 (.slice (some ⟨(w302).heap.size, 0, none⟩) 0 0) 0 []) := Lib.hid (own_lower (own_emptyK (w302) 27 2) HZQ.out); have HNE : Hid ((w302).heap.size ≠ w14.heap.size) := Lib.hid (Nat.ne_of_gt HBM0.out); clear hb; generalize ((w302).alloc (.cells #[] 27)) = w337 at HB HS HTO HSC HZ0 HBM HR ⊢
      refine hK.out _ _ HSC.out.cells (fun hHeld => ?_)
      clear hK K
      try simp only [List.getElem_toArray, List.getElem_cons_succ, List.getElem_cons_zero, Act.put, List.setIfInBounds_toArray, List.set_cons_zero, List.set_cons_succ]
      refine wpAnyH_ready (rs := [13, 18]) (by kernel_rfl) (by simp) ?_
      refine (AllReadyH.cons (o := _) rfl (fun K hK => ?_) (AllReadyH.cons (o := _) rfl (fun K hK => ?_) AllReadyH.nil))
      · have hz := HZ0.out; refine step_appG (by rfl) _ _ 22 rfl wr.heap.size 27 j0 (.agg #[.slice none 0 0, .int .i64 0]) 2 32 Try.underlying22 hj jz0 jz1 jz2 rfl (by decide) (.slice (some ⟨w302.heap.size, 0, none⟩) 0 0) 0 [] rfl HR.out _ k _ _ xs hxn rfl (HXL.out.below_to HB.out (Nat.le_refl _)) hx1 (by unfold maxLen; omega) (by omega) hz ?_; intro v339 w339 hown hgrow; have hgrow : World.grownBy _ w339 (some (w302.heap.size)) := hgrow; have HS := Lib.hid (slc_far HS.out hgrow (fun hne ad e => far_row HR.out (HA7W.out hne ad e).2)); have HTO := Lib.hid (HTO.out.kept hgrow (Or.inr (fun e => own_types_ne HTO.out HR.out (by decide) _ rfl e.symm))); have HSC := Lib.hid (HSC.out.grown hgrow (far_row HR.out HW7.out) (far_row HR.out HWW.out)); have HB := Lib.hid (appK_more HB.out (own_lower HR.out HWB.out) HB.out.size hgrow); have HZ0 := Lib.hid (Nat.le_trans HZ0.out hgrow.size); have HBM := Lib.hid (whole_kept HBM.out hgrow (fun e => HNE.out (by injection e with e; exact e.symm))); have HR : Hid (w339.ownsRow wr.heap.size 27 2 v339 k xs) := Lib.hid (by simpa using hown); clear hown hgrow hz
        refine hK.out _ _ HSC.out.cells (fun hHeld => ?_)
        clear hK K
        try simp only [List.getElem_toArray, List.getElem_cons_succ, List.getElem_cons_zero, Act.put, List.setIfInBounds_toArray, List.set_cons_zero, List.set_cons_succ]
        refine wpAnyH_ready (rs := [16, 18]) (by kernel_rfl) (by simp) ?_
        refine (AllReadyH.cons (o := _) rfl (fun K hK => ?_) (AllReadyH.cons (o := _) rfl (fun K hK => ?_) AllReadyH.nil))
        · have hz := HZ0.out; refine step_appG (by rfl) _ _ 22 rfl wr.heap.size 27 j0 (.agg #[.slice none 0 0, .int .i64 0]) 2 32 Try.underlying22 hj jz0 jz1 jz2 rfl (by decide) v339 k xs rfl HR.out (some ⟨w14.heap.size, 0, none⟩) 1 _ _ [.slice C u ce, .int .i64 m] rfl rfl (lies_whole HBM.out) (two_cellv rfl rfl) (by unfold maxLen; omega) (by omega) hz ?_; intro v341 w341 hown hgrow; have hgrow : World.grownBy _ w341 (Value.ownBlock v339) := hgrow; have HS := Lib.hid (slc_far HS.out hgrow (fun hne ad e => far_row HR.out (HA7W.out hne ad e).2)); have HTO := Lib.hid (HTO.out.kept hgrow (Or.inr (fun e => own_types_ne HTO.out HR.out (by decide) _ rfl e.symm))); have HSC := Lib.hid (HSC.out.grown hgrow (far_row HR.out HW7.out) (far_row HR.out HWW.out)); have HB := Lib.hid (appK_more HB.out (own_lower HR.out HWB.out) HB.out.size hgrow); have HZ0 := Lib.hid (Nat.le_trans HZ0.out hgrow.size); obtain ⟨g341, c341, rfl, _, _⟩ := hown.form (by omega); have HR := Lib.hid hown; clear hown hgrow hz
          refine hK.out _ _ HSC.out.cells (fun hHeld => ?_)
          clear hK K
          try simp only [List.getElem_toArray, List.getElem_cons_succ, List.getElem_cons_zero, Act.put, List.setIfInBounds_toArray, List.set_cons_zero, List.set_cons_succ]
          refine wpAnyH_ready (rs := [18]) (by kernel_rfl) (by simp) ?_
          refine AllReadyH.cons (o := _) rfl (fun K hK => ?_) AllReadyH.nil
          go_simp
          have hb : Below (w341).heap.size w341 ((w341).alloc (.cells #[.int .i64 0] 3)) := (Below.refl _ _).alloc (Nat.le_refl _) _; have HB := Lib.hid (HB.out.trans (hb.mono HB.out.size)); have HS := Lib.hid (lslcUp IntAt.keeps HS.out hb); have HTO := Lib.hid (own_below HTO.out hb (own_block_lt HTO.out)); have HSC := Lib.hid (HSC.out.below hb); have HZ0 := Lib.hid (Nat.le_trans HZ0.out hb.size); have HR := Lib.hid (own_below HR.out hb (own_block_lt HR.out)); have HBZ : Hid (Whole ((w341).alloc (.cells #[.int .i64 0] 3)) (w341).heap.size [.int .i64 0] 3) := Lib.hid (Whole.new _ _ _); clear hb; generalize ((w341).alloc (.cells #[.int .i64 0] 3)) = w343 at HB HS HTO HSC HZ0 HR HBZ ⊢
          refine hK.out _ _ HSC.out.cells (fun hHeld => ?_)
          clear hK K
          try simp only [List.getElem_toArray, List.getElem_cons_succ, List.getElem_cons_zero, Act.put, List.setIfInBounds_toArray, List.set_cons_zero, List.set_cons_succ]
          refine wpAnyH_ready (rs := [19]) (by kernel_rfl) (by simp) ?_
          refine AllReadyH.cons (o := _) rfl (fun K hK => ?_) AllReadyH.nil
          have hz := HB.out.size; refine step_appG (by rfl) _ _ 23 rfl w2.heap.size 3 i0 (.int .i64 0) 1 8 Try.underlying23 hi hz0 hz1 hz2 rfl (by decide) (.slice (some ⟨ga, 0, none⟩) T.length ca) T.length (T.map (Value.int .i64)) rfl HTO.out (some ⟨w341.heap.size, 0, none⟩) 1 _ _ [.int .i64 0] rfl rfl (lies_whole HBZ.out) (one_cellv rfl) (by unfold maxLen; omega) (by omega) hz ?_; intro v344 w344 hown hgrow; have hgrow : World.grownBy _ w344 (some ga) := hgrow; have HS := Lib.hid (slc_far HS.out hgrow (fun hne ad e h => (HA7W.out hne ad e).1 (by injection h))); have HR := Lib.hid (HR.out.kept hgrow (Or.inr (fun e => own_types_ne HTO.out HR.out (by decide) _ rfl e))); have HSC := Lib.hid (HSC.out.grown hgrow (fun e => HG7.out.1 (by injection e)) (fun e => HG7.out.2 (by injection e))); have HB := Lib.hid (appK_more HB.out HTO.out HB.out.size hgrow); have HZ0 := Lib.hid (Nat.le_trans HZ0.out hgrow.size); obtain ⟨g344, c344, rfl, _, _⟩ := hown.form (by omega); have HT2 : Hid (w344.ownsRow w2.heap.size 3 1 (.slice (some ⟨g344, 0, none⟩) (T.length + 1) c344) (T.length + 1) ((T ++ [0]).map (Value.int .i64))) := Lib.hid (by rw [List.map_append]; exact hown); clear hown hgrow hz
          refine hK.out _ _ HSC.out.cells (fun hHeld => ?_)
          clear hK K
          try simp only [List.getElem_toArray, List.getElem_cons_succ, List.getElem_cons_zero, Act.put, List.setIfInBounds_toArray, List.set_cons_zero, List.set_cons_succ]
          refine wpAnyH_ready (rs := [21]) (by kernel_rfl) (by simp) ?_
          refine AllReadyH.cons (o := _) rfl (fun K hK => ?_) AllReadyH.nil
          go_simp
          (go_at_call 14; (with_reducible refine (lproves_is (Lib.hid (HXN.out.row HB.out HR.out HLM.out)) (Lib.hid (own_lit_ints HT2.out (by simp))) (Lib.hid (Below.refl _ _)) (Lib.hid ⟨HLM.out, by simp⟩) HFM (Lib.hid ⟨HS.out, HCN.out⟩) HPV2 (by omega)).mono ?_); rintro e w99 ⟨rfl, hb⟩; have HB := Lib.hid (HB.out.trans (hb.mono HB.out.size)); have HSC := Lib.hid (HSC.out.below hb); clear hb)
          refine hK.out _ _ HSC.out.cells (fun hHeld => ?_)
          clear hK K
          try simp only [List.getElem_toArray, List.getElem_cons_succ, List.getElem_cons_zero, Act.put, List.setIfInBounds_toArray, List.set_cons_zero, List.set_cons_succ]
          refine wpAnyH_take (i := 22) (oi := _) (v := ?_) rfl (by kernel_rfl) (by kernel_rfl) (by kernel_rfl) (fun _ _ _ h => h) (Or.inl ⟨by rfl, ?_⟩) (by assumption) ?_
          rotate_left
          · (intro w hSw; (try dsimp only at hSw); go_simp <;> with_reducible rfl)
          try simp only [List.getElem_toArray, List.getElem_cons_succ, List.getElem_cons_zero, Act.put, List.setIfInBounds_toArray, List.set_cons_zero, List.set_cons_succ]
          refine wpAnyH_take (i := 23) (oi := _) (v := ?_) rfl (by kernel_rfl) (by kernel_rfl) (by kernel_rfl) (fun _ _ _ h => h) (Or.inl ⟨by rfl, ?_⟩) (by assumption) ?_
          rotate_left
          · (intro w hSw; (try dsimp only at hSw); go_simp <;> with_reducible rfl)
          try simp only [List.getElem_toArray, List.getElem_cons_succ, List.getElem_cons_zero, Act.put, List.setIfInBounds_toArray, List.set_cons_zero, List.set_cons_succ]
          refine wpAnyH_take (i := 24) (oi := _) (v := ?_) rfl (by kernel_rfl) (by kernel_rfl) (by kernel_rfl) (fun _ _ _ h => h) (Or.inl ⟨by rfl, ?_⟩) (by assumption) ?_
          rotate_left
          · (intro w hSw; (try dsimp only at hSw); go_simp <;> with_reducible rfl)
          try simp only [List.getElem_toArray, List.getElem_cons_succ, List.getElem_cons_zero, Act.put, List.setIfInBounds_toArray, List.set_cons_zero, List.set_cons_succ]
          refine wpAnyH_done (by kernel_rfl) ?_ _
          refine NoPanic.normal ?_
          exact hQ _ _ _ _ _ _ _ _ _ _ _ _ _ _ _ _ _ _ _ _ _ _ _ _ _ HB
        · go_simp
          have hb : Below (w339).heap.size w339 ((w339).alloc (.cells #[.int .i64 0] 3)) := (Below.refl _ _).alloc (Nat.le_refl _) _; have HB := Lib.hid (HB.out.trans (hb.mono HB.out.size)); have HS := Lib.hid (lslcUp IntAt.keeps HS.out hb); have HTO := Lib.hid (own_below HTO.out hb (own_block_lt HTO.out)); have HSC := Lib.hid (HSC.out.below hb); have HZ0 := Lib.hid (Nat.le_trans HZ0.out hb.size); have HR := Lib.hid (own_below HR.out hb (own_block_lt HR.out)); have HBM := Lib.hid (HBM.out.keep hb HBM.out.lt); have HBZ : Hid (Whole ((w339).alloc (.cells #[.int .i64 0] 3)) (w339).heap.size [.int .i64 0] 3) := Lib.hid (Whole.new _ _ _); clear hb; generalize ((w339).alloc (.cells #[.int .i64 0] 3)) = w342 at HB HS HTO HSC HZ0 HR HBM HBZ ⊢
          refine hK.out _ _ HSC.out.cells (fun hHeld => ?_)
          clear hK K
          try simp only [List.getElem_toArray, List.getElem_cons_succ, List.getElem_cons_zero, Act.put, List.setIfInBounds_toArray, List.set_cons_zero, List.set_cons_succ]
          refine wpAnyH_ready (rs := [16]) (by kernel_rfl) (by simp) ?_
          refine AllReadyH.cons (o := _) rfl (fun K hK => ?_) AllReadyH.nil
          have hz := HZ0.out; refine step_appG (by rfl) _ _ 22 rfl wr.heap.size 27 j0 (.agg #[.slice none 0 0, .int .i64 0]) 2 32 Try.underlying22 hj jz0 jz1 jz2 rfl (by decide) v339 k xs rfl HR.out (some ⟨w14.heap.size, 0, none⟩) 1 _ _ [.slice C u ce, .int .i64 m] rfl rfl (lies_whole HBM.out) (two_cellv rfl rfl) (by unfold maxLen; omega) (by omega) hz ?_; intro v345 w345 hown hgrow; have hgrow : World.grownBy _ w345 (Value.ownBlock v339) := hgrow; have HS := Lib.hid (slc_far HS.out hgrow (fun hne ad e => far_row HR.out (HA7W.out hne ad e).2)); have HTO := Lib.hid (HTO.out.kept hgrow (Or.inr (fun e => own_types_ne HTO.out HR.out (by decide) _ rfl e.symm))); have HSC := Lib.hid (HSC.out.grown hgrow (far_row HR.out HW7.out) (far_row HR.out HWW.out)); have HB := Lib.hid (appK_more HB.out (own_lower HR.out HWB.out) HB.out.size hgrow); have HZ0 := Lib.hid (Nat.le_trans HZ0.out hgrow.size); have HBZ := Lib.hid (whole_kept HBZ.out hgrow (fun e => whole_types_ne HR.out HBZ.out (by decide) e.symm)); obtain ⟨g345, c345, rfl, _, _⟩ := hown.form (by omega); have HR := Lib.hid hown; clear hown hgrow hz
          refine hK.out _ _ HSC.out.cells (fun hHeld => ?_)
          clear hK K
          try simp only [List.getElem_toArray, List.getElem_cons_succ, List.getElem_cons_zero, Act.put, List.setIfInBounds_toArray, List.set_cons_zero, List.set_cons_succ]
          refine wpAnyH_ready (rs := [19]) (by kernel_rfl) (by simp) ?_
          refine AllReadyH.cons (o := _) rfl (fun K hK => ?_) AllReadyH.nil
          have hz := HB.out.size; refine step_appG (by rfl) _ _ 23 rfl w2.heap.size 3 i0 (.int .i64 0) 1 8 Try.underlying23 hi hz0 hz1 hz2 rfl (by decide) (.slice (some ⟨ga, 0, none⟩) T.length ca) T.length (T.map (Value.int .i64)) rfl HTO.out (some ⟨w339.heap.size, 0, none⟩) 1 _ _ [.int .i64 0] rfl rfl (lies_whole HBZ.out) (one_cellv rfl) (by unfold maxLen; omega) (by omega) hz ?_; intro v346 w346 hown hgrow; have hgrow : World.grownBy _ w346 (some ga) := hgrow; have HS := Lib.hid (slc_far HS.out hgrow (fun hne ad e h => (HA7W.out hne ad e).1 (by injection h))); have HR := Lib.hid (HR.out.kept hgrow (Or.inr (fun e => own_types_ne HTO.out HR.out (by decide) _ rfl e))); have HSC := Lib.hid (HSC.out.grown hgrow (fun e => HG7.out.1 (by injection e)) (fun e => HG7.out.2 (by injection e))); have HB := Lib.hid (appK_more HB.out HTO.out HB.out.size hgrow); have HZ0 := Lib.hid (Nat.le_trans HZ0.out hgrow.size); obtain ⟨g346, c346, rfl, _, _⟩ := hown.form (by omega); have HT2 : Hid (w346.ownsRow w2.heap.size 3 1 (.slice (some ⟨g346, 0, none⟩) (T.length + 1) c346) (T.length + 1) ((T ++ [0]).map (Value.int .i64))) := Lib.hid (by rw [List.map_append]; exact hown); clear hown hgrow hz
          refine hK.out _ _ HSC.out.cells (fun hHeld => ?_)
          clear hK K
          try simp only [List.getElem_toArray, List.getElem_cons_succ, List.getElem_cons_zero, Act.put, List.setIfInBounds_toArray, List.set_cons_zero, List.set_cons_succ]
          refine wpAnyH_ready (rs := [21]) (by kernel_rfl) (by simp) ?_
          refine AllReadyH.cons (o := _) rfl (fun K hK => ?_) AllReadyH.nil
          go_simp
          (go_at_call 14; (with_reducible refine (lproves_is (Lib.hid (HXN.out.row HB.out HR.out HLM.out)) (Lib.hid (own_lit_ints HT2.out (by simp))) (Lib.hid (Below.refl _ _)) (Lib.hid ⟨HLM.out, by simp⟩) HFM (Lib.hid ⟨HS.out, HCN.out⟩) HPV2 (by omega)).mono ?_); rintro e w99 ⟨rfl, hb⟩; have HB := Lib.hid (HB.out.trans (hb.mono HB.out.size)); have HSC := Lib.hid (HSC.out.below hb); clear hb)
          refine hK.out _ _ HSC.out.cells (fun hHeld => ?_)
          clear hK K
          try simp only [List.getElem_toArray, List.getElem_cons_succ, List.getElem_cons_zero, Act.put, List.setIfInBounds_toArray, List.set_cons_zero, List.set_cons_succ]
          refine wpAnyH_take (i := 22) (oi := _) (v := ?_) rfl (by kernel_rfl) (by kernel_rfl) (by kernel_rfl) (fun _ _ _ h => h) (Or.inl ⟨by rfl, ?_⟩) (by assumption) ?_
          rotate_left
          · (intro w hSw; (try dsimp only at hSw); go_simp <;> with_reducible rfl)
          try simp only [List.getElem_toArray, List.getElem_cons_succ, List.getElem_cons_zero, Act.put, List.setIfInBounds_toArray, List.set_cons_zero, List.set_cons_succ]
          refine wpAnyH_take (i := 23) (oi := _) (v := ?_) rfl (by kernel_rfl) (by kernel_rfl) (by kernel_rfl) (fun _ _ _ h => h) (Or.inl ⟨by rfl, ?_⟩) (by assumption) ?_
          rotate_left
          · (intro w hSw; (try dsimp only at hSw); go_simp <;> with_reducible rfl)
          try simp only [List.getElem_toArray, List.getElem_cons_succ, List.getElem_cons_zero, Act.put, List.setIfInBounds_toArray, List.set_cons_zero, List.set_cons_succ]
          refine wpAnyH_take (i := 24) (oi := _) (v := ?_) rfl (by kernel_rfl) (by kernel_rfl) (by kernel_rfl) (fun _ _ _ h => h) (Or.inl ⟨by rfl, ?_⟩) (by assumption) ?_
          rotate_left
          · (intro w hSw; (try dsimp only at hSw); go_simp <;> with_reducible rfl)
          try simp only [List.getElem_toArray, List.getElem_cons_succ, List.getElem_cons_zero, Act.put, List.setIfInBounds_toArray, List.set_cons_zero, List.set_cons_succ]
          refine wpAnyH_done (by kernel_rfl) ?_ _
          refine NoPanic.normal ?_
          exact hQ _ _ _ _ _ _ _ _ _ _ _ _ _ _ _ _ _ _ _ _ _ _ _ _ _ HB
      · go_simp
        have hb : Below (w337).heap.size w337 ((w337).alloc (.cells #[.int .i64 0] 3)) := (Below.refl _ _).alloc (Nat.le_refl _) _; have HB := Lib.hid (HB.out.trans (hb.mono HB.out.size)); have HS := Lib.hid (lslcUp IntAt.keeps HS.out hb); have HTO := Lib.hid (own_below HTO.out hb (own_block_lt HTO.out)); have HSC := Lib.hid (HSC.out.below hb); have HZ0 := Lib.hid (Nat.le_trans HZ0.out hb.size); have HR := Lib.hid (own_below HR.out hb (own_block_lt HR.out)); have HBM := Lib.hid (HBM.out.keep hb HBM.out.lt); have HBZ : Hid (Whole ((w337).alloc (.cells #[.int .i64 0] 3)) (w337).heap.size [.int .i64 0] 3) := Lib.hid (Whole.new _ _ _); clear hb; generalize ((w337).alloc (.cells #[.int .i64 0] 3)) = w340 at HB HS HTO HSC HZ0 HR HBM HBZ ⊢
        refine hK.out _ _ HSC.out.cells (fun hHeld => ?_)
        clear hK K
        try simp only [List.getElem_toArray, List.getElem_cons_succ, List.getElem_cons_zero, Act.put, List.setIfInBounds_toArray, List.set_cons_zero, List.set_cons_succ]
        refine wpAnyH_ready (rs := [13]) (by kernel_rfl) (by simp) ?_
        refine AllReadyH.cons (o := _) rfl (fun K hK => ?_) AllReadyH.nil
        have hz := HZ0.out; refine step_appG (by rfl) _ _ 22 rfl wr.heap.size 27 j0 (.agg #[.slice none 0 0, .int .i64 0]) 2 32 Try.underlying22 hj jz0 jz1 jz2 rfl (by decide) (.slice (some ⟨w302.heap.size, 0, none⟩) 0 0) 0 [] rfl HR.out _ k _ _ xs hxn rfl (HXL.out.below_to HB.out (Nat.le_refl _)) hx1 (by unfold maxLen; omega) (by omega) hz ?_; intro v347 w347 hown hgrow; have hgrow : World.grownBy _ w347 (some (w302.heap.size)) := hgrow; have HS := Lib.hid (slc_far HS.out hgrow (fun hne ad e => far_row HR.out (HA7W.out hne ad e).2)); have HTO := Lib.hid (HTO.out.kept hgrow (Or.inr (fun e => own_types_ne HTO.out HR.out (by decide) _ rfl e.symm))); have HSC := Lib.hid (HSC.out.grown hgrow (far_row HR.out HW7.out) (far_row HR.out HWW.out)); have HB := Lib.hid (appK_more HB.out (own_lower HR.out HWB.out) HB.out.size hgrow); have HZ0 := Lib.hid (Nat.le_trans HZ0.out hgrow.size); have HBM := Lib.hid (whole_kept HBM.out hgrow (fun e => HNE.out (by injection e with e; exact e.symm))); have HBZ := Lib.hid (whole_kept HBZ.out hgrow (fun e => whole_types_ne HR.out HBZ.out (by decide) e.symm)); have HR : Hid (w347.ownsRow wr.heap.size 27 2 v347 k xs) := Lib.hid (by simpa using hown); clear hown hgrow hz
        refine hK.out _ _ HSC.out.cells (fun hHeld => ?_)
        clear hK K
        try simp only [List.getElem_toArray, List.getElem_cons_succ, List.getElem_cons_zero, Act.put, List.setIfInBounds_toArray, List.set_cons_zero, List.set_cons_succ]
        refine wpAnyH_ready (rs := [16]) (by kernel_rfl) (by simp) ?_
        refine AllReadyH.cons (o := _) rfl (fun K hK => ?_) AllReadyH.nil
        have hz := HZ0.out; refine step_appG (by rfl) _ _ 22 rfl wr.heap.size 27 j0 (.agg #[.slice none 0 0, .int .i64 0]) 2 32 Try.underlying22 hj jz0 jz1 jz2 rfl (by decide) v347 k xs rfl HR.out (some ⟨w14.heap.size, 0, none⟩) 1 _ _ [.slice C u ce, .int .i64 m] rfl rfl (lies_whole HBM.out) (two_cellv rfl rfl) (by unfold maxLen; omega) (by omega) hz ?_; intro v348 w348 hown hgrow; have hgrow : World.grownBy _ w348 (Value.ownBlock v347) := hgrow; have HS := Lib.hid (slc_far HS.out hgrow (fun hne ad e => far_row HR.out (HA7W.out hne ad e).2)); have HTO := Lib.hid (HTO.out.kept hgrow (Or.inr (fun e => own_types_ne HTO.out HR.out (by decide) _ rfl e.symm))); have HSC := Lib.hid (HSC.out.grown hgrow (far_row HR.out HW7.out) (far_row HR.out HWW.out)); have HB := Lib.hid (appK_more HB.out (own_lower HR.out HWB.out) HB.out.size hgrow); have HZ0 := Lib.hid (Nat.le_trans HZ0.out hgrow.size); have HBZ := Lib.hid (whole_kept HBZ.out hgrow (fun e => whole_types_ne HR.out HBZ.out (by decide) e.symm)); obtain ⟨g348, c348, rfl, _, _⟩ := hown.form (by omega); have HR := Lib.hid hown; clear hown hgrow hz
        refine hK.out _ _ HSC.out.cells (fun hHeld => ?_)
        clear hK K
        try simp only [List.getElem_toArray, List.getElem_cons_succ, List.getElem_cons_zero, Act.put, List.setIfInBounds_toArray, List.set_cons_zero, List.set_cons_succ]
        refine wpAnyH_ready (rs := [19]) (by kernel_rfl) (by simp) ?_
        refine AllReadyH.cons (o := _) rfl (fun K hK => ?_) AllReadyH.nil
        have hz := HB.out.size; refine step_appG (by rfl) _ _ 23 rfl w2.heap.size 3 i0 (.int .i64 0) 1 8 Try.underlying23 hi hz0 hz1 hz2 rfl (by decide) (.slice (some ⟨ga, 0, none⟩) T.length ca) T.length (T.map (Value.int .i64)) rfl HTO.out (some ⟨w337.heap.size, 0, none⟩) 1 _ _ [.int .i64 0] rfl rfl (lies_whole HBZ.out) (one_cellv rfl) (by unfold maxLen; omega) (by omega) hz ?_; intro v349 w349 hown hgrow; have hgrow : World.grownBy _ w349 (some ga) := hgrow; have HS := Lib.hid (slc_far HS.out hgrow (fun hne ad e h => (HA7W.out hne ad e).1 (by injection h))); have HR := Lib.hid (HR.out.kept hgrow (Or.inr (fun e => own_types_ne HTO.out HR.out (by decide) _ rfl e))); have HSC := Lib.hid (HSC.out.grown hgrow (fun e => HG7.out.1 (by injection e)) (fun e => HG7.out.2 (by injection e))); have HB := Lib.hid (appK_more HB.out HTO.out HB.out.size hgrow); have HZ0 := Lib.hid (Nat.le_trans HZ0.out hgrow.size); obtain ⟨g349, c349, rfl, _, _⟩ := hown.form (by omega); have HT2 : Hid (w349.ownsRow w2.heap.size 3 1 (.slice (some ⟨g349, 0, none⟩) (T.length + 1) c349) (T.length + 1) ((T ++ [0]).map (Value.int .i64))) := Lib.hid (by rw [List.map_append]; exact hown); clear hown hgrow hz
        refine hK.out _ _ HSC.out.cells (fun hHeld => ?_)
        clear hK K
        try simp only [List.getElem_toArray, List.getElem_cons_succ, List.getElem_cons_zero, Act.put, List.setIfInBounds_toArray, List.set_cons_zero, List.set_cons_succ]
        refine wpAnyH_ready (rs := [21]) (by kernel_rfl) (by simp) ?_
        refine AllReadyH.cons (o := _) rfl (fun K hK => ?_) AllReadyH.nil
        go_simp
        (go_at_call 14; (with_reducible refine (lproves_is (Lib.hid (HXN.out.row HB.out HR.out HLM.out)) (Lib.hid (own_lit_ints HT2.out (by simp))) (Lib.hid (Below.refl _ _)) (Lib.hid ⟨HLM.out, by simp⟩) HFM (Lib.hid ⟨HS.out, HCN.out⟩) HPV2 (by omega)).mono ?_); rintro e w99 ⟨rfl, hb⟩; have HB := Lib.hid (HB.out.trans (hb.mono HB.out.size)); have HSC := Lib.hid (HSC.out.below hb); clear hb)
        refine hK.out _ _ HSC.out.cells (fun hHeld => ?_)
        clear hK K
        try simp only [List.getElem_toArray, List.getElem_cons_succ, List.getElem_cons_zero, Act.put, List.setIfInBounds_toArray, List.set_cons_zero, List.set_cons_succ]
        refine wpAnyH_take (i := 22) (oi := _) (v := ?_) rfl (by kernel_rfl) (by kernel_rfl) (by kernel_rfl) (fun _ _ _ h => h) (Or.inl ⟨by rfl, ?_⟩) (by assumption) ?_
        rotate_left
        · (intro w hSw; (try dsimp only at hSw); go_simp <;> with_reducible rfl)
        try simp only [List.getElem_toArray, List.getElem_cons_succ, List.getElem_cons_zero, Act.put, List.setIfInBounds_toArray, List.set_cons_zero, List.set_cons_succ]
        refine wpAnyH_take (i := 23) (oi := _) (v := ?_) rfl (by kernel_rfl) (by kernel_rfl) (by kernel_rfl) (fun _ _ _ h => h) (Or.inl ⟨by rfl, ?_⟩) (by assumption) ?_
        rotate_left
        · (intro w hSw; (try dsimp only at hSw); go_simp <;> with_reducible rfl)
        try simp only [List.getElem_toArray, List.getElem_cons_succ, List.getElem_cons_zero, Act.put, List.setIfInBounds_toArray, List.set_cons_zero, List.set_cons_succ]
        refine wpAnyH_take (i := 24) (oi := _) (v := ?_) rfl (by kernel_rfl) (by kernel_rfl) (by kernel_rfl) (fun _ _ _ h => h) (Or.inl ⟨by rfl, ?_⟩) (by assumption) ?_
        rotate_left
        · (intro w hSw; (try dsimp only at hSw); go_simp <;> with_reducible rfl)
        try simp only [List.getElem_toArray, List.getElem_cons_succ, List.getElem_cons_zero, Act.put, List.setIfInBounds_toArray, List.set_cons_zero, List.set_cons_succ]
        refine wpAnyH_done (by kernel_rfl) ?_ _
        refine NoPanic.normal ?_
        exact hQ _ _ _ _ _ _ _ _ _ _ _ _ _ _ _ _ _ _ _ _ _ _ _ _ _ HB
    · go_simp
      have hb : Below (w302).heap.size w302 ((w302).alloc (.cells #[.int .i64 0] 3)) := (Below.refl _ _).alloc (Nat.le_refl _) _; have HB := Lib.hid (HB.out.trans (hb.mono HB.out.size)); have HS := Lib.hid (lslcUp IntAt.keeps HS.out hb); have HTO := Lib.hid (own_below HTO.out hb (own_block_lt HTO.out)); have HSC := Lib.hid (HSC.out.below hb); have HZ0 := Lib.hid (Nat.le_trans HZ0.out hb.size); have HBM := Lib.hid (HBM.out.keep hb HBM.out.lt); have HBZ : Hid (Whole ((w302).alloc (.cells #[.int .i64 0] 3)) (w302).heap.size [.int .i64 0] 3) := Lib.hid (Whole.new _ _ _); clear hb; generalize ((w302).alloc (.cells #[.int .i64 0] 3)) = w338 at HB HS HTO HSC HZ0 HBM HBZ ⊢
      refine hK.out _ _ HSC.out.cells (fun hHeld => ?_)
      clear hK K
      try simp only [List.getElem_toArray, List.getElem_cons_succ, List.getElem_cons_zero, Act.put, List.setIfInBounds_toArray, List.set_cons_zero, List.set_cons_succ]
      refine wpAnyH_ready (rs := [11]) (by kernel_rfl) (by simp) ?_
      refine AllReadyH.cons (o := _) rfl (fun K hK => ?_) AllReadyH.nil
      go_simp
      have HBM0 := Lib.hid HBM.out.lt; have HZQ := HZ0; have hb : Below (w338).heap.size w338 ((w338).alloc (.cells #[] 27)) := (Below.refl _ _).alloc (Nat.le_refl _) _; have HB := Lib.hid (HB.out.trans (hb.mono HB.out.size)); have HS := Lib.hid (lslcUp IntAt.keeps HS.out hb); have HTO := Lib.hid (own_below HTO.out hb (own_block_lt HTO.out)); have HSC := Lib.hid (HSC.out.below hb); have HZ0 := Lib.hid (Nat.le_trans HZ0.out hb.size); have HBM := Lib.hid (HBM.out.keep hb HBM.out.lt); have HBZ := Lib.hid (HBZ.out.keep hb HBZ.out.lt); have HR : Hid (((w338).alloc (.cells #[] 27)).ownsRow wr.heap.size 27 2 (.slice (some ⟨(w338).heap.size, 0, none⟩) 0 0) 0 []) := Lib.hid (own_lower (own_emptyK (w338) 27 2) HZQ.out); have HNE : Hid ((w338).heap.size ≠ w14.heap.size) := Lib.hid (Nat.ne_of_gt HBM0.out); clear hb; generalize ((w338).alloc (.cells #[] 27)) = w350 at HB HS HTO HSC HZ0 HBM HBZ HR ⊢
      refine hK.out _ _ HSC.out.cells (fun hHeld => ?_)
      clear hK K
      try simp only [List.getElem_toArray, List.getElem_cons_succ, List.getElem_cons_zero, Act.put, List.setIfInBounds_toArray, List.set_cons_zero, List.set_cons_succ]
      refine wpAnyH_ready (rs := [13]) (by kernel_rfl) (by simp) ?_
      refine AllReadyH.cons (o := _) rfl (fun K hK => ?_) AllReadyH.nil
      have hz := HZ0.out; refine step_appG (by rfl) _ _ 22 rfl wr.heap.size 27 j0 (.agg #[.slice none 0 0, .int .i64 0]) 2 32 Try.underlying22 hj jz0 jz1 jz2 rfl (by decide) (.slice (some ⟨w338.heap.size, 0, none⟩) 0 0) 0 [] rfl HR.out _ k _ _ xs hxn rfl (HXL.out.below_to HB.out (Nat.le_refl _)) hx1 (by unfold maxLen; omega) (by omega) hz ?_; intro v351 w351 hown hgrow; have hgrow : World.grownBy _ w351 (some (w338.heap.size)) := hgrow; have HS := Lib.hid (slc_far HS.out hgrow (fun hne ad e => far_row HR.out (HA7W.out hne ad e).2)); have HTO := Lib.hid (HTO.out.kept hgrow (Or.inr (fun e => own_types_ne HTO.out HR.out (by decide) _ rfl e.symm))); have HSC := Lib.hid (HSC.out.grown hgrow (far_row HR.out HW7.out) (far_row HR.out HWW.out)); have HB := Lib.hid (appK_more HB.out (own_lower HR.out HWB.out) HB.out.size hgrow); have HZ0 := Lib.hid (Nat.le_trans HZ0.out hgrow.size); have HBM := Lib.hid (whole_kept HBM.out hgrow (fun e => HNE.out (by injection e with e; exact e.symm))); have HBZ := Lib.hid (whole_kept HBZ.out hgrow (fun e => whole_types_ne HR.out HBZ.out (by decide) e.symm)); have HR : Hid (w351.ownsRow wr.heap.size 27 2 v351 k xs) := Lib.hid (by simpa using hown); clear hown hgrow hz
      refine hK.out _ _ HSC.out.cells (fun hHeld => ?_)
      clear hK K
      try simp only [List.getElem_toArray, List.getElem_cons_succ, List.getElem_cons_zero, Act.put, List.setIfInBounds_toArray, List.set_cons_zero, List.set_cons_succ]
      refine wpAnyH_ready (rs := [16]) (by kernel_rfl) (by simp) ?_
      refine AllReadyH.cons (o := _) rfl (fun K hK => ?_) AllReadyH.nil
      have hz := HZ0.out; refine step_appG (by rfl) _ _ 22 rfl wr.heap.size 27 j0 (.agg #[.slice none 0 0, .int .i64 0]) 2 32 Try.underlying22 hj jz0 jz1 jz2 rfl (by decide) v351 k xs rfl HR.out (some ⟨w14.heap.size, 0, none⟩) 1 _ _ [.slice C u ce, .int .i64 m] rfl rfl (lies_whole HBM.out) (two_cellv rfl rfl) (by unfold maxLen; omega) (by omega) hz ?_; intro v352 w352 hown hgrow; have hgrow : World.grownBy _ w352 (Value.ownBlock v351) := hgrow; have HS := Lib.hid (slc_far HS.out hgrow (fun hne ad e => far_row HR.out (HA7W.out hne ad e).2)); have HTO := Lib.hid (HTO.out.kept hgrow (Or.inr (fun e => own_types_ne HTO.out HR.out (by decide) _ rfl e.symm))); have HSC := Lib.hid (HSC.out.grown hgrow (far_row HR.out HW7.out) (far_row HR.out HWW.out)); have HB := Lib.hid (appK_more HB.out (own_lower HR.out HWB.out) HB.out.size hgrow); have HZ0 := Lib.hid (Nat.le_trans HZ0.out hgrow.size); have HBZ := Lib.hid (whole_kept HBZ.out hgrow (fun e => whole_types_ne HR.out HBZ.out (by decide) e.symm)); obtain ⟨g352, c352, rfl, _, _⟩ := hown.form (by omega); have HR := Lib.hid hown; clear hown hgrow hz
      refine hK.out _ _ HSC.out.cells (fun hHeld => ?_)
      clear hK K
      try simp only [List.getElem_toArray, List.getElem_cons_succ, List.getElem_cons_zero, Act.put, List.setIfInBounds_toArray, List.set_cons_zero, List.set_cons_succ]
      refine wpAnyH_ready (rs := [19]) (by kernel_rfl) (by simp) ?_
      refine AllReadyH.cons (o := _) rfl (fun K hK => ?_) AllReadyH.nil
      have hz := HB.out.size; refine step_appG (by rfl) _ _ 23 rfl w2.heap.size 3 i0 (.int .i64 0) 1 8 Try.underlying23 hi hz0 hz1 hz2 rfl (by decide) (.slice (some ⟨ga, 0, none⟩) T.length ca) T.length (T.map (Value.int .i64)) rfl HTO.out (some ⟨w302.heap.size, 0, none⟩) 1 _ _ [.int .i64 0] rfl rfl (lies_whole HBZ.out) (one_cellv rfl) (by unfold maxLen; omega) (by omega) hz ?_; intro v353 w353 hown hgrow; have hgrow : World.grownBy _ w353 (some ga) := hgrow; have HS := Lib.hid (slc_far HS.out hgrow (fun hne ad e h => (HA7W.out hne ad e).1 (by injection h))); have HR := Lib.hid (HR.out.kept hgrow (Or.inr (fun e => own_types_ne HTO.out HR.out (by decide) _ rfl e))); have HSC := Lib.hid (HSC.out.grown hgrow (fun e => HG7.out.1 (by injection e)) (fun e => HG7.out.2 (by injection e))); have HB := Lib.hid (appK_more HB.out HTO.out HB.out.size hgrow); have HZ0 := Lib.hid (Nat.le_trans HZ0.out hgrow.size); obtain ⟨g353, c353, rfl, _, _⟩ := hown.form (by omega); have HT2 : Hid (w353.ownsRow w2.heap.size 3 1 (.slice (some ⟨g353, 0, none⟩) (T.length + 1) c353) (T.length + 1) ((T ++ [0]).map (Value.int .i64))) := Lib.hid (by rw [List.map_append]; exact hown); clear hown hgrow hz
      refine hK.out _ _ HSC.out.cells (fun hHeld => ?_)
      clear hK K
      try simp only [List.getElem_toArray, List.getElem_cons_succ, List.getElem_cons_zero, Act.put, List.setIfInBounds_toArray, List.set_cons_zero, List.set_cons_succ]
      refine wpAnyH_ready (rs := [21]) (by kernel_rfl) (by simp) ?_
      refine AllReadyH.cons (o := _) rfl (fun K hK => ?_) AllReadyH.nil
      go_simp
      (go_at_call 14; (with_reducible refine (lproves_is (Lib.hid (HXN.out.row HB.out HR.out HLM.out)) (Lib.hid (own_lit_ints HT2.out (by simp))) (Lib.hid (Below.refl _ _)) (Lib.hid ⟨HLM.out, by simp⟩) HFM (Lib.hid ⟨HS.out, HCN.out⟩) HPV2 (by omega)).mono ?_); rintro e w99 ⟨rfl, hb⟩; have HB := Lib.hid (HB.out.trans (hb.mono HB.out.size)); have HSC := Lib.hid (HSC.out.below hb); clear hb)
      refine hK.out _ _ HSC.out.cells (fun hHeld => ?_)
      clear hK K
      try simp only [List.getElem_toArray, List.getElem_cons_succ, List.getElem_cons_zero, Act.put, List.setIfInBounds_toArray, List.set_cons_zero, List.set_cons_succ]
      refine wpAnyH_take (i := 22) (oi := _) (v := ?_) rfl (by kernel_rfl) (by kernel_rfl) (by kernel_rfl) (fun _ _ _ h => h) (Or.inl ⟨by rfl, ?_⟩) (by assumption) ?_
      rotate_left
      · (intro w hSw; (try dsimp only at hSw); go_simp <;> with_reducible rfl)
      try simp only [List.getElem_toArray, List.getElem_cons_succ, List.getElem_cons_zero, Act.put, List.setIfInBounds_toArray, List.set_cons_zero, List.set_cons_succ]
      refine wpAnyH_take (i := 23) (oi := _) (v := ?_) rfl (by kernel_rfl) (by kernel_rfl) (by kernel_rfl) (fun _ _ _ h => h) (Or.inl ⟨by rfl, ?_⟩) (by assumption) ?_
      rotate_left
      · (intro w hSw; (try dsimp only at hSw); go_simp <;> with_reducible rfl)
      try simp only [List.getElem_toArray, List.getElem_cons_succ, List.getElem_cons_zero, Act.put, List.setIfInBounds_toArray, List.set_cons_zero, List.set_cons_succ]
      refine wpAnyH_take (i := 24) (oi := _) (v := ?_) rfl (by kernel_rfl) (by kernel_rfl) (by kernel_rfl) (fun _ _ _ h => h) (Or.inl ⟨by rfl, ?_⟩) (by assumption) ?_
      rotate_left
      · (intro w hSw; (try dsimp only at hSw); go_simp <;> with_reducible rfl)
      try simp only [List.getElem_toArray, List.getElem_cons_succ, List.getElem_cons_zero, Act.put, List.setIfInBounds_toArray, List.set_cons_zero, List.set_cons_succ]
      refine wpAnyH_done (by kernel_rfl) ?_ _
      refine NoPanic.normal ?_
      exact hQ _ _ _ _ _ _ _ _ _ _ _ _ _ _ _ _ _ _ _ _ _ _ _ _ _ HB
  · go_simp
    have hb : Below (w14).heap.size w14 ((w14).alloc (.cells #[.int .i64 0] 3)) := (Below.refl _ _).alloc (Nat.le_refl _) _; have HB := Lib.hid (HB.out.trans (hb.mono HB.out.size)); have HS := Lib.hid (lslcUp IntAt.keeps HS.out hb); have HTO := Lib.hid (own_below HTO.out hb (own_block_lt HTO.out)); have HSC := Lib.hid (HSC.out.below hb); have HZ0 := Lib.hid (Nat.le_trans HZ0.out hb.size); have HBZ : Hid (Whole ((w14).alloc (.cells #[.int .i64 0] 3)) (w14).heap.size [.int .i64 0] 3) := Lib.hid (Whole.new _ _ _); clear hb; generalize ((w14).alloc (.cells #[.int .i64 0] 3)) = w303 at HB HS HTO HSC HZ0 HBZ ⊢
    refine hK.out _ _ HSC.out.cells (fun hHeld => ?_)
    clear hK K
    try simp only [List.getElem_toArray, List.getElem_cons_succ, List.getElem_cons_zero, Act.put, List.setIfInBounds_toArray, List.set_cons_zero, List.set_cons_succ]
    refine wpAnyH_ready (rs := [11, 15]) (by kernel_rfl) (by simp) ?_
    refine (AllReadyH.cons (o := _) rfl (fun K hK => ?_) (AllReadyH.cons (o := _) rfl (fun K hK => ?_) AllReadyH.nil))
    · go_simp
      have HZQ := HZ0; have hb : Below (w303).heap.size w303 ((w303).alloc (.cells #[] 27)) := (Below.refl _ _).alloc (Nat.le_refl _) _; have HB := Lib.hid (HB.out.trans (hb.mono HB.out.size)); have HS := Lib.hid (lslcUp IntAt.keeps HS.out hb); have HTO := Lib.hid (own_below HTO.out hb (own_block_lt HTO.out)); have HSC := Lib.hid (HSC.out.below hb); have HZ0 := Lib.hid (Nat.le_trans HZ0.out hb.size); have HBZ := Lib.hid (HBZ.out.keep hb HBZ.out.lt); have HR : Hid (((w303).alloc (.cells #[] 27)).ownsRow wr.heap.size 27 2 (.slice (some ⟨(w303).heap.size, 0, none⟩) 0 0) 0 []) := Lib.hid (own_lower (own_emptyK (w303) 27 2) HZQ.out); clear hb; generalize ((w303).alloc (.cells #[] 27)) = w354 at HB HS HTO HSC HZ0 HBZ HR ⊢
      refine hK.out _ _ HSC.out.cells (fun hHeld => ?_)
      clear hK K
      try simp only [List.getElem_toArray, List.getElem_cons_succ, List.getElem_cons_zero, Act.put, List.setIfInBounds_toArray, List.set_cons_zero, List.set_cons_succ]
      refine wpAnyH_ready (rs := [13, 15]) (by kernel_rfl) (by simp) ?_
      refine (AllReadyH.cons (o := _) rfl (fun K hK => ?_) (AllReadyH.cons (o := _) rfl (fun K hK => ?_) AllReadyH.nil))
      · have hz := HZ0.out; refine step_appG (by rfl) _ _ 22 rfl wr.heap.size 27 j0 (.agg #[.slice none 0 0, .int .i64 0]) 2 32 Try.underlying22 hj jz0 jz1 jz2 rfl (by decide) (.slice (some ⟨w303.heap.size, 0, none⟩) 0 0) 0 [] rfl HR.out _ k _ _ xs hxn rfl (HXL.out.below_to HB.out (Nat.le_refl _)) hx1 (by unfold maxLen; omega) (by omega) hz ?_; intro v356 w356 hown hgrow; have hgrow : World.grownBy _ w356 (some (w303.heap.size)) := hgrow; have HS := Lib.hid (slc_far HS.out hgrow (fun hne ad e => far_row HR.out (HA7W.out hne ad e).2)); have HTO := Lib.hid (HTO.out.kept hgrow (Or.inr (fun e => own_types_ne HTO.out HR.out (by decide) _ rfl e.symm))); have HSC := Lib.hid (HSC.out.grown hgrow (far_row HR.out HW7.out) (far_row HR.out HWW.out)); have HB := Lib.hid (appK_more HB.out (own_lower HR.out HWB.out) HB.out.size hgrow); have HZ0 := Lib.hid (Nat.le_trans HZ0.out hgrow.size); have HBZ := Lib.hid (whole_kept HBZ.out hgrow (fun e => whole_types_ne HR.out HBZ.out (by decide) e.symm)); have HR : Hid (w356.ownsRow wr.heap.size 27 2 v356 k xs) := Lib.hid (by simpa using hown); clear hown hgrow hz
        refine hK.out _ _ HSC.out.cells (fun hHeld => ?_)
        clear hK K
        try simp only [List.getElem_toArray, List.getElem_cons_succ, List.getElem_cons_zero, Act.put, List.setIfInBounds_toArray, List.set_cons_zero, List.set_cons_succ]
        refine wpAnyH_ready (rs := [15]) (by kernel_rfl) (by simp) ?_
        refine AllReadyH.cons (o := _) rfl (fun K hK => ?_) AllReadyH.nil
        go_simp
        have hb : Below (w356).heap.size w356 ((w356).alloc (.cells #[.slice C u ce, .int .i64 m] 27)) := (Below.refl _ _).alloc (Nat.le_refl _) _; have HB := Lib.hid (HB.out.trans (hb.mono HB.out.size)); have HS := Lib.hid (lslcUp IntAt.keeps HS.out hb); have HTO := Lib.hid (own_below HTO.out hb (own_block_lt HTO.out)); have HSC := Lib.hid (HSC.out.below hb); have HZ0 := Lib.hid (Nat.le_trans HZ0.out hb.size); have HR := Lib.hid (own_below HR.out hb (own_block_lt HR.out)); have HBZ := Lib.hid (HBZ.out.keep hb HBZ.out.lt); have HBM : Hid (Whole ((w356).alloc (.cells #[.slice C u ce, .int .i64 m] 27)) (w356).heap.size [.slice C u ce, .int .i64 m] 27) := Lib.hid (Whole.new _ _ _); clear hb; generalize ((w356).alloc (.cells #[.slice C u ce, .int .i64 m] 27)) = w358 at HB HS HTO HSC HZ0 HR HBZ HBM ⊢
        refine hK.out _ _ HSC.out.cells (fun hHeld => ?_)
        clear hK K
        try simp only [List.getElem_toArray, List.getElem_cons_succ, List.getElem_cons_zero, Act.put, List.setIfInBounds_toArray, List.set_cons_zero, List.set_cons_succ]
        refine wpAnyH_ready (rs := [16]) (by kernel_rfl) (by simp) ?_
        refine AllReadyH.cons (o := _) rfl (fun K hK => ?_) AllReadyH.nil
        have hz := HZ0.out; refine step_appG (by rfl) _ _ 22 rfl wr.heap.size 27 j0 (.agg #[.slice none 0 0, .int .i64 0]) 2 32 Try.underlying22 hj jz0 jz1 jz2 rfl (by decide) v356 k xs rfl HR.out (some ⟨w356.heap.size, 0, none⟩) 1 _ _ [.slice C u ce, .int .i64 m] rfl rfl (lies_whole HBM.out) (two_cellv rfl rfl) (by unfold maxLen; omega) (by omega) hz ?_; intro v359 w359 hown hgrow; have hgrow : World.grownBy _ w359 (Value.ownBlock v356) := hgrow; have HS := Lib.hid (slc_far HS.out hgrow (fun hne ad e => far_row HR.out (HA7W.out hne ad e).2)); have HTO := Lib.hid (HTO.out.kept hgrow (Or.inr (fun e => own_types_ne HTO.out HR.out (by decide) _ rfl e.symm))); have HSC := Lib.hid (HSC.out.grown hgrow (far_row HR.out HW7.out) (far_row HR.out HWW.out)); have HB := Lib.hid (appK_more HB.out (own_lower HR.out HWB.out) HB.out.size hgrow); have HZ0 := Lib.hid (Nat.le_trans HZ0.out hgrow.size); have HBZ := Lib.hid (whole_kept HBZ.out hgrow (fun e => whole_types_ne HR.out HBZ.out (by decide) e.symm)); obtain ⟨g359, c359, rfl, _, _⟩ := hown.form (by omega); have HR := Lib.hid hown; clear hown hgrow hz
        refine hK.out _ _ HSC.out.cells (fun hHeld => ?_)
        clear hK K
        try simp only [List.getElem_toArray, List.getElem_cons_succ, List.getElem_cons_zero, Act.put, List.setIfInBounds_toArray, List.set_cons_zero, List.set_cons_succ]
        refine wpAnyH_ready (rs := [19]) (by kernel_rfl) (by simp) ?_
        refine AllReadyH.cons (o := _) rfl (fun K hK => ?_) AllReadyH.nil
        have hz := HB.out.size; refine step_appG (by rfl) _ _ 23 rfl w2.heap.size 3 i0 (.int .i64 0) 1 8 Try.underlying23 hi hz0 hz1 hz2 rfl (by decide) (.slice (some ⟨ga, 0, none⟩) T.length ca) T.length (T.map (Value.int .i64)) rfl HTO.out (some ⟨w14.heap.size, 0, none⟩) 1 _ _ [.int .i64 0] rfl rfl (lies_whole HBZ.out) (one_cellv rfl) (by unfold maxLen; omega) (by omega) hz ?_; intro v360 w360 hown hgrow; have hgrow : World.grownBy _ w360 (some ga) := hgrow; have HS := Lib.hid (slc_far HS.out hgrow (fun hne ad e h => (HA7W.out hne ad e).1 (by injection h))); have HR := Lib.hid (HR.out.kept hgrow (Or.inr (fun e => own_types_ne HTO.out HR.out (by decide) _ rfl e))); have HSC := Lib.hid (HSC.out.grown hgrow (fun e => HG7.out.1 (by injection e)) (fun e => HG7.out.2 (by injection e))); have HB := Lib.hid (appK_more HB.out HTO.out HB.out.size hgrow); have HZ0 := Lib.hid (Nat.le_trans HZ0.out hgrow.size); obtain ⟨g360, c360, rfl, _, _⟩ := hown.form (by omega); have HT2 : Hid (w360.ownsRow w2.heap.size 3 1 (.slice (some ⟨g360, 0, none⟩) (T.length + 1) c360) (T.length + 1) ((T ++ [0]).map (Value.int .i64))) := Lib.hid (by rw [List.map_append]; exact hown); clear hown hgrow hz
        refine hK.out _ _ HSC.out.cells (fun hHeld => ?_)
        clear hK K
        try simp only [List.getElem_toArray, List.getElem_cons_succ, List.getElem_cons_zero, Act.put, List.setIfInBounds_toArray, List.set_cons_zero, List.set_cons_succ]
        refine wpAnyH_ready (rs := [21]) (by kernel_rfl) (by simp) ?_
        refine AllReadyH.cons (o := _) rfl (fun K hK => ?_) AllReadyH.nil
        go_simp
        (go_at_call 14; (with_reducible refine (lproves_is (Lib.hid (HXN.out.row HB.out HR.out HLM.out)) (Lib.hid (own_lit_ints HT2.out (by simp))) (Lib.hid (Below.refl _ _)) (Lib.hid ⟨HLM.out, by simp⟩) HFM (Lib.hid ⟨HS.out, HCN.out⟩) HPV2 (by omega)).mono ?_); rintro e w99 ⟨rfl, hb⟩; have HB := Lib.hid (HB.out.trans (hb.mono HB.out.size)); have HSC := Lib.hid (HSC.out.below hb); clear hb)
        refine hK.out _ _ HSC.out.cells (fun hHeld => ?_)
        clear hK K
        try simp only [List.getElem_toArray, List.getElem_cons_succ, List.getElem_cons_zero, Act.put, List.setIfInBounds_toArray, List.set_cons_zero, List.set_cons_succ]
        refine wpAnyH_take (i := 22) (oi := _) (v := ?_) rfl (by kernel_rfl) (by kernel_rfl) (by kernel_rfl) (fun _ _ _ h => h) (Or.inl ⟨by rfl, ?_⟩) (by assumption) ?_
        rotate_left
        · (intro w hSw; (try dsimp only at hSw); go_simp <;> with_reducible rfl)
        try simp only [List.getElem_toArray, List.getElem_cons_succ, List.getElem_cons_zero, Act.put, List.setIfInBounds_toArray, List.set_cons_zero, List.set_cons_succ]
        refine wpAnyH_take (i := 23) (oi := _) (v := ?_) rfl (by kernel_rfl) (by kernel_rfl) (by kernel_rfl) (fun _ _ _ h => h) (Or.inl ⟨by rfl, ?_⟩) (by assumption) ?_
        rotate_left
        · (intro w hSw; (try dsimp only at hSw); go_simp <;> with_reducible rfl)
        try simp only [List.getElem_toArray, List.getElem_cons_succ, List.getElem_cons_zero, Act.put, List.setIfInBounds_toArray, List.set_cons_zero, List.set_cons_succ]
        refine wpAnyH_take (i := 24) (oi := _) (v := ?_) rfl (by kernel_rfl) (by kernel_rfl) (by kernel_rfl) (fun _ _ _ h => h) (Or.inl ⟨by rfl, ?_⟩) (by assumption) ?_
        rotate_left
        · (intro w hSw; (try dsimp only at hSw); go_simp <;> with_reducible rfl)
        try simp only [List.getElem_toArray, List.getElem_cons_succ, List.getElem_cons_zero, Act.put, List.setIfInBounds_toArray, List.set_cons_zero, List.set_cons_succ]
        refine wpAnyH_done (by kernel_rfl) ?_ _
        refine NoPanic.normal ?_
        exact hQ _ _ _ _ _ _ _ _ _ _ _ _ _ _ _ _ _ _ _ _ _ _ _ _ _ HB
      · go_simp
        have HR0 := Lib.hid (HR.out.lt _ rfl).2; have hb : Below (w354).heap.size w354 ((w354).alloc (.cells #[.slice C u ce, .int .i64 m] 27)) := (Below.refl _ _).alloc (Nat.le_refl _) _; have HB := Lib.hid (HB.out.trans (hb.mono HB.out.size)); have HS := Lib.hid (lslcUp IntAt.keeps HS.out hb); have HTO := Lib.hid (own_below HTO.out hb (own_block_lt HTO.out)); have HSC := Lib.hid (HSC.out.below hb); have HZ0 := Lib.hid (Nat.le_trans HZ0.out hb.size); have HR := Lib.hid (own_below HR.out hb (own_block_lt HR.out)); have HBZ := Lib.hid (HBZ.out.keep hb HBZ.out.lt); have HBM : Hid (Whole ((w354).alloc (.cells #[.slice C u ce, .int .i64 m] 27)) (w354).heap.size [.slice C u ce, .int .i64 m] 27) := Lib.hid (Whole.new _ _ _); have HNE : Hid (w303.heap.size ≠ (w354).heap.size) := Lib.hid (Nat.ne_of_lt HR0.out); clear hb; generalize ((w354).alloc (.cells #[.slice C u ce, .int .i64 m] 27)) = w357 at HB HS HTO HSC HZ0 HR HBZ HBM ⊢
        refine hK.out _ _ HSC.out.cells (fun hHeld => ?_)
        clear hK K
        try simp only [List.getElem_toArray, List.getElem_cons_succ, List.getElem_cons_zero, Act.put, List.setIfInBounds_toArray, List.set_cons_zero, List.set_cons_succ]
        refine wpAnyH_ready (rs := [13]) (by kernel_rfl) (by simp) ?_
        refine AllReadyH.cons (o := _) rfl (fun K hK => ?_) AllReadyH.nil
        have hz := HZ0.out; refine step_appG (by rfl) _ _ 22 rfl wr.heap.size 27 j0 (.agg #[.slice none 0 0, .int .i64 0]) 2 32 Try.underlying22 hj jz0 jz1 jz2 rfl (by decide) (.slice (some ⟨w303.heap.size, 0, none⟩) 0 0) 0 [] rfl HR.out _ k _ _ xs hxn rfl (HXL.out.below_to HB.out (Nat.le_refl _)) hx1 (by unfold maxLen; omega) (by omega) hz ?_; intro v361 w361 hown hgrow; have hgrow : World.grownBy _ w361 (some (w303.heap.size)) := hgrow; have HS := Lib.hid (slc_far HS.out hgrow (fun hne ad e => far_row HR.out (HA7W.out hne ad e).2)); have HTO := Lib.hid (HTO.out.kept hgrow (Or.inr (fun e => own_types_ne HTO.out HR.out (by decide) _ rfl e.symm))); have HSC := Lib.hid (HSC.out.grown hgrow (far_row HR.out HW7.out) (far_row HR.out HWW.out)); have HB := Lib.hid (appK_more HB.out (own_lower HR.out HWB.out) HB.out.size hgrow); have HZ0 := Lib.hid (Nat.le_trans HZ0.out hgrow.size); have HBM := Lib.hid (whole_kept HBM.out hgrow (fun e => HNE.out (by injection e with e; exact e.symm))); have HBZ := Lib.hid (whole_kept HBZ.out hgrow (fun e => whole_types_ne HR.out HBZ.out (by decide) e.symm)); have HR : Hid (w361.ownsRow wr.heap.size 27 2 v361 k xs) := Lib.hid (by simpa using hown); clear hown hgrow hz
        refine hK.out _ _ HSC.out.cells (fun hHeld => ?_)
        clear hK K
        try simp only [List.getElem_toArray, List.getElem_cons_succ, List.getElem_cons_zero, Act.put, List.setIfInBounds_toArray, List.set_cons_zero, List.set_cons_succ]
        refine wpAnyH_ready (rs := [16]) (by kernel_rfl) (by simp) ?_
        refine AllReadyH.cons (o := _) rfl (fun K hK => ?_) AllReadyH.nil
        have hz := HZ0.out; refine step_appG (by rfl) _ _ 22 rfl wr.heap.size 27 j0 (.agg #[.slice none 0 0, .int .i64 0]) 2 32 Try.underlying22 hj jz0 jz1 jz2 rfl (by decide) v361 k xs rfl HR.out (some ⟨w354.heap.size, 0, none⟩) 1 _ _ [.slice C u ce, .int .i64 m] rfl rfl (lies_whole HBM.out) (two_cellv rfl rfl) (by unfold maxLen; omega) (by omega) hz ?_; intro v362 w362 hown hgrow; have hgrow : World.grownBy _ w362 (Value.ownBlock v361) := hgrow; have HS := Lib.hid (slc_far HS.out hgrow (fun hne ad e => far_row HR.out (HA7W.out hne ad e).2)); have HTO := Lib.hid (HTO.out.kept hgrow (Or.inr (fun e => own_types_ne HTO.out HR.out (by decide) _ rfl e.symm))); have HSC := Lib.hid (HSC.out.grown hgrow (far_row HR.out HW7.out) (far_row HR.out HWW.out)); have HB := Lib.hid (appK_more HB.out (own_lower HR.out HWB.out) HB.out.size hgrow); have HZ0 := Lib.hid (Nat.le_trans HZ0.out hgrow.size); have HBZ := Lib.hid (whole_kept HBZ.out hgrow (fun e => whole_types_ne HR.out HBZ.out (by decide) e.symm)); obtain ⟨g362, c362, rfl, _, _⟩ := hown.form (by omega); have HR := Lib.hid hown; clear hown hgrow hz
        refine hK.out _ _ HSC.out.cells (fun hHeld => ?_)
        clear hK K
        try simp only [List.getElem_toArray, List.getElem_cons_succ, List.getElem_cons_zero, Act.put, List.setIfInBounds_toArray, List.set_cons_zero, List.set_cons_succ]
        refine wpAnyH_ready (rs := [19]) (by kernel_rfl) (by simp) ?_
        refine AllReadyH.cons (o := _) rfl (fun K hK => ?_) AllReadyH.nil
        have hz := HB.out.size; refine step_appG (by rfl) _ _ 23 rfl w2.heap.size 3 i0 (.int .i64 0) 1 8 Try.underlying23 hi hz0 hz1 hz2 rfl (by decide) (.slice (some ⟨ga, 0, none⟩) T.length ca) T.length (T.map (Value.int .i64)) rfl HTO.out (some ⟨w14.heap.size, 0, none⟩) 1 _ _ [.int .i64 0] rfl rfl (lies_whole HBZ.out) (one_cellv rfl) (by unfold maxLen; omega) (by omega) hz ?_; intro v363 w363 hown hgrow; have hgrow : World.grownBy _ w363 (some ga) := hgrow; have HS := Lib.hid (slc_far HS.out hgrow (fun hne ad e h => (HA7W.out hne ad e).1 (by injection h))); have HR := Lib.hid (HR.out.kept hgrow (Or.inr (fun e => own_types_ne HTO.out HR.out (by decide) _ rfl e))); have HSC := Lib.hid (HSC.out.grown hgrow (fun e => HG7.out.1 (by injection e)) (fun e => HG7.out.2 (by injection e))); have HB := Lib.hid (appK_more HB.out HTO.out HB.out.size hgrow); have HZ0 := Lib.hid (Nat.le_trans HZ0.out hgrow.size); obtain ⟨g363, c363, rfl, _, _⟩ := hown.form (by omega); have HT2 : Hid (w363.ownsRow w2.heap.size 3 1 (.slice (some ⟨g363, 0, none⟩) (T.length + 1) c363) (T.length + 1) ((T ++ [0]).map (Value.int .i64))) := Lib.hid (by rw [List.map_append]; exact hown); clear hown hgrow hz
        refine hK.out _ _ HSC.out.cells (fun hHeld => ?_)
        clear hK K
        try simp only [List.getElem_toArray, List.getElem_cons_succ, List.getElem_cons_zero, Act.put, List.setIfInBounds_toArray, List.set_cons_zero, List.set_cons_succ]
        refine wpAnyH_ready (rs := [21]) (by kernel_rfl) (by simp) ?_
        refine AllReadyH.cons (o := _) rfl (fun K hK => ?_) AllReadyH.nil
        go_simp
        (go_at_call 14; (with_reducible refine (lproves_is (Lib.hid (HXN.out.row HB.out HR.out HLM.out)) (Lib.hid (own_lit_ints HT2.out (by simp))) (Lib.hid (Below.refl _ _)) (Lib.hid ⟨HLM.out, by simp⟩) HFM (Lib.hid ⟨HS.out, HCN.out⟩) HPV2 (by omega)).mono ?_); rintro e w99 ⟨rfl, hb⟩; have HB := Lib.hid (HB.out.trans (hb.mono HB.out.size)); have HSC := Lib.hid (HSC.out.below hb); clear hb)
        refine hK.out _ _ HSC.out.cells (fun hHeld => ?_)
        clear hK K
        try simp only [List.getElem_toArray, List.getElem_cons_succ, List.getElem_cons_zero, Act.put, List.setIfInBounds_toArray, List.set_cons_zero, List.set_cons_succ]
        refine wpAnyH_take (i := 22) (oi := _) (v := ?_) rfl (by kernel_rfl) (by kernel_rfl) (by kernel_rfl) (fun _ _ _ h => h) (Or.inl ⟨by rfl, ?_⟩) (by assumption) ?_
        rotate_left
        · (intro w hSw; (try dsimp only at hSw); go_simp <;> with_reducible rfl)
        try simp only [List.getElem_toArray, List.getElem_cons_succ, List.getElem_cons_zero, Act.put, List.setIfInBounds_toArray, List.set_cons_zero, List.set_cons_succ]
        refine wpAnyH_take (i := 23) (oi := _) (v := ?_) rfl (by kernel_rfl) (by kernel_rfl) (by kernel_rfl) (fun _ _ _ h => h) (Or.inl ⟨by rfl, ?_⟩) (by assumption) ?_
        rotate_left
        · (intro w hSw; (try dsimp only at hSw); go_simp <;> with_reducible rfl)
        try simp only [List.getElem_toArray, List.getElem_cons_succ, List.getElem_cons_zero, Act.put, List.setIfInBounds_toArray, List.set_cons_zero, List.set_cons_succ]
        refine wpAnyH_take (i := 24) (oi := _) (v := ?_) rfl (by kernel_rfl) (by kernel_rfl) (by kernel_rfl) (fun _ _ _ h => h) (Or.inl ⟨by rfl, ?_⟩) (by assumption) ?_
        rotate_left
        · (intro w hSw; (try dsimp only at hSw); go_simp <;> with_reducible rfl)
        try simp only [List.getElem_toArray, List.getElem_cons_succ, List.getElem_cons_zero, Act.put, List.setIfInBounds_toArray, List.set_cons_zero, List.set_cons_succ]
        refine wpAnyH_done (by kernel_rfl) ?_ _
        refine NoPanic.normal ?_
        exact hQ _ _ _ _ _ _ _ _ _ _ _ _ _ _ _ _ _ _ _ _ _ _ _ _ _ HB
    · go_simp
      have hb : Below (w303).heap.size w303 ((w303).alloc (.cells #[.slice C u ce, .int .i64 m] 27)) := (Below.refl _ _).alloc (Nat.le_refl _) _; have HB := Lib.hid (HB.out.trans (hb.mono HB.out.size)); have HS := Lib.hid (lslcUp IntAt.keeps HS.out hb); have HTO := Lib.hid (own_below HTO.out hb (own_block_lt HTO.out)); have HSC := Lib.hid (HSC.out.below hb); have HZ0 := Lib.hid (Nat.le_trans HZ0.out hb.size); have HBZ := Lib.hid (HBZ.out.keep hb HBZ.out.lt); have HBM : Hid (Whole ((w303).alloc (.cells #[.slice C u ce, .int .i64 m] 27)) (w303).heap.size [.slice C u ce, .int .i64 m] 27) := Lib.hid (Whole.new _ _ _); clear hb; generalize ((w303).alloc (.cells #[.slice C u ce, .int .i64 m] 27)) = w355 at HB HS HTO HSC HZ0 HBZ HBM ⊢
      refine hK.out _ _ HSC.out.cells (fun hHeld => ?_)
      clear hK K
      try simp only [List.getElem_toArray, List.getElem_cons_succ, List.getElem_cons_zero, Act.put, List.setIfInBounds_toArray, List.set_cons_zero, List.set_cons_succ]
      refine wpAnyH_ready (rs := [11]) (by kernel_rfl) (by simp) ?_
      refine AllReadyH.cons (o := _) rfl (fun K hK => ?_) AllReadyH.nil
      go_simp
      have HBM0 := Lib.hid HBM.out.lt; have HZQ := HZ0; have hb : Below (w355).heap.size w355 ((w355).alloc (.cells #[] 27)) := (Below.refl _ _).alloc (Nat.le_refl _) _; have HB := Lib.hid (HB.out.trans (hb.mono HB.out.size)); have HS := Lib.hid (lslcUp IntAt.keeps HS.out hb); have HTO := Lib.hid (own_below HTO.out hb (own_block_lt HTO.out)); have HSC := Lib.hid (HSC.out.below hb); have HZ0 := Lib.hid (Nat.le_trans HZ0.out hb.size); have HBM := Lib.hid (HBM.out.keep hb HBM.out.lt); have HBZ := Lib.hid (HBZ.out.keep hb HBZ.out.lt); have HR : Hid (((w355).alloc (.cells #[] 27)).ownsRow wr.heap.size 27 2 (.slice (some ⟨(w355).heap.size, 0, none⟩) 0 0) 0 []) := Lib.hid (own_lower (own_emptyK (w355) 27 2) HZQ.out); have HNE : Hid ((w355).heap.size ≠ w303.heap.size) := Lib.hid (Nat.ne_of_gt HBM0.out); clear hb; generalize ((w355).alloc (.cells #[] 27)) = w364 at HB HS HTO HSC HZ0 HBM HBZ HR ⊢
      refine hK.out _ _ HSC.out.cells (fun hHeld => ?_)
      clear hK K
      try simp only [List.getElem_toArray, List.getElem_cons_succ, List.getElem_cons_zero, Act.put, List.setIfInBounds_toArray, List.set_cons_zero, List.set_cons_succ]
      refine wpAnyH_ready (rs := [13]) (by kernel_rfl) (by simp) ?_
      refine AllReadyH.cons (o := _) rfl (fun K hK => ?_) AllReadyH.nil
      have hz := HZ0.out; refine step_appG (by rfl) _ _ 22 rfl wr.heap.size 27 j0 (.agg #[.slice none 0 0, .int .i64 0]) 2 32 Try.underlying22 hj jz0 jz1 jz2 rfl (by decide) (.slice (some ⟨w355.heap.size, 0, none⟩) 0 0) 0 [] rfl HR.out _ k _ _ xs hxn rfl (HXL.out.below_to HB.out (Nat.le_refl _)) hx1 (by unfold maxLen; omega) (by omega) hz ?_; intro v365 w365 hown hgrow; have hgrow : World.grownBy _ w365 (some (w355.heap.size)) := hgrow; have HS := Lib.hid (slc_far HS.out hgrow (fun hne ad e => far_row HR.out (HA7W.out hne ad e).2)); have HTO := Lib.hid (HTO.out.kept hgrow (Or.inr (fun e => own_types_ne HTO.out HR.out (by decide) _ rfl e.symm))); have HSC := Lib.hid (HSC.out.grown hgrow (far_row HR.out HW7.out) (far_row HR.out HWW.out)); have HB := Lib.hid (appK_more HB.out (own_lower HR.out HWB.out) HB.out.size hgrow); have HZ0 := Lib.hid (Nat.le_trans HZ0.out hgrow.size); have HBM := Lib.hid (whole_kept HBM.out hgrow (fun e => HNE.out (by injection e with e; exact e.symm))); have HBZ := Lib.hid (whole_kept HBZ.out hgrow (fun e => whole_types_ne HR.out HBZ.out (by decide) e.symm)); have HR : Hid (w365.ownsRow wr.heap.size 27 2 v365 k xs) := Lib.hid (by simpa using hown); clear hown hgrow hz
      refine hK.out _ _ HSC.out.cells (fun hHeld => ?_)
      clear hK K
      try simp only [List.getElem_toArray, List.getElem_cons_succ, List.getElem_cons_zero, Act.put, List.setIfInBounds_toArray, List.set_cons_zero, List.set_cons_succ]
      refine wpAnyH_ready (rs := [16]) (by kernel_rfl) (by simp) ?_
      refine AllReadyH.cons (o := _) rfl (fun K hK => ?_) AllReadyH.nil
      have hz := HZ0.out; refine step_appG (by rfl) _ _ 22 rfl wr.heap.size 27 j0 (.agg #[.slice none 0 0, .int .i64 0]) 2 32 Try.underlying22 hj jz0 jz1 jz2 rfl (by decide) v365 k xs rfl HR.out (some ⟨w303.heap.size, 0, none⟩) 1 _ _ [.slice C u ce, .int .i64 m] rfl rfl (lies_whole HBM.out) (two_cellv rfl rfl) (by unfold maxLen; omega) (by omega) hz ?_; intro v366 w366 hown hgrow; have hgrow : World.grownBy _ w366 (Value.ownBlock v365) := hgrow; have HS := Lib.hid (slc_far HS.out hgrow (fun hne ad e => far_row HR.out (HA7W.out hne ad e).2)); have HTO := Lib.hid (HTO.out.kept hgrow (Or.inr (fun e => own_types_ne HTO.out HR.out (by decide) _ rfl e.symm))); have HSC := Lib.hid (HSC.out.grown hgrow (far_row HR.out HW7.out) (far_row HR.out HWW.out)); have HB := Lib.hid (appK_more HB.out (own_lower HR.out HWB.out) HB.out.size hgrow); have HZ0 := Lib.hid (Nat.le_trans HZ0.out hgrow.size); have HBZ := Lib.hid (whole_kept HBZ.out hgrow (fun e => whole_types_ne HR.out HBZ.out (by decide) e.symm)); obtain ⟨g366, c366, rfl, _, _⟩ := hown.form (by omega); have HR := Lib.hid hown; clear hown hgrow hz
      refine hK.out _ _ HSC.out.cells (fun hHeld => ?_)
      clear hK K
      try simp only [List.getElem_toArray, List.getElem_cons_succ, List.getElem_cons_zero, Act.put, List.setIfInBounds_toArray, List.set_cons_zero, List.set_cons_succ]
      refine wpAnyH_ready (rs := [19]) (by kernel_rfl) (by simp) ?_
      refine AllReadyH.cons (o := _) rfl (fun K hK => ?_) AllReadyH.nil
      have hz := HB.out.size; refine step_appG (by rfl) _ _ 23 rfl w2.heap.size 3 i0 (.int .i64 0) 1 8 Try.underlying23 hi hz0 hz1 hz2 rfl (by decide) (.slice (some ⟨ga, 0, none⟩) T.length ca) T.length (T.map (Value.int .i64)) rfl HTO.out (some ⟨w14.heap.size, 0, none⟩) 1 _ _ [.int .i64 0] rfl rfl (lies_whole HBZ.out) (one_cellv rfl) (by unfold maxLen; omega) (by omega) hz ?_; intro v367 w367 hown hgrow; have hgrow : World.grownBy _ w367 (some ga) := hgrow; have HS := Lib.hid (slc_far HS.out hgrow (fun hne ad e h => (HA7W.out hne ad e).1 (by injection h))); have HR := Lib.hid (HR.out.kept hgrow (Or.inr (fun e => own_types_ne HTO.out HR.out (by decide) _ rfl e))); have HSC := Lib.hid (HSC.out.grown hgrow (fun e => HG7.out.1 (by injection e)) (fun e => HG7.out.2 (by injection e))); have HB := Lib.hid (appK_more HB.out HTO.out HB.out.size hgrow); have HZ0 := Lib.hid (Nat.le_trans HZ0.out hgrow.size); obtain ⟨g367, c367, rfl, _, _⟩ := hown.form (by omega); have HT2 : Hid (w367.ownsRow w2.heap.size 3 1 (.slice (some ⟨g367, 0, none⟩) (T.length + 1) c367) (T.length + 1) ((T ++ [0]).map (Value.int .i64))) := Lib.hid (by rw [List.map_append]; exact hown); clear hown hgrow hz
      refine hK.out _ _ HSC.out.cells (fun hHeld => ?_)
      clear hK K
      try simp only [List.getElem_toArray, List.getElem_cons_succ, List.getElem_cons_zero, Act.put, List.setIfInBounds_toArray, List.set_cons_zero, List.set_cons_succ]
      refine wpAnyH_ready (rs := [21]) (by kernel_rfl) (by simp) ?_
      refine AllReadyH.cons (o := _) rfl (fun K hK => ?_) AllReadyH.nil
      go_simp
      (go_at_call 14; (with_reducible refine (lproves_is (Lib.hid (HXN.out.row HB.out HR.out HLM.out)) (Lib.hid (own_lit_ints HT2.out (by simp))) (Lib.hid (Below.refl _ _)) (Lib.hid ⟨HLM.out, by simp⟩) HFM (Lib.hid ⟨HS.out, HCN.out⟩) HPV2 (by omega)).mono ?_); rintro e w99 ⟨rfl, hb⟩; have HB := Lib.hid (HB.out.trans (hb.mono HB.out.size)); have HSC := Lib.hid (HSC.out.below hb); clear hb)
      refine hK.out _ _ HSC.out.cells (fun hHeld => ?_)
      clear hK K
      try simp only [List.getElem_toArray, List.getElem_cons_succ, List.getElem_cons_zero, Act.put, List.setIfInBounds_toArray, List.set_cons_zero, List.set_cons_succ]
      refine wpAnyH_take (i := 22) (oi := _) (v := ?_) rfl (by kernel_rfl) (by kernel_rfl) (by kernel_rfl) (fun _ _ _ h => h) (Or.inl ⟨by rfl, ?_⟩) (by assumption) ?_
      rotate_left
      · (intro w hSw; (try dsimp only at hSw); go_simp <;> with_reducible rfl)
      try simp only [List.getElem_toArray, List.getElem_cons_succ, List.getElem_cons_zero, Act.put, List.setIfInBounds_toArray, List.set_cons_zero, List.set_cons_succ]
      refine wpAnyH_take (i := 23) (oi := _) (v := ?_) rfl (by kernel_rfl) (by kernel_rfl) (by kernel_rfl) (fun _ _ _ h => h) (Or.inl ⟨by rfl, ?_⟩) (by assumption) ?_
      rotate_left
      · (intro w hSw; (try dsimp only at hSw); go_simp <;> with_reducible rfl)
      try simp only [List.getElem_toArray, List.getElem_cons_succ, List.getElem_cons_zero, Act.put, List.setIfInBounds_toArray, List.set_cons_zero, List.set_cons_succ]
      refine wpAnyH_take (i := 24) (oi := _) (v := ?_) rfl (by kernel_rfl) (by kernel_rfl) (by kernel_rfl) (fun _ _ _ h => h) (Or.inl ⟨by rfl, ?_⟩) (by assumption) ?_
      rotate_left
      · (intro w hSw; (try dsimp only at hSw); go_simp <;> with_reducible rfl)
      try simp only [List.getElem_toArray, List.getElem_cons_succ, List.getElem_cons_zero, Act.put, List.setIfInBounds_toArray, List.set_cons_zero, List.set_cons_succ]
      refine wpAnyH_done (by kernel_rfl) ?_ _
      refine NoPanic.normal ?_
      exact hQ _ _ _ _ _ _ _ _ _ _ _ _ _ _ _ _ _ _ _ _ _ _ _ _ _ HB

theorem take_nextA {α : Type} {l : List α} {k : Nat} (hk : k < l.length) : l.take (k + 1) = l.take k ++ [l[k]] := by
  rw [List.take_add_one, List.getElem?_eq_getElem hk]
  rfl
set_option maxHeartbeats 12800000 in
theorem linAdds_any (list : List Inq) (ts W : List Int) (m : Int) (A B C : Option Addr) (c d ce : Nat) (w : World) (hl : SlcIs IneqAt 2 w w.heap.size A c list) (ht : Lies w w.heap.size B (ts.map (Value.int .u8))) (htn : ts.length ≤ 9223372036854775807) (htr : ∀ t ∈ ts, 0 ≤ t ∧ t ≤ 255) (hw : SlcIs IntAt 1 w w.heap.size C ce W) :
    Calls Try.prog 7 #[.slice A list.length c, .slice B ts.length d, .agg #[.slice C W.length ce, .int .i64 m]] w fun e w' => e = .returned (.bool true) ∧ Below w.heap.size w w' := by
  obtain ⟨n, hn⟩ : ∃ n, list.length = n := ⟨_, rfl⟩
  obtain ⟨nt, hnt⟩ : ∃ n, ts.length = n := ⟨_, rfl⟩
  obtain ⟨nw, hnw⟩ : ∃ n, W.length = n := ⟨_, rfl⟩
  obtain ⟨hc, hb, hz⟩ := one_inq w (.slice C nw ce) (.int .i64 m)
  obtain ⟨i0, hi, hz0, hz1, hz2⟩ := info_parts14 info_int14
  obtain ⟨j0, hj, jz0, jz1, jz2⟩ := info_parts14 info_inq
  have HCW := Lib.hid hc
  have HW := Lib.hid hb
  have HZ := Lib.hid hz
  have H1 := Lib.hid (lslcUp IneqAt.keeps hl hb)
  have HT := Lib.hid ((ht.below hb).more hb.size)
  have HTR := Lib.hid htr
  have HWS : Hid (SlcIs IntAt 1 (w.alloc (.cells #[.slice C nw ce, .int .i64 m] 27)) (w.alloc (.cells #[.slice C nw ce, .int .i64 m] 27)).heap.size C ce W ∧ W.length = nw) := Lib.hid ⟨lslcUp IntAt.keeps hw hb, hnw⟩
  have hl1 := hl.le
  have hl2 := hl.cap
  have hw1 := hw.le
  have hw2 := hw.cap
  rw [hn] at hl1
  rw [hnt] at htn
  rw [hnw] at hw1
  have HLN := Lib.hid hn
  have HTN := Lib.hid hnt
  have HWN := Lib.hid hnw
  obtain ⟨r, hr⟩ : ∃ r, fewQ list = r := ⟨_, rfl⟩
  have HF := Lib.hid hr
  rw [hn, hnt, hnw]
  clear hl ht hw htr hn hnt hnw hr hc hb hz
  go_enter Try.func7, Try.ntmps7
  go_upto_region 1 with fail
  generalize w.alloc (.cells #[.slice C nw ce, .int .i64 m] 27) = w2 at *
  have HX : Hid (Below w2.heap.size w2 w2) := Lib.hid (Below.refl _ _)
  cases r
  · go_wp2_with (first | (go_at_call 9; (with_reducible refine (few14_is (Lib.hid (lslcUp IneqAt.keeps H1.out HX.out)) HLN HF).mono ?_); rintro e wf ⟨rfl, he⟩; subst he) | (go_at_call 10; (with_reducible refine (linAwake_any _).mono ?_); rintro e wk ⟨rfl, hb⟩; have HX := Lib.hid (HX.out.trans (hb.mono HX.out.size)); clear hb))
    go_ret
    exact ⟨by first | rfl | simp, HW.out.trans (HX.out.mono HW.out.size)⟩
  by_cases hn10 : (n : Int) > 10
  · go_wp2_with (first | (go_at_call 9; (with_reducible refine (few14_is (Lib.hid (lslcUp IneqAt.keeps H1.out HX.out)) HLN HF).mono ?_); rintro e wf ⟨rfl, he⟩; subst he) | (go_at_call 10; (with_reducible refine (linAwake_any _).mono ?_); rintro e wk ⟨rfl, hb⟩; have HX := Lib.hid (HX.out.trans (hb.mono HX.out.size)); clear hb))
    go_ret
    exact ⟨by first | rfl | simp, HW.out.trans (HX.out.mono HW.out.size)⟩
  by_cases hnn : (nt : Int) < (n : Int)
  · go_wp2_with (first | (go_at_call 9; (with_reducible refine (few14_is (Lib.hid (lslcUp IneqAt.keeps H1.out HX.out)) HLN HF).mono ?_); rintro e wf ⟨rfl, he⟩; subst he) | (go_at_call 10; (with_reducible refine (linAwake_any _).mono ?_); rintro e wk ⟨rfl, hb⟩; have HX := Lib.hid (HX.out.trans (hb.mono HX.out.size)); clear hb))
    go_ret
    exact ⟨by first | rfl | simp, HW.out.trans (HX.out.mono HW.out.size)⟩
  go_upto_region 5 with (first | (go_at_call 9; (with_reducible refine (few14_is (Lib.hid (lslcUp IneqAt.keeps H1.out HX.out)) HLN HF).mono ?_); rintro e wf ⟨rfl, he⟩; subst he))
  generalize decide (nt < n) = bb
  generalize decide (10 < (n : Int)) = bc
  have HD0 := Lib.hid (duo_new w2)
  have HX := Lib.hid (HX.out.trans (((Below.refl w2.heap.size w2).alloc (Nat.le_refl _) (.cells #[] 3)).alloc (by simp) (.cells #[] 3)))
  have hB2 : w2.heap.size ≤ w2.heap.size := Nat.le_refl _
  go_loopw [7, 8, 9] (fun t u i wr => ∃ (k ga ca : Nat) (T : List Int) (gb cb : Nat) (U : List Int), k ≤ n ∧ i = .int .i64 k ∧ t = .slice (some ⟨ga, 0, none⟩) T.length ca ∧ u = .slice (some ⟨gb, 0, none⟩) U.length cb ∧ Hid (T = ts.take k ∧ U = (ts.take k).map (2 * ·)) ∧ Hid (Duo wr w2.heap.size (ga, ca) T (gb, cb) U none none) ∧ Hid (Below w2.heap.size w2 wr) ∧ Hid (∀ q ∈ list.take k, smallB nw 1099511627776 1099511627776 q = true)) (fun _ _ i _ => n - (intOf i).toNat)
  case atStart => exact ⟨0, w2.heap.size, 0, [], w2.heap.size + 1, 0, [], Nat.zero_le _, rfl, rfl, rfl, Lib.hid ⟨rfl, rfl⟩, HD0, HX, Lib.hid (by simp)⟩
  case round =>
    clear HD0 HX
    obtain ⟨k, ga, ca, T, gb, cb, U, hk, rfl, rfl, rfl, HTU, HD, HX, HALL⟩ := hrel
    have hsz := HX.out.size
    have HBE : Hid (∀ Wd, Below w2.heap.size w2 Wd → Wd.cell? ⟨w.heap.size, 0, none⟩ = some (.slice C nw ce) ∧ Wd.cell? ⟨w.heap.size, 1, none⟩ = some (.int .i64 m)) := Lib.hid (fun Wd hW => ⟨(HCW.out.keep hW HZ.out) 0 _ rfl, (HCW.out.keep hW HZ.out) 1 _ rfl⟩)
    obtain ⟨e0, e1⟩ := HBE.out _ HX.out
    by_cases hlt : k < n
    · obtain ⟨ad, Aq, cq, rfl, hab, p0, p1, hq⟩ := inq_at H1.out (k := k) (by rw [HLN.out]; exact hlt)
      have HTK := Lib.hid (take_nextA (l := list) (k := k) (by rw [HLN.out]; exact hlt))
      generalize list[k]'(by rw [HLN.out]; exact hlt) = q at *
      obtain ⟨Q, mq⟩ := q
      dsimp only at p0 p1 hq
      obtain ⟨nc, hnc⟩ : ∃ x, Q.length = x := ⟨_, rfl⟩
      rw [hnc] at p0
      have HQN := Lib.hid hnc
      have HQ := Lib.hid hq
      have hq1 := hq.le
      have hq2 := hq.cap
      rw [hnc] at hq1
      clear hnc hq
      have HP : Hid (∀ Wd, Below w2.heap.size w2 Wd → Wd.cell? (ad.add (k * 2)) = some (.slice Aq nc cq) ∧ Wd.cell? (off_ (ad.add (k * 2)) 1) = some (.int .i64 mq)) := Lib.hid (fun Wd hW => ⟨(hW.cell (p := ad.add (k * 2)) (by rw [addr_add_block]; exact hab)).trans p0, (hW.cell (p := off_ (ad.add (k * 2)) 1) (by show (ad.add (k * 2)).block < _; rw [addr_add_block]; exact hab)).trans p1⟩)
      clear p0 p1 hab
      obtain ⟨bt, rfl, hbt, pt⟩ := HT.out k (.int .u8 (ts[k]'(by rw [HTN.out]; omega))) (by rw [List.getElem?_map, List.getElem?_eq_getElem (by rw [HTN.out]; omega)]; rfl)
      have HTX : Hid (ts.take (k + 1) = ts.take k ++ [ts[k]'(by rw [HTN.out]; omega)]) := Lib.hid (take_nextA _)
      have htlen : T.length = k := by rw [HTU.out.1, List.length_take, HTN.out]; omega
      have hulen : U.length = k := by rw [HTU.out.2, List.length_map, List.length_take, HTN.out]; omega
      have hxr := HTR.out (ts[k]'(by rw [HTN.out]; omega)) (List.getElem_mem _)
      generalize ts[k]'(by rw [HTN.out]; omega) = x at *
      obtain ⟨xr0, xr1⟩ := hxr
      have HKS : Hid (∀ Wd, Below w2.heap.size w2 Wd → Wd.cell? (bt.add k) = some (.int .u8 x)) := Lib.hid (fun Wd hW => (hW.cell (p := bt.add k) (by rw [addr_add_block]; exact hbt)).trans pt)
      have hTl : T.length ≤ 10 := by omega
      have hUl : U.length ≤ 10 := by omega
      clear pt hbt htlen hulen
      obtain ⟨p0, p1⟩ := HP.out _ HX.out
      by_cases hnq : nc = nw
      rotate_left
      · have hne : ((nc : Int) != (nw : Int)) = true := bne_iff_ne.mpr (by omega)
        go_upto_region 7 with fail
        have HX := Lib.hid HX.out.drew
        have HD := Lib.hid (HD.out.below (Below.refl _ _).drew)
        refine wp_region_noPanic ?_
        refine wp_region_held_drew (S := fun w' => w'.cell? (ad.add (k * 2)) = some (.slice Aq nc cq) ∧ w'.cell? (off_ (ad.add (k * 2)) 1) = some (.int .i64 mq) ∧ w'.cell? ⟨w.heap.size, 0, none⟩ = some (.slice C nw ce)) (by kernel_rfl) ⟨(HP.out _ HX.out).1, (HP.out _ HX.out).2, (HBE.out _ HX.out).1⟩ (fun hHeld => ?_)
        generalize wr.drew = w8 at HX HD hHeld ⊢
        refine wpAnyH_take (i := 0) (oi := _) (v := ?_) rfl (by kernel_rfl) (by kernel_rfl) (by kernel_rfl) (fun _ _ _ h => h) (Or.inl ⟨by rfl, ?_⟩) (by assumption) ?_
        rotate_left
        · (intro w hSw; (try dsimp only at hSw); go_simp <;> with_reducible rfl)
        try simp only [List.getElem_toArray, List.getElem_cons_succ, List.getElem_cons_zero, Act.put, List.setIfInBounds_toArray, List.set_cons_zero, List.set_cons_succ]
        refine wpAnyH_take (i := 1) (oi := _) (v := ?_) rfl (by kernel_rfl) (by kernel_rfl) (by kernel_rfl) (fun _ _ _ h => h) (Or.inl ⟨by rfl, ?_⟩) (by assumption) ?_
        rotate_left
        · (intro w hSw; (try dsimp only at hSw); go_simp <;> with_reducible rfl)
        try simp only [List.getElem_toArray, List.getElem_cons_succ, List.getElem_cons_zero, Act.put, List.setIfInBounds_toArray, List.set_cons_zero, List.set_cons_succ]
        refine wpAnyH_take (i := 2) (oi := _) (v := ?_) rfl (by kernel_rfl) (by kernel_rfl) (by kernel_rfl) (fun _ _ _ h => h) (Or.inl ⟨by rfl, ?_⟩) (by assumption) ?_
        rotate_left
        · (intro w hSw; (try dsimp only at hSw); go_simp <;> with_reducible rfl)
        try simp only [List.getElem_toArray, List.getElem_cons_succ, List.getElem_cons_zero, Act.put, List.setIfInBounds_toArray, List.set_cons_zero, List.set_cons_succ]
        refine wpAnyH_take (i := 3) (oi := _) (v := ?_) rfl (by kernel_rfl) (by kernel_rfl) (by kernel_rfl) (fun _ _ _ h => h) (Or.inl ⟨by rfl, ?_⟩) (by assumption) ?_
        rotate_left
        · (intro w hSw; (try dsimp only at hSw); go_simp <;> with_reducible rfl)
        try simp only [List.getElem_toArray, List.getElem_cons_succ, List.getElem_cons_zero, Act.put, List.setIfInBounds_toArray, List.set_cons_zero, List.set_cons_succ]
        refine wpAnyH_take (i := 4) (oi := _) (v := ?_) rfl (by kernel_rfl) (by kernel_rfl) (by kernel_rfl) (fun _ _ _ h => h) (Or.inl ⟨by rfl, ?_⟩) (by assumption) ?_
        rotate_left
        · (intro w hSw; (try dsimp only at hSw); go_simp <;> with_reducible rfl)
        try simp only [List.getElem_toArray, List.getElem_cons_succ, List.getElem_cons_zero, Act.put, List.setIfInBounds_toArray, List.set_cons_zero, List.set_cons_succ]
        refine wpAnyH_take (i := 5) (oi := _) (v := ?_) rfl (by kernel_rfl) (by kernel_rfl) (by kernel_rfl) (fun _ _ _ h => h) (Or.inl ⟨by rfl, ?_⟩) (by assumption) ?_
        rotate_left
        · (intro w hSw; (try dsimp only at hSw); go_simp <;> with_reducible rfl)
        try simp only [List.getElem_toArray, List.getElem_cons_succ, List.getElem_cons_zero, Act.put, List.setIfInBounds_toArray, List.set_cons_zero, List.set_cons_succ]
        refine wpAnyH_take (i := 6) (oi := _) (v := ?_) rfl (by kernel_rfl) (by kernel_rfl) (by kernel_rfl) (fun _ _ _ h => h) (Or.inl ⟨by rfl, ?_⟩) (by assumption) ?_
        rotate_left
        · (intro w hSw; (try dsimp only at hSw); go_simp <;> with_reducible rfl)
        try simp only [List.getElem_toArray, List.getElem_cons_succ, List.getElem_cons_zero, Act.put, List.setIfInBounds_toArray, List.set_cons_zero, List.set_cons_succ]
        refine wpAnyH_take (i := 7) (oi := _) (v := ?_) rfl (by kernel_rfl) (by kernel_rfl) (by kernel_rfl) (fun _ _ _ h => h) (Or.inl ⟨by rfl, ?_⟩) (by assumption) ?_
        rotate_left
        · (intro w hSw; (try dsimp only at hSw); go_simp <;> with_reducible rfl)
        try simp only [List.getElem_toArray, List.getElem_cons_succ, List.getElem_cons_zero, Act.put, List.setIfInBounds_toArray, List.set_cons_zero, List.set_cons_succ]
        refine wpAnyH_take (i := 8) (oi := _) (v := ?_) rfl (by kernel_rfl) (by kernel_rfl) (by kernel_rfl) (fun _ _ _ h => h) (Or.inl ⟨by rfl, ?_⟩) (by assumption) ?_
        rotate_left
        · (intro w hSw; (try dsimp only at hSw); go_simp <;> with_reducible rfl)
        try simp only [List.getElem_toArray, List.getElem_cons_succ, List.getElem_cons_zero, Act.put, List.setIfInBounds_toArray, List.set_cons_zero, List.set_cons_succ]
        refine wpAnyH_take (i := 9) (oi := _) (v := ?_) rfl (by kernel_rfl) (by kernel_rfl) (by kernel_rfl) (fun _ _ _ h => h) (Or.inl ⟨by rfl, ?_⟩) (by assumption) ?_
        rotate_left
        · (intro w hSw; (try dsimp only at hSw); go_simp <;> with_reducible rfl)
        try simp only [List.getElem_toArray, List.getElem_cons_succ, List.getElem_cons_zero, Act.put, List.setIfInBounds_toArray, List.set_cons_zero, List.set_cons_succ]
        refine wpAnyH_take (i := 10) (oi := _) (v := ?_) rfl (by kernel_rfl) (by kernel_rfl) (by kernel_rfl) (fun _ _ _ h => h) (Or.inl ⟨by rfl, ?_⟩) (by assumption) ?_
        rotate_left
        · (intro w hSw; (try dsimp only at hSw); go_simp <;> with_reducible rfl)
        try simp only [List.getElem_toArray, List.getElem_cons_succ, List.getElem_cons_zero, Act.put, List.setIfInBounds_toArray, List.set_cons_zero, List.set_cons_succ]
        refine wpAnyH_take (i := 11) (oi := _) (v := undef) rfl (by kernel_rfl) (by kernel_rfl) (by kernel_rfl) (fun _ _ _ h => h) (Or.inr ⟨by rfl, rfl⟩) (by assumption) ?_
        try simp only [List.getElem_toArray, List.getElem_cons_succ, List.getElem_cons_zero, Act.put, List.setIfInBounds_toArray, List.set_cons_zero, List.set_cons_succ]
        refine wpAnyH_take (i := 12) (oi := _) (v := undef) rfl (by kernel_rfl) (by kernel_rfl) (by kernel_rfl) (fun _ _ _ h => h) (Or.inr ⟨by rfl, rfl⟩) (by assumption) ?_
        try simp only [List.getElem_toArray, List.getElem_cons_succ, List.getElem_cons_zero, Act.put, List.setIfInBounds_toArray, List.set_cons_zero, List.set_cons_succ]
        refine wpAnyH_take (i := 13) (oi := _) (v := undef) rfl (by kernel_rfl) (by kernel_rfl) (by kernel_rfl) (fun _ _ _ h => h) (Or.inr ⟨by rfl, rfl⟩) (by assumption) ?_
        try simp only [List.getElem_toArray, List.getElem_cons_succ, List.getElem_cons_zero, Act.put, List.setIfInBounds_toArray, List.set_cons_zero, List.set_cons_succ]
        refine wpAnyH_take (i := 14) (oi := _) (v := undef) rfl (by kernel_rfl) (by kernel_rfl) (by kernel_rfl) (fun _ _ _ h => h) (Or.inr ⟨by rfl, rfl⟩) (by assumption) ?_
        try simp only [List.getElem_toArray, List.getElem_cons_succ, List.getElem_cons_zero, Act.put, List.setIfInBounds_toArray, List.set_cons_zero, List.set_cons_succ]
        refine wpAnyH_take (i := 15) (oi := _) (v := undef) rfl (by kernel_rfl) (by kernel_rfl) (by kernel_rfl) (fun _ _ _ h => h) (Or.inr ⟨by rfl, rfl⟩) (by assumption) ?_
        try simp only [List.getElem_toArray, List.getElem_cons_succ, List.getElem_cons_zero, Act.put, List.setIfInBounds_toArray, List.set_cons_zero, List.set_cons_succ]
        refine wpAnyH_take (i := 16) (oi := _) (v := undef) rfl (by kernel_rfl) (by kernel_rfl) (by kernel_rfl) (fun _ _ _ h => h) (Or.inr ⟨by rfl, rfl⟩) (by assumption) ?_
        try simp only [List.getElem_toArray, List.getElem_cons_succ, List.getElem_cons_zero, Act.put, List.setIfInBounds_toArray, List.set_cons_zero, List.set_cons_succ]
        refine wpAnyH_take (i := 17) (oi := _) (v := ?_) rfl (by kernel_rfl) (by kernel_rfl) (by kernel_rfl) (fun _ _ _ h => h) (Or.inl ⟨by rfl, ?_⟩) (by assumption) ?_
        rotate_left
        · (intro w hSw; (try dsimp only at hSw); go_simp <;> with_reducible rfl)
        try simp only [List.getElem_toArray, List.getElem_cons_succ, List.getElem_cons_zero, Act.put, List.setIfInBounds_toArray, List.set_cons_zero, List.set_cons_succ]
        refine wpAnyH_take (i := 18) (oi := _) (v := ?_) rfl (by kernel_rfl) (by kernel_rfl) (by kernel_rfl) (fun _ _ _ h => h) (Or.inl ⟨by rfl, ?_⟩) (by assumption) ?_
        rotate_left
        · (intro w hSw; (try dsimp only at hSw); go_simp <;> with_reducible rfl)
        try simp only [List.getElem_toArray, List.getElem_cons_succ, List.getElem_cons_zero, Act.put, List.setIfInBounds_toArray, List.set_cons_zero, List.set_cons_succ]
        refine wpAnyH_take (i := 19) (oi := _) (v := undef) rfl (by kernel_rfl) (by kernel_rfl) (by kernel_rfl) (fun _ _ _ h => h) (Or.inr ⟨by rfl, rfl⟩) (by assumption) ?_
        try simp only [List.getElem_toArray, List.getElem_cons_succ, List.getElem_cons_zero, Act.put, List.setIfInBounds_toArray, List.set_cons_zero, List.set_cons_succ]
        refine wpAnyH_take (i := 20) (oi := _) (v := undef) rfl (by kernel_rfl) (by kernel_rfl) (by kernel_rfl) (fun _ _ _ h => h) (Or.inr ⟨by rfl, rfl⟩) (by assumption) ?_
        try simp only [List.getElem_toArray, List.getElem_cons_succ, List.getElem_cons_zero, Act.put, List.setIfInBounds_toArray, List.set_cons_zero, List.set_cons_succ]
        refine wpAnyH_take (i := 21) (oi := _) (v := undef) rfl (by kernel_rfl) (by kernel_rfl) (by kernel_rfl) (fun _ _ _ h => h) (Or.inr ⟨by rfl, rfl⟩) (by assumption) ?_
        try simp only [List.getElem_toArray, List.getElem_cons_succ, List.getElem_cons_zero, Act.put, List.setIfInBounds_toArray, List.set_cons_zero, List.set_cons_succ]
        refine wpAnyH_take (i := 22) (oi := _) (v := undef) rfl (by kernel_rfl) (by kernel_rfl) (by kernel_rfl) (fun _ _ _ h => h) (Or.inr ⟨by rfl, rfl⟩) (by assumption) ?_
        try simp only [List.getElem_toArray, List.getElem_cons_succ, List.getElem_cons_zero, Act.put, List.setIfInBounds_toArray, List.set_cons_zero, List.set_cons_succ]
        refine wpAnyH_take (i := 23) (oi := _) (v := undef) rfl (by kernel_rfl) (by kernel_rfl) (by kernel_rfl) (fun _ _ _ h => h) (Or.inr ⟨by rfl, rfl⟩) (by assumption) ?_
        try simp only [List.getElem_toArray, List.getElem_cons_succ, List.getElem_cons_zero, Act.put, List.setIfInBounds_toArray, List.set_cons_zero, List.set_cons_succ]
        refine wpAnyH_take (i := 24) (oi := _) (v := undef) rfl (by kernel_rfl) (by kernel_rfl) (by kernel_rfl) (fun _ _ _ h => h) (Or.inr ⟨by rfl, rfl⟩) (by assumption) ?_
        try simp only [List.getElem_toArray, List.getElem_cons_succ, List.getElem_cons_zero, Act.put, List.setIfInBounds_toArray, List.set_cons_zero, List.set_cons_succ]
        refine wpAnyH_take (i := 25) (oi := _) (v := ?_) rfl (by kernel_rfl) (by kernel_rfl) (by kernel_rfl) (fun _ _ _ h => h) (Or.inl ⟨by rfl, ?_⟩) (by assumption) ?_
        rotate_left
        · (intro w hSw; (try dsimp only at hSw); go_simp <;> with_reducible rfl)
        try simp only [List.getElem_toArray, List.getElem_cons_succ, List.getElem_cons_zero, Act.put, List.setIfInBounds_toArray, List.set_cons_zero, List.set_cons_succ]
        refine wpAnyH_done (by kernel_rfl) ?_ _
        refine NoPanic.normal ?_
        go_wp2_with (first | (go_at_call 10; (with_reducible refine (linAwake_any _).mono ?_); rintro e wk ⟨rfl, hb⟩; have HX := Lib.hid (HX.out.trans (hb.mono HX.out.size)); clear hb))
        go_ret
        exact ⟨by first | rfl | simp, HW.out.trans (HX.out.mono HW.out.size)⟩
      subst hnq
      have hne : ((nc : Int) != (nc : Int)) = false := bne_eq_false_iff_eq.mpr rfl
      by_cases hm1 : mq > 1099511627776
      · go_upto_region 7 with fail
        have HX := Lib.hid HX.out.drew
        have HD := Lib.hid (HD.out.below (Below.refl _ _).drew)
        refine wp_region_noPanic ?_
        refine wp_region_held_drew (S := fun w' => w'.cell? (ad.add (k * 2)) = some (.slice Aq nc cq) ∧ w'.cell? (off_ (ad.add (k * 2)) 1) = some (.int .i64 mq) ∧ w'.cell? ⟨w.heap.size, 0, none⟩ = some (.slice C nc ce)) (by kernel_rfl) ⟨(HP.out _ HX.out).1, (HP.out _ HX.out).2, (HBE.out _ HX.out).1⟩ (fun hHeld => ?_)
        generalize wr.drew = w8 at HX HD hHeld ⊢
        refine wpAnyH_take (i := 0) (oi := _) (v := ?_) rfl (by kernel_rfl) (by kernel_rfl) (by kernel_rfl) (fun _ _ _ h => h) (Or.inl ⟨by rfl, ?_⟩) (by assumption) ?_
        rotate_left
        · (intro w hSw; (try dsimp only at hSw); go_simp <;> with_reducible rfl)
        try simp only [List.getElem_toArray, List.getElem_cons_succ, List.getElem_cons_zero, Act.put, List.setIfInBounds_toArray, List.set_cons_zero, List.set_cons_succ]
        refine wpAnyH_take (i := 1) (oi := _) (v := ?_) rfl (by kernel_rfl) (by kernel_rfl) (by kernel_rfl) (fun _ _ _ h => h) (Or.inl ⟨by rfl, ?_⟩) (by assumption) ?_
        rotate_left
        · (intro w hSw; (try dsimp only at hSw); go_simp <;> with_reducible rfl)
        try simp only [List.getElem_toArray, List.getElem_cons_succ, List.getElem_cons_zero, Act.put, List.setIfInBounds_toArray, List.set_cons_zero, List.set_cons_succ]
        refine wpAnyH_take (i := 2) (oi := _) (v := ?_) rfl (by kernel_rfl) (by kernel_rfl) (by kernel_rfl) (fun _ _ _ h => h) (Or.inl ⟨by rfl, ?_⟩) (by assumption) ?_
        rotate_left
        · (intro w hSw; (try dsimp only at hSw); go_simp <;> with_reducible rfl)
        try simp only [List.getElem_toArray, List.getElem_cons_succ, List.getElem_cons_zero, Act.put, List.setIfInBounds_toArray, List.set_cons_zero, List.set_cons_succ]
        refine wpAnyH_take (i := 3) (oi := _) (v := ?_) rfl (by kernel_rfl) (by kernel_rfl) (by kernel_rfl) (fun _ _ _ h => h) (Or.inl ⟨by rfl, ?_⟩) (by assumption) ?_
        rotate_left
        · (intro w hSw; (try dsimp only at hSw); go_simp <;> with_reducible rfl)
        try simp only [List.getElem_toArray, List.getElem_cons_succ, List.getElem_cons_zero, Act.put, List.setIfInBounds_toArray, List.set_cons_zero, List.set_cons_succ]
        refine wpAnyH_take (i := 4) (oi := _) (v := ?_) rfl (by kernel_rfl) (by kernel_rfl) (by kernel_rfl) (fun _ _ _ h => h) (Or.inl ⟨by rfl, ?_⟩) (by assumption) ?_
        rotate_left
        · (intro w hSw; (try dsimp only at hSw); go_simp <;> with_reducible rfl)
        try simp only [List.getElem_toArray, List.getElem_cons_succ, List.getElem_cons_zero, Act.put, List.setIfInBounds_toArray, List.set_cons_zero, List.set_cons_succ]
        refine wpAnyH_take (i := 5) (oi := _) (v := ?_) rfl (by kernel_rfl) (by kernel_rfl) (by kernel_rfl) (fun _ _ _ h => h) (Or.inl ⟨by rfl, ?_⟩) (by assumption) ?_
        rotate_left
        · (intro w hSw; (try dsimp only at hSw); go_simp <;> with_reducible rfl)
        try simp only [List.getElem_toArray, List.getElem_cons_succ, List.getElem_cons_zero, Act.put, List.setIfInBounds_toArray, List.set_cons_zero, List.set_cons_succ]
        refine wpAnyH_take (i := 6) (oi := _) (v := ?_) rfl (by kernel_rfl) (by kernel_rfl) (by kernel_rfl) (fun _ _ _ h => h) (Or.inl ⟨by rfl, ?_⟩) (by assumption) ?_
        rotate_left
        · (intro w hSw; (try dsimp only at hSw); go_simp <;> with_reducible rfl)
        try simp only [List.getElem_toArray, List.getElem_cons_succ, List.getElem_cons_zero, Act.put, List.setIfInBounds_toArray, List.set_cons_zero, List.set_cons_succ]
        refine wpAnyH_take (i := 7) (oi := _) (v := ?_) rfl (by kernel_rfl) (by kernel_rfl) (by kernel_rfl) (fun _ _ _ h => h) (Or.inl ⟨by rfl, ?_⟩) (by assumption) ?_
        rotate_left
        · (intro w hSw; (try dsimp only at hSw); go_simp <;> with_reducible rfl)
        try simp only [List.getElem_toArray, List.getElem_cons_succ, List.getElem_cons_zero, Act.put, List.setIfInBounds_toArray, List.set_cons_zero, List.set_cons_succ]
        refine wpAnyH_take (i := 8) (oi := _) (v := ?_) rfl (by kernel_rfl) (by kernel_rfl) (by kernel_rfl) (fun _ _ _ h => h) (Or.inl ⟨by rfl, ?_⟩) (by assumption) ?_
        rotate_left
        · (intro w hSw; (try dsimp only at hSw); go_simp <;> with_reducible rfl)
        try simp only [List.getElem_toArray, List.getElem_cons_succ, List.getElem_cons_zero, Act.put, List.setIfInBounds_toArray, List.set_cons_zero, List.set_cons_succ]
        refine wpAnyH_take (i := 9) (oi := _) (v := ?_) rfl (by kernel_rfl) (by kernel_rfl) (by kernel_rfl) (fun _ _ _ h => h) (Or.inl ⟨by rfl, ?_⟩) (by assumption) ?_
        rotate_left
        · (intro w hSw; (try dsimp only at hSw); go_simp <;> with_reducible rfl)
        try simp only [List.getElem_toArray, List.getElem_cons_succ, List.getElem_cons_zero, Act.put, List.setIfInBounds_toArray, List.set_cons_zero, List.set_cons_succ]
        refine wpAnyH_take (i := 10) (oi := _) (v := ?_) rfl (by kernel_rfl) (by kernel_rfl) (by kernel_rfl) (fun _ _ _ h => h) (Or.inl ⟨by rfl, ?_⟩) (by assumption) ?_
        rotate_left
        · (intro w hSw; (try dsimp only at hSw); go_simp <;> with_reducible rfl)
        try simp only [List.getElem_toArray, List.getElem_cons_succ, List.getElem_cons_zero, Act.put, List.setIfInBounds_toArray, List.set_cons_zero, List.set_cons_succ]
        refine wpAnyH_take (i := 11) (oi := _) (v := ?_) rfl (by kernel_rfl) (by kernel_rfl) (by kernel_rfl) (fun _ _ _ h => h) (Or.inl ⟨by rfl, ?_⟩) (by assumption) ?_
        rotate_left
        · (intro w hSw; (try dsimp only at hSw); go_simp <;> with_reducible rfl)
        try simp only [List.getElem_toArray, List.getElem_cons_succ, List.getElem_cons_zero, Act.put, List.setIfInBounds_toArray, List.set_cons_zero, List.set_cons_succ]
        refine wpAnyH_take (i := 12) (oi := _) (v := ?_) rfl (by kernel_rfl) (by kernel_rfl) (by kernel_rfl) (fun _ _ _ h => h) (Or.inl ⟨by rfl, ?_⟩) (by assumption) ?_
        rotate_left
        · (intro w hSw; (try dsimp only at hSw); go_simp <;> with_reducible rfl)
        try simp only [List.getElem_toArray, List.getElem_cons_succ, List.getElem_cons_zero, Act.put, List.setIfInBounds_toArray, List.set_cons_zero, List.set_cons_succ]
        refine wpAnyH_take (i := 13) (oi := _) (v := ?_) rfl (by kernel_rfl) (by kernel_rfl) (by kernel_rfl) (fun _ _ _ h => h) (Or.inl ⟨by rfl, ?_⟩) (by assumption) ?_
        rotate_left
        · (intro w hSw; (try dsimp only at hSw); go_simp <;> with_reducible rfl)
        try simp only [List.getElem_toArray, List.getElem_cons_succ, List.getElem_cons_zero, Act.put, List.setIfInBounds_toArray, List.set_cons_zero, List.set_cons_succ]
        refine wpAnyH_take (i := 14) (oi := _) (v := ?_) rfl (by kernel_rfl) (by kernel_rfl) (by kernel_rfl) (fun _ _ _ h => h) (Or.inl ⟨by rfl, ?_⟩) (by assumption) ?_
        rotate_left
        · (intro w hSw; (try dsimp only at hSw); go_simp <;> with_reducible rfl)
        try simp only [List.getElem_toArray, List.getElem_cons_succ, List.getElem_cons_zero, Act.put, List.setIfInBounds_toArray, List.set_cons_zero, List.set_cons_succ]
        refine wpAnyH_take (i := 15) (oi := _) (v := ?_) rfl (by kernel_rfl) (by kernel_rfl) (by kernel_rfl) (fun _ _ _ h => h) (Or.inl ⟨by rfl, ?_⟩) (by assumption) ?_
        rotate_left
        · (intro w hSw; (try dsimp only at hSw); go_simp <;> with_reducible rfl)
        try simp only [List.getElem_toArray, List.getElem_cons_succ, List.getElem_cons_zero, Act.put, List.setIfInBounds_toArray, List.set_cons_zero, List.set_cons_succ]
        refine wpAnyH_take (i := 16) (oi := _) (v := ?_) rfl (by kernel_rfl) (by kernel_rfl) (by kernel_rfl) (fun _ _ _ h => h) (Or.inl ⟨by rfl, ?_⟩) (by assumption) ?_
        rotate_left
        · (intro w hSw; (try dsimp only at hSw); go_simp <;> with_reducible rfl)
        try simp only [List.getElem_toArray, List.getElem_cons_succ, List.getElem_cons_zero, Act.put, List.setIfInBounds_toArray, List.set_cons_zero, List.set_cons_succ]
        refine wpAnyH_take (i := 17) (oi := _) (v := ?_) rfl (by kernel_rfl) (by kernel_rfl) (by kernel_rfl) (fun _ _ _ h => h) (Or.inl ⟨by rfl, ?_⟩) (by assumption) ?_
        rotate_left
        · (intro w hSw; (try dsimp only at hSw); go_simp <;> with_reducible rfl)
        try simp only [List.getElem_toArray, List.getElem_cons_succ, List.getElem_cons_zero, Act.put, List.setIfInBounds_toArray, List.set_cons_zero, List.set_cons_succ]
        refine wpAnyH_take (i := 18) (oi := _) (v := ?_) rfl (by kernel_rfl) (by kernel_rfl) (by kernel_rfl) (fun _ _ _ h => h) (Or.inl ⟨by rfl, ?_⟩) (by assumption) ?_
        rotate_left
        · (intro w hSw; (try dsimp only at hSw); go_simp <;> with_reducible rfl)
        try simp only [List.getElem_toArray, List.getElem_cons_succ, List.getElem_cons_zero, Act.put, List.setIfInBounds_toArray, List.set_cons_zero, List.set_cons_succ]
        refine wpAnyH_take (i := 19) (oi := _) (v := undef) rfl (by kernel_rfl) (by kernel_rfl) (by kernel_rfl) (fun _ _ _ h => h) (Or.inr ⟨by rfl, rfl⟩) (by assumption) ?_
        try simp only [List.getElem_toArray, List.getElem_cons_succ, List.getElem_cons_zero, Act.put, List.setIfInBounds_toArray, List.set_cons_zero, List.set_cons_succ]
        refine wpAnyH_take (i := 20) (oi := _) (v := undef) rfl (by kernel_rfl) (by kernel_rfl) (by kernel_rfl) (fun _ _ _ h => h) (Or.inr ⟨by rfl, rfl⟩) (by assumption) ?_
        try simp only [List.getElem_toArray, List.getElem_cons_succ, List.getElem_cons_zero, Act.put, List.setIfInBounds_toArray, List.set_cons_zero, List.set_cons_succ]
        refine wpAnyH_take (i := 21) (oi := _) (v := undef) rfl (by kernel_rfl) (by kernel_rfl) (by kernel_rfl) (fun _ _ _ h => h) (Or.inr ⟨by rfl, rfl⟩) (by assumption) ?_
        try simp only [List.getElem_toArray, List.getElem_cons_succ, List.getElem_cons_zero, Act.put, List.setIfInBounds_toArray, List.set_cons_zero, List.set_cons_succ]
        refine wpAnyH_take (i := 22) (oi := _) (v := undef) rfl (by kernel_rfl) (by kernel_rfl) (by kernel_rfl) (fun _ _ _ h => h) (Or.inr ⟨by rfl, rfl⟩) (by assumption) ?_
        try simp only [List.getElem_toArray, List.getElem_cons_succ, List.getElem_cons_zero, Act.put, List.setIfInBounds_toArray, List.set_cons_zero, List.set_cons_succ]
        refine wpAnyH_take (i := 23) (oi := _) (v := undef) rfl (by kernel_rfl) (by kernel_rfl) (by kernel_rfl) (fun _ _ _ h => h) (Or.inr ⟨by rfl, rfl⟩) (by assumption) ?_
        try simp only [List.getElem_toArray, List.getElem_cons_succ, List.getElem_cons_zero, Act.put, List.setIfInBounds_toArray, List.set_cons_zero, List.set_cons_succ]
        refine wpAnyH_take (i := 24) (oi := _) (v := undef) rfl (by kernel_rfl) (by kernel_rfl) (by kernel_rfl) (fun _ _ _ h => h) (Or.inr ⟨by rfl, rfl⟩) (by assumption) ?_
        try simp only [List.getElem_toArray, List.getElem_cons_succ, List.getElem_cons_zero, Act.put, List.setIfInBounds_toArray, List.set_cons_zero, List.set_cons_succ]
        refine wpAnyH_take (i := 25) (oi := _) (v := ?_) rfl (by kernel_rfl) (by kernel_rfl) (by kernel_rfl) (fun _ _ _ h => h) (Or.inl ⟨by rfl, ?_⟩) (by assumption) ?_
        rotate_left
        · (intro w hSw; (try dsimp only at hSw); go_simp <;> with_reducible rfl)
        try simp only [List.getElem_toArray, List.getElem_cons_succ, List.getElem_cons_zero, Act.put, List.setIfInBounds_toArray, List.set_cons_zero, List.set_cons_succ]
        refine wpAnyH_done (by kernel_rfl) ?_ _
        refine NoPanic.normal ?_
        go_wp2_with (first | (go_at_call 10; (with_reducible refine (linAwake_any _).mono ?_); rintro e wk ⟨rfl, hb⟩; have HX := Lib.hid (HX.out.trans (hb.mono HX.out.size)); clear hb))
        go_ret
        exact ⟨by first | rfl | simp, HW.out.trans (HX.out.mono HW.out.size)⟩
      by_cases hm2 : mq < -1099511627776
      · go_upto_region 7 with fail
        have HX := Lib.hid HX.out.drew
        have HD := Lib.hid (HD.out.below (Below.refl _ _).drew)
        refine wp_region_noPanic ?_
        refine wp_region_held_drew (S := fun w' => w'.cell? (ad.add (k * 2)) = some (.slice Aq nc cq) ∧ w'.cell? (off_ (ad.add (k * 2)) 1) = some (.int .i64 mq) ∧ w'.cell? ⟨w.heap.size, 0, none⟩ = some (.slice C nc ce)) (by kernel_rfl) ⟨(HP.out _ HX.out).1, (HP.out _ HX.out).2, (HBE.out _ HX.out).1⟩ (fun hHeld => ?_)
        generalize wr.drew = w8 at HX HD hHeld ⊢
        refine wpAnyH_take (i := 0) (oi := _) (v := ?_) rfl (by kernel_rfl) (by kernel_rfl) (by kernel_rfl) (fun _ _ _ h => h) (Or.inl ⟨by rfl, ?_⟩) (by assumption) ?_
        rotate_left
        · (intro w hSw; (try dsimp only at hSw); go_simp <;> with_reducible rfl)
        try simp only [List.getElem_toArray, List.getElem_cons_succ, List.getElem_cons_zero, Act.put, List.setIfInBounds_toArray, List.set_cons_zero, List.set_cons_succ]
        refine wpAnyH_take (i := 1) (oi := _) (v := ?_) rfl (by kernel_rfl) (by kernel_rfl) (by kernel_rfl) (fun _ _ _ h => h) (Or.inl ⟨by rfl, ?_⟩) (by assumption) ?_
        rotate_left
        · (intro w hSw; (try dsimp only at hSw); go_simp <;> with_reducible rfl)
        try simp only [List.getElem_toArray, List.getElem_cons_succ, List.getElem_cons_zero, Act.put, List.setIfInBounds_toArray, List.set_cons_zero, List.set_cons_succ]
        refine wpAnyH_take (i := 2) (oi := _) (v := ?_) rfl (by kernel_rfl) (by kernel_rfl) (by kernel_rfl) (fun _ _ _ h => h) (Or.inl ⟨by rfl, ?_⟩) (by assumption) ?_
        rotate_left
        · (intro w hSw; (try dsimp only at hSw); go_simp <;> with_reducible rfl)
        try simp only [List.getElem_toArray, List.getElem_cons_succ, List.getElem_cons_zero, Act.put, List.setIfInBounds_toArray, List.set_cons_zero, List.set_cons_succ]
        refine wpAnyH_take (i := 3) (oi := _) (v := ?_) rfl (by kernel_rfl) (by kernel_rfl) (by kernel_rfl) (fun _ _ _ h => h) (Or.inl ⟨by rfl, ?_⟩) (by assumption) ?_
        rotate_left
        · (intro w hSw; (try dsimp only at hSw); go_simp <;> with_reducible rfl)
        try simp only [List.getElem_toArray, List.getElem_cons_succ, List.getElem_cons_zero, Act.put, List.setIfInBounds_toArray, List.set_cons_zero, List.set_cons_succ]
        refine wpAnyH_take (i := 4) (oi := _) (v := ?_) rfl (by kernel_rfl) (by kernel_rfl) (by kernel_rfl) (fun _ _ _ h => h) (Or.inl ⟨by rfl, ?_⟩) (by assumption) ?_
        rotate_left
        · (intro w hSw; (try dsimp only at hSw); go_simp <;> with_reducible rfl)
        try simp only [List.getElem_toArray, List.getElem_cons_succ, List.getElem_cons_zero, Act.put, List.setIfInBounds_toArray, List.set_cons_zero, List.set_cons_succ]
        refine wpAnyH_take (i := 5) (oi := _) (v := ?_) rfl (by kernel_rfl) (by kernel_rfl) (by kernel_rfl) (fun _ _ _ h => h) (Or.inl ⟨by rfl, ?_⟩) (by assumption) ?_
        rotate_left
        · (intro w hSw; (try dsimp only at hSw); go_simp <;> with_reducible rfl)
        try simp only [List.getElem_toArray, List.getElem_cons_succ, List.getElem_cons_zero, Act.put, List.setIfInBounds_toArray, List.set_cons_zero, List.set_cons_succ]
        refine wpAnyH_take (i := 6) (oi := _) (v := ?_) rfl (by kernel_rfl) (by kernel_rfl) (by kernel_rfl) (fun _ _ _ h => h) (Or.inl ⟨by rfl, ?_⟩) (by assumption) ?_
        rotate_left
        · (intro w hSw; (try dsimp only at hSw); go_simp <;> with_reducible rfl)
        try simp only [List.getElem_toArray, List.getElem_cons_succ, List.getElem_cons_zero, Act.put, List.setIfInBounds_toArray, List.set_cons_zero, List.set_cons_succ]
        refine wpAnyH_take (i := 7) (oi := _) (v := ?_) rfl (by kernel_rfl) (by kernel_rfl) (by kernel_rfl) (fun _ _ _ h => h) (Or.inl ⟨by rfl, ?_⟩) (by assumption) ?_
        rotate_left
        · (intro w hSw; (try dsimp only at hSw); go_simp <;> with_reducible rfl)
        try simp only [List.getElem_toArray, List.getElem_cons_succ, List.getElem_cons_zero, Act.put, List.setIfInBounds_toArray, List.set_cons_zero, List.set_cons_succ]
        refine wpAnyH_take (i := 8) (oi := _) (v := ?_) rfl (by kernel_rfl) (by kernel_rfl) (by kernel_rfl) (fun _ _ _ h => h) (Or.inl ⟨by rfl, ?_⟩) (by assumption) ?_
        rotate_left
        · (intro w hSw; (try dsimp only at hSw); go_simp <;> with_reducible rfl)
        try simp only [List.getElem_toArray, List.getElem_cons_succ, List.getElem_cons_zero, Act.put, List.setIfInBounds_toArray, List.set_cons_zero, List.set_cons_succ]
        refine wpAnyH_take (i := 9) (oi := _) (v := ?_) rfl (by kernel_rfl) (by kernel_rfl) (by kernel_rfl) (fun _ _ _ h => h) (Or.inl ⟨by rfl, ?_⟩) (by assumption) ?_
        rotate_left
        · (intro w hSw; (try dsimp only at hSw); go_simp <;> with_reducible rfl)
        try simp only [List.getElem_toArray, List.getElem_cons_succ, List.getElem_cons_zero, Act.put, List.setIfInBounds_toArray, List.set_cons_zero, List.set_cons_succ]
        refine wpAnyH_take (i := 10) (oi := _) (v := ?_) rfl (by kernel_rfl) (by kernel_rfl) (by kernel_rfl) (fun _ _ _ h => h) (Or.inl ⟨by rfl, ?_⟩) (by assumption) ?_
        rotate_left
        · (intro w hSw; (try dsimp only at hSw); go_simp <;> with_reducible rfl)
        try simp only [List.getElem_toArray, List.getElem_cons_succ, List.getElem_cons_zero, Act.put, List.setIfInBounds_toArray, List.set_cons_zero, List.set_cons_succ]
        refine wpAnyH_take (i := 11) (oi := _) (v := ?_) rfl (by kernel_rfl) (by kernel_rfl) (by kernel_rfl) (fun _ _ _ h => h) (Or.inl ⟨by rfl, ?_⟩) (by assumption) ?_
        rotate_left
        · (intro w hSw; (try dsimp only at hSw); go_simp <;> with_reducible rfl)
        try simp only [List.getElem_toArray, List.getElem_cons_succ, List.getElem_cons_zero, Act.put, List.setIfInBounds_toArray, List.set_cons_zero, List.set_cons_succ]
        refine wpAnyH_take (i := 12) (oi := _) (v := ?_) rfl (by kernel_rfl) (by kernel_rfl) (by kernel_rfl) (fun _ _ _ h => h) (Or.inl ⟨by rfl, ?_⟩) (by assumption) ?_
        rotate_left
        · (intro w hSw; (try dsimp only at hSw); go_simp <;> with_reducible rfl)
        try simp only [List.getElem_toArray, List.getElem_cons_succ, List.getElem_cons_zero, Act.put, List.setIfInBounds_toArray, List.set_cons_zero, List.set_cons_succ]
        refine wpAnyH_take (i := 13) (oi := _) (v := ?_) rfl (by kernel_rfl) (by kernel_rfl) (by kernel_rfl) (fun _ _ _ h => h) (Or.inl ⟨by rfl, ?_⟩) (by assumption) ?_
        rotate_left
        · (intro w hSw; (try dsimp only at hSw); go_simp <;> with_reducible rfl)
        try simp only [List.getElem_toArray, List.getElem_cons_succ, List.getElem_cons_zero, Act.put, List.setIfInBounds_toArray, List.set_cons_zero, List.set_cons_succ]
        refine wpAnyH_take (i := 14) (oi := _) (v := ?_) rfl (by kernel_rfl) (by kernel_rfl) (by kernel_rfl) (fun _ _ _ h => h) (Or.inl ⟨by rfl, ?_⟩) (by assumption) ?_
        rotate_left
        · (intro w hSw; (try dsimp only at hSw); go_simp <;> with_reducible rfl)
        try simp only [List.getElem_toArray, List.getElem_cons_succ, List.getElem_cons_zero, Act.put, List.setIfInBounds_toArray, List.set_cons_zero, List.set_cons_succ]
        refine wpAnyH_take (i := 15) (oi := _) (v := ?_) rfl (by kernel_rfl) (by kernel_rfl) (by kernel_rfl) (fun _ _ _ h => h) (Or.inl ⟨by rfl, ?_⟩) (by assumption) ?_
        rotate_left
        · (intro w hSw; (try dsimp only at hSw); go_simp <;> with_reducible rfl)
        try simp only [List.getElem_toArray, List.getElem_cons_succ, List.getElem_cons_zero, Act.put, List.setIfInBounds_toArray, List.set_cons_zero, List.set_cons_succ]
        refine wpAnyH_take (i := 16) (oi := _) (v := ?_) rfl (by kernel_rfl) (by kernel_rfl) (by kernel_rfl) (fun _ _ _ h => h) (Or.inl ⟨by rfl, ?_⟩) (by assumption) ?_
        rotate_left
        · (intro w hSw; (try dsimp only at hSw); go_simp <;> with_reducible rfl)
        try simp only [List.getElem_toArray, List.getElem_cons_succ, List.getElem_cons_zero, Act.put, List.setIfInBounds_toArray, List.set_cons_zero, List.set_cons_succ]
        refine wpAnyH_take (i := 17) (oi := _) (v := ?_) rfl (by kernel_rfl) (by kernel_rfl) (by kernel_rfl) (fun _ _ _ h => h) (Or.inl ⟨by rfl, ?_⟩) (by assumption) ?_
        rotate_left
        · (intro w hSw; (try dsimp only at hSw); go_simp <;> with_reducible rfl)
        try simp only [List.getElem_toArray, List.getElem_cons_succ, List.getElem_cons_zero, Act.put, List.setIfInBounds_toArray, List.set_cons_zero, List.set_cons_succ]
        refine wpAnyH_take (i := 18) (oi := _) (v := ?_) rfl (by kernel_rfl) (by kernel_rfl) (by kernel_rfl) (fun _ _ _ h => h) (Or.inl ⟨by rfl, ?_⟩) (by assumption) ?_
        rotate_left
        · (intro w hSw; (try dsimp only at hSw); go_simp <;> with_reducible rfl)
        try simp only [List.getElem_toArray, List.getElem_cons_succ, List.getElem_cons_zero, Act.put, List.setIfInBounds_toArray, List.set_cons_zero, List.set_cons_succ]
        refine wpAnyH_take (i := 19) (oi := _) (v := ?_) rfl (by kernel_rfl) (by kernel_rfl) (by kernel_rfl) (fun _ _ _ h => h) (Or.inl ⟨by rfl, ?_⟩) (by assumption) ?_
        rotate_left
        · (intro w hSw; (try dsimp only at hSw); go_simp <;> with_reducible rfl)
        try simp only [List.getElem_toArray, List.getElem_cons_succ, List.getElem_cons_zero, Act.put, List.setIfInBounds_toArray, List.set_cons_zero, List.set_cons_succ]
        refine wpAnyH_take (i := 20) (oi := _) (v := ?_) rfl (by kernel_rfl) (by kernel_rfl) (by kernel_rfl) (fun _ _ _ h => h) (Or.inl ⟨by rfl, ?_⟩) (by assumption) ?_
        rotate_left
        · (intro w hSw; (try dsimp only at hSw); go_simp <;> with_reducible rfl)
        try simp only [List.getElem_toArray, List.getElem_cons_succ, List.getElem_cons_zero, Act.put, List.setIfInBounds_toArray, List.set_cons_zero, List.set_cons_succ]
        refine wpAnyH_take (i := 21) (oi := _) (v := ?_) rfl (by kernel_rfl) (by kernel_rfl) (by kernel_rfl) (fun _ _ _ h => h) (Or.inl ⟨by rfl, ?_⟩) (by assumption) ?_
        rotate_left
        · (intro w hSw; (try dsimp only at hSw); go_simp <;> with_reducible rfl)
        try simp only [List.getElem_toArray, List.getElem_cons_succ, List.getElem_cons_zero, Act.put, List.setIfInBounds_toArray, List.set_cons_zero, List.set_cons_succ]
        refine wpAnyH_take (i := 22) (oi := _) (v := ?_) rfl (by kernel_rfl) (by kernel_rfl) (by kernel_rfl) (fun _ _ _ h => h) (Or.inl ⟨by rfl, ?_⟩) (by assumption) ?_
        rotate_left
        · (intro w hSw; (try dsimp only at hSw); go_simp <;> with_reducible rfl)
        try simp only [List.getElem_toArray, List.getElem_cons_succ, List.getElem_cons_zero, Act.put, List.setIfInBounds_toArray, List.set_cons_zero, List.set_cons_succ]
        refine wpAnyH_take (i := 23) (oi := _) (v := ?_) rfl (by kernel_rfl) (by kernel_rfl) (by kernel_rfl) (fun _ _ _ h => h) (Or.inl ⟨by rfl, ?_⟩) (by assumption) ?_
        rotate_left
        · (intro w hSw; (try dsimp only at hSw); go_simp <;> with_reducible rfl)
        try simp only [List.getElem_toArray, List.getElem_cons_succ, List.getElem_cons_zero, Act.put, List.setIfInBounds_toArray, List.set_cons_zero, List.set_cons_succ]
        refine wpAnyH_take (i := 24) (oi := _) (v := ?_) rfl (by kernel_rfl) (by kernel_rfl) (by kernel_rfl) (fun _ _ _ h => h) (Or.inl ⟨by rfl, ?_⟩) (by assumption) ?_
        rotate_left
        · (intro w hSw; (try dsimp only at hSw); go_simp <;> with_reducible rfl)
        try simp only [List.getElem_toArray, List.getElem_cons_succ, List.getElem_cons_zero, Act.put, List.setIfInBounds_toArray, List.set_cons_zero, List.set_cons_succ]
        refine wpAnyH_take (i := 25) (oi := _) (v := ?_) rfl (by kernel_rfl) (by kernel_rfl) (by kernel_rfl) (fun _ _ _ h => h) (Or.inl ⟨by rfl, ?_⟩) (by assumption) ?_
        rotate_left
        · (intro w hSw; (try dsimp only at hSw); go_simp <;> with_reducible rfl)
        try simp only [List.getElem_toArray, List.getElem_cons_succ, List.getElem_cons_zero, Act.put, List.setIfInBounds_toArray, List.set_cons_zero, List.set_cons_succ]
        refine wpAnyH_done (by kernel_rfl) ?_ _
        refine NoPanic.normal ?_
        go_wp2_with (first | (go_at_call 10; (with_reducible refine (linAwake_any _).mono ?_); rintro e wk ⟨rfl, hb⟩; have HX := Lib.hid (HX.out.trans (hb.mono HX.out.size)); clear hb))
        go_ret
        exact ⟨by first | rfl | simp, HW.out.trans (HX.out.mono HW.out.size)⟩
      go_upto_region 7 with fail
      have HX := Lib.hid HX.out.drew
      have HD := Lib.hid (HD.out.below (Below.refl _ _).drew)
      refine wp_region_noPanic ?_
      refine wp_region_held_drew (S := fun w' => w'.cell? (ad.add (k * 2)) = some (.slice Aq nc cq) ∧ w'.cell? (off_ (ad.add (k * 2)) 1) = some (.int .i64 mq) ∧ w'.cell? ⟨w.heap.size, 0, none⟩ = some (.slice C nc ce)) (by kernel_rfl) ⟨(HP.out _ HX.out).1, (HP.out _ HX.out).2, (HBE.out _ HX.out).1⟩ (fun hHeld => ?_)
      generalize wr.drew = w8 at HX HD hHeld ⊢
      refine wpAnyH_take (i := 0) (oi := _) (v := ?_) rfl (by kernel_rfl) (by kernel_rfl) (by kernel_rfl) (fun _ _ _ h => h) (Or.inl ⟨by rfl, ?_⟩) (by assumption) ?_
      rotate_left
      · (intro w hSw; (try dsimp only at hSw); go_simp <;> with_reducible rfl)
      try simp only [List.getElem_toArray, List.getElem_cons_succ, List.getElem_cons_zero, Act.put, List.setIfInBounds_toArray, List.set_cons_zero, List.set_cons_succ]
      refine wpAnyH_take (i := 1) (oi := _) (v := ?_) rfl (by kernel_rfl) (by kernel_rfl) (by kernel_rfl) (fun _ _ _ h => h) (Or.inl ⟨by rfl, ?_⟩) (by assumption) ?_
      rotate_left
      · (intro w hSw; (try dsimp only at hSw); go_simp <;> with_reducible rfl)
      try simp only [List.getElem_toArray, List.getElem_cons_succ, List.getElem_cons_zero, Act.put, List.setIfInBounds_toArray, List.set_cons_zero, List.set_cons_succ]
      refine wpAnyH_take (i := 2) (oi := _) (v := ?_) rfl (by kernel_rfl) (by kernel_rfl) (by kernel_rfl) (fun _ _ _ h => h) (Or.inl ⟨by rfl, ?_⟩) (by assumption) ?_
      rotate_left
      · (intro w hSw; (try dsimp only at hSw); go_simp <;> with_reducible rfl)
      try simp only [List.getElem_toArray, List.getElem_cons_succ, List.getElem_cons_zero, Act.put, List.setIfInBounds_toArray, List.set_cons_zero, List.set_cons_succ]
      refine wpAnyH_take (i := 3) (oi := _) (v := ?_) rfl (by kernel_rfl) (by kernel_rfl) (by kernel_rfl) (fun _ _ _ h => h) (Or.inl ⟨by rfl, ?_⟩) (by assumption) ?_
      rotate_left
      · (intro w hSw; (try dsimp only at hSw); go_simp <;> with_reducible rfl)
      try simp only [List.getElem_toArray, List.getElem_cons_succ, List.getElem_cons_zero, Act.put, List.setIfInBounds_toArray, List.set_cons_zero, List.set_cons_succ]
      refine wpAnyH_take (i := 4) (oi := _) (v := ?_) rfl (by kernel_rfl) (by kernel_rfl) (by kernel_rfl) (fun _ _ _ h => h) (Or.inl ⟨by rfl, ?_⟩) (by assumption) ?_
      rotate_left
      · (intro w hSw; (try dsimp only at hSw); go_simp <;> with_reducible rfl)
      try simp only [List.getElem_toArray, List.getElem_cons_succ, List.getElem_cons_zero, Act.put, List.setIfInBounds_toArray, List.set_cons_zero, List.set_cons_succ]
      refine wpAnyH_take (i := 5) (oi := _) (v := ?_) rfl (by kernel_rfl) (by kernel_rfl) (by kernel_rfl) (fun _ _ _ h => h) (Or.inl ⟨by rfl, ?_⟩) (by assumption) ?_
      rotate_left
      · (intro w hSw; (try dsimp only at hSw); go_simp <;> with_reducible rfl)
      try simp only [List.getElem_toArray, List.getElem_cons_succ, List.getElem_cons_zero, Act.put, List.setIfInBounds_toArray, List.set_cons_zero, List.set_cons_succ]
      refine wpAnyH_take (i := 6) (oi := _) (v := ?_) rfl (by kernel_rfl) (by kernel_rfl) (by kernel_rfl) (fun _ _ _ h => h) (Or.inl ⟨by rfl, ?_⟩) (by assumption) ?_
      rotate_left
      · (intro w hSw; (try dsimp only at hSw); go_simp <;> with_reducible rfl)
      try simp only [List.getElem_toArray, List.getElem_cons_succ, List.getElem_cons_zero, Act.put, List.setIfInBounds_toArray, List.set_cons_zero, List.set_cons_succ]
      refine wpAnyH_take (i := 7) (oi := _) (v := ?_) rfl (by kernel_rfl) (by kernel_rfl) (by kernel_rfl) (fun _ _ _ h => h) (Or.inl ⟨by rfl, ?_⟩) (by assumption) ?_
      rotate_left
      · (intro w hSw; (try dsimp only at hSw); go_simp <;> with_reducible rfl)
      try simp only [List.getElem_toArray, List.getElem_cons_succ, List.getElem_cons_zero, Act.put, List.setIfInBounds_toArray, List.set_cons_zero, List.set_cons_succ]
      refine wpAnyH_take (i := 8) (oi := _) (v := ?_) rfl (by kernel_rfl) (by kernel_rfl) (by kernel_rfl) (fun _ _ _ h => h) (Or.inl ⟨by rfl, ?_⟩) (by assumption) ?_
      rotate_left
      · (intro w hSw; (try dsimp only at hSw); go_simp <;> with_reducible rfl)
      try simp only [List.getElem_toArray, List.getElem_cons_succ, List.getElem_cons_zero, Act.put, List.setIfInBounds_toArray, List.set_cons_zero, List.set_cons_succ]
      refine wpAnyH_take (i := 9) (oi := _) (v := ?_) rfl (by kernel_rfl) (by kernel_rfl) (by kernel_rfl) (fun _ _ _ h => h) (Or.inl ⟨by rfl, ?_⟩) (by assumption) ?_
      rotate_left
      · (intro w hSw; (try dsimp only at hSw); go_simp <;> with_reducible rfl)
      try simp only [List.getElem_toArray, List.getElem_cons_succ, List.getElem_cons_zero, Act.put, List.setIfInBounds_toArray, List.set_cons_zero, List.set_cons_succ]
      refine wpAnyH_take (i := 10) (oi := _) (v := ?_) rfl (by kernel_rfl) (by kernel_rfl) (by kernel_rfl) (fun _ _ _ h => h) (Or.inl ⟨by rfl, ?_⟩) (by assumption) ?_
      rotate_left
      · (intro w hSw; (try dsimp only at hSw); go_simp <;> with_reducible rfl)
      try simp only [List.getElem_toArray, List.getElem_cons_succ, List.getElem_cons_zero, Act.put, List.setIfInBounds_toArray, List.set_cons_zero, List.set_cons_succ]
      refine wpAnyH_take (i := 11) (oi := _) (v := ?_) rfl (by kernel_rfl) (by kernel_rfl) (by kernel_rfl) (fun _ _ _ h => h) (Or.inl ⟨by rfl, ?_⟩) (by assumption) ?_
      rotate_left
      · (intro w hSw; (try dsimp only at hSw); go_simp <;> with_reducible rfl)
      try simp only [List.getElem_toArray, List.getElem_cons_succ, List.getElem_cons_zero, Act.put, List.setIfInBounds_toArray, List.set_cons_zero, List.set_cons_succ]
      refine wpAnyH_take (i := 12) (oi := _) (v := ?_) rfl (by kernel_rfl) (by kernel_rfl) (by kernel_rfl) (fun _ _ _ h => h) (Or.inl ⟨by rfl, ?_⟩) (by assumption) ?_
      rotate_left
      · (intro w hSw; (try dsimp only at hSw); go_simp <;> with_reducible rfl)
      try simp only [List.getElem_toArray, List.getElem_cons_succ, List.getElem_cons_zero, Act.put, List.setIfInBounds_toArray, List.set_cons_zero, List.set_cons_succ]
      refine wpAnyH_take (i := 13) (oi := _) (v := ?_) rfl (by kernel_rfl) (by kernel_rfl) (by kernel_rfl) (fun _ _ _ h => h) (Or.inl ⟨by rfl, ?_⟩) (by assumption) ?_
      rotate_left
      · (intro w hSw; (try dsimp only at hSw); go_simp <;> with_reducible rfl)
      try simp only [List.getElem_toArray, List.getElem_cons_succ, List.getElem_cons_zero, Act.put, List.setIfInBounds_toArray, List.set_cons_zero, List.set_cons_succ]
      refine wpAnyH_take (i := 14) (oi := _) (v := ?_) rfl (by kernel_rfl) (by kernel_rfl) (by kernel_rfl) (fun _ _ _ h => h) (Or.inl ⟨by rfl, ?_⟩) (by assumption) ?_
      rotate_left
      · (intro w hSw; (try dsimp only at hSw); go_simp <;> with_reducible rfl)
      try simp only [List.getElem_toArray, List.getElem_cons_succ, List.getElem_cons_zero, Act.put, List.setIfInBounds_toArray, List.set_cons_zero, List.set_cons_succ]
      refine wpAnyH_take (i := 15) (oi := _) (v := ?_) rfl (by kernel_rfl) (by kernel_rfl) (by kernel_rfl) (fun _ _ _ h => h) (Or.inl ⟨by rfl, ?_⟩) (by assumption) ?_
      rotate_left
      · (intro w hSw; (try dsimp only at hSw); go_simp <;> with_reducible rfl)
      try simp only [List.getElem_toArray, List.getElem_cons_succ, List.getElem_cons_zero, Act.put, List.setIfInBounds_toArray, List.set_cons_zero, List.set_cons_succ]
      refine wpAnyH_take (i := 16) (oi := _) (v := ?_) rfl (by kernel_rfl) (by kernel_rfl) (by kernel_rfl) (fun _ _ _ h => h) (Or.inl ⟨by rfl, ?_⟩) (by assumption) ?_
      rotate_left
      · (intro w hSw; (try dsimp only at hSw); go_simp <;> with_reducible rfl)
      try simp only [List.getElem_toArray, List.getElem_cons_succ, List.getElem_cons_zero, Act.put, List.setIfInBounds_toArray, List.set_cons_zero, List.set_cons_succ]
      refine wpAnyH_take (i := 17) (oi := _) (v := ?_) rfl (by kernel_rfl) (by kernel_rfl) (by kernel_rfl) (fun _ _ _ h => h) (Or.inl ⟨by rfl, ?_⟩) (by assumption) ?_
      rotate_left
      · (intro w hSw; (try dsimp only at hSw); go_simp <;> with_reducible rfl)
      try simp only [List.getElem_toArray, List.getElem_cons_succ, List.getElem_cons_zero, Act.put, List.setIfInBounds_toArray, List.set_cons_zero, List.set_cons_succ]
      refine wpAnyH_take (i := 18) (oi := _) (v := ?_) rfl (by kernel_rfl) (by kernel_rfl) (by kernel_rfl) (fun _ _ _ h => h) (Or.inl ⟨by rfl, ?_⟩) (by assumption) ?_
      rotate_left
      · (intro w hSw; (try dsimp only at hSw); go_simp <;> with_reducible rfl)
      try simp only [List.getElem_toArray, List.getElem_cons_succ, List.getElem_cons_zero, Act.put, List.setIfInBounds_toArray, List.set_cons_zero, List.set_cons_succ]
      refine wpAnyH_take (i := 19) (oi := _) (v := ?_) rfl (by kernel_rfl) (by kernel_rfl) (by kernel_rfl) (fun _ _ _ h => h) (Or.inl ⟨by rfl, ?_⟩) (by assumption) ?_
      rotate_left
      · (intro w hSw; (try dsimp only at hSw); go_simp <;> with_reducible rfl)
      try simp only [List.getElem_toArray, List.getElem_cons_succ, List.getElem_cons_zero, Act.put, List.setIfInBounds_toArray, List.set_cons_zero, List.set_cons_succ]
      refine wpAnyH_take (i := 20) (oi := _) (v := ?_) rfl (by kernel_rfl) (by kernel_rfl) (by kernel_rfl) (fun _ _ _ h => h) (Or.inl ⟨by rfl, ?_⟩) (by assumption) ?_
      rotate_left
      · (intro w hSw; (try dsimp only at hSw); go_simp <;> with_reducible rfl)
      try simp only [List.getElem_toArray, List.getElem_cons_succ, List.getElem_cons_zero, Act.put, List.setIfInBounds_toArray, List.set_cons_zero, List.set_cons_succ]
      refine wpAnyH_take (i := 21) (oi := _) (v := ?_) rfl (by kernel_rfl) (by kernel_rfl) (by kernel_rfl) (fun _ _ _ h => h) (Or.inl ⟨by rfl, ?_⟩) (by assumption) ?_
      rotate_left
      · (intro w hSw; (try dsimp only at hSw); go_simp <;> with_reducible rfl)
      try simp only [List.getElem_toArray, List.getElem_cons_succ, List.getElem_cons_zero, Act.put, List.setIfInBounds_toArray, List.set_cons_zero, List.set_cons_succ]
      refine wpAnyH_take (i := 22) (oi := _) (v := ?_) rfl (by kernel_rfl) (by kernel_rfl) (by kernel_rfl) (fun _ _ _ h => h) (Or.inl ⟨by rfl, ?_⟩) (by assumption) ?_
      rotate_left
      · (intro w hSw; (try dsimp only at hSw); go_simp <;> with_reducible rfl)
      try simp only [List.getElem_toArray, List.getElem_cons_succ, List.getElem_cons_zero, Act.put, List.setIfInBounds_toArray, List.set_cons_zero, List.set_cons_succ]
      refine wpAnyH_take (i := 23) (oi := _) (v := ?_) rfl (by kernel_rfl) (by kernel_rfl) (by kernel_rfl) (fun _ _ _ h => h) (Or.inl ⟨by rfl, ?_⟩) (by assumption) ?_
      rotate_left
      · (intro w hSw; (try dsimp only at hSw); go_simp <;> with_reducible rfl)
      try simp only [List.getElem_toArray, List.getElem_cons_succ, List.getElem_cons_zero, Act.put, List.setIfInBounds_toArray, List.set_cons_zero, List.set_cons_succ]
      refine wpAnyH_take (i := 24) (oi := _) (v := ?_) rfl (by kernel_rfl) (by kernel_rfl) (by kernel_rfl) (fun _ _ _ h => h) (Or.inl ⟨by rfl, ?_⟩) (by assumption) ?_
      rotate_left
      · (intro w hSw; (try dsimp only at hSw); go_simp <;> with_reducible rfl)
      try simp only [List.getElem_toArray, List.getElem_cons_succ, List.getElem_cons_zero, Act.put, List.setIfInBounds_toArray, List.set_cons_zero, List.set_cons_succ]
      refine wpAnyH_take (i := 25) (oi := _) (v := ?_) rfl (by kernel_rfl) (by kernel_rfl) (by kernel_rfl) (fun _ _ _ h => h) (Or.inl ⟨by rfl, ?_⟩) (by assumption) ?_
      rotate_left
      · (intro w hSw; (try dsimp only at hSw); go_simp <;> with_reducible rfl)
      try simp only [List.getElem_toArray, List.getElem_cons_succ, List.getElem_cons_zero, Act.put, List.setIfInBounds_toArray, List.set_cons_zero, List.set_cons_succ]
      refine wpAnyH_done (by kernel_rfl) ?_ _
      refine NoPanic.normal ?_
      go_wp2_with fail
      clear p0 p1 e0 e1 hHeld
      obtain ⟨p0, p1⟩ := HP.out _ HX.out
      go_loopw [10] (fun i wi => ∃ v : Nat, v ≤ nc ∧ i = .int .i64 v ∧ wi = w8 ∧ Hid (∀ c ∈ Q.take v, c ≤ 1099511627776 ∧ -1099511627776 ≤ c)) (fun i _ => nc - (intOf i).toNat)
      case atStart => exact ⟨0, Nat.zero_le _, rfl, rfl, Lib.hid (by simp)⟩
      case round =>
        obtain ⟨v, hv, rfl, rfl, HC⟩ := hrel
        by_cases hvl : v < nc
        · obtain ⟨aq, rfl, haq, pq⟩ := HQ.out.row.at_ (show v < Q.length by rw [HQN.out]; exact hvl)
          have HCK : Hid (Q.take (v + 1) = Q.take v ++ [Q[v]'(by rw [HQN.out]; exact hvl)]) := Lib.hid (take_nextA _)
          have pq : w2.cell? (aq.add (v * 1)) = some (.int .i64 (Q[v]'(by rw [HQN.out]; exact hvl))) := pq
          rw [Nat.mul_one] at pq
          generalize Q[v]'(by rw [HQN.out]; exact hvl) = cv at *
          have pq := (HX.out.cell (p := aq.add v) (by rw [addr_add_block]; exact haq)).trans pq
          by_cases g1 : cv > 1099511627776
          · go_wp2_with (first | (go_at_call 10; (with_reducible refine (linAwake_any _).mono ?_); rintro e wk ⟨rfl, hb⟩; have HX := Lib.hid (HX.out.trans (hb.mono HX.out.size)); clear hb))
            go_ret
            exact ⟨by first | rfl | simp, HW.out.trans (HX.out.mono HW.out.size)⟩
          by_cases g2 : cv < -1099511627776
          · go_wp2_with (first | (go_at_call 10; (with_reducible refine (linAwake_any _).mono ?_); rintro e wk ⟨rfl, hb⟩; have HX := Lib.hid (HX.out.trans (hb.mono HX.out.size)); clear hb))
            go_ret
            exact ⟨by first | rfl | simp, HW.out.trans (HX.out.mono HW.out.size)⟩
          go_wp2_with fail
          go_roundw
          case rel => exact ⟨v + 1, by omega, by go_num, by trivial, Lib.hid (fun z hz => by rw [HCK.out, List.mem_append, List.mem_singleton] at hz; exact hz.elim (HC.out z) (fun e => ⟨by omega, by omega⟩))⟩
          case measure => simp [intOf]; omega
        · obtain rfl : v = nc := by omega
          have HALL2 : Hid (∀ q ∈ list.take (k + 1), smallB v 1099511627776 1099511627776 q = true) := Lib.hid (fun q hq => by
            rw [HTK.out, List.mem_append, List.mem_singleton] at hq
            rcases hq with hq | rfl
            · exact HALL.out q hq
            · exact small_intro HQN.out (by omega) (by omega) HC.out)
          go_upto_region 14 with fail
          have hknt : k < nt := by omega
          have hwx : IntKind.i64.wrap x = x := IntWalk.i64_in x ⟨by omega, by omega⟩
          have hwy : IntKind.i64.wrap (2 * x) = 2 * x := IntWalk.i64_in (2 * x) ⟨by omega, by omega⟩
          have hsz8 := HX.out.size
          clear p0 p1
          have HB : Hid (Below w2.heap.size w2 wr.drew) := Lib.hid HX.out.drew
          have HD := Lib.hid (HD.out.below (Below.refl _ _).drew)
          refine wp_region_noPanic ?_
          refine wp_region_held_drew (S := fun w' => w'.cell? (bt.add k) = some (.int .u8 x)) (by kernel_rfl) (HKS.out _ HB.out) (fun hHeld => ?_)
          generalize wr.drew = w9 at HB HD hHeld ⊢
          refine wpAnyH_take (i := 0) (oi := _) (v := ?_) rfl (by kernel_rfl) (by kernel_rfl) (by kernel_rfl) (fun _ _ _ h => h) (Or.inl ⟨by rfl, ?_⟩) (by assumption) ?_
          rotate_left
          · (intro w hSw; (try dsimp only at hSw); go_simp <;> with_reducible rfl)
          try simp only [List.getElem_toArray, List.getElem_cons_succ, List.getElem_cons_zero, Act.put, List.setIfInBounds_toArray, List.set_cons_zero, List.set_cons_succ]
          refine wpAnyH_take (i := 1) (oi := _) (v := ?_) rfl (by kernel_rfl) (by kernel_rfl) (by kernel_rfl) (fun _ _ _ h => h) (Or.inl ⟨by rfl, ?_⟩) (by assumption) ?_
          rotate_left
          · (intro w hSw; (try dsimp only at hSw); go_simp <;> with_reducible rfl)
          try simp only [List.getElem_toArray, List.getElem_cons_succ, List.getElem_cons_zero, Act.put, List.setIfInBounds_toArray, List.set_cons_zero, List.set_cons_succ]
          refine wpAnyH_take (i := 2) (oi := _) (v := ?_) rfl (by kernel_rfl) (by kernel_rfl) (by kernel_rfl) (fun _ _ _ h => h) (Or.inl ⟨by rfl, ?_⟩) (by assumption) ?_
          rotate_left
          · (intro w hSw; (try dsimp only at hSw); go_simp <;> with_reducible rfl)
          try simp only [List.getElem_toArray, List.getElem_cons_succ, List.getElem_cons_zero, Act.put, List.setIfInBounds_toArray, List.set_cons_zero, List.set_cons_succ]
          refine wpAnyH_take (i := 3) (oi := _) (v := ?_) rfl (by kernel_rfl) (by kernel_rfl) (by kernel_rfl) (fun _ _ _ h => h) (Or.inl ⟨by rfl, ?_⟩) (by assumption) ?_
          rotate_left
          · (intro w hSw; (try dsimp only at hSw); go_simp <;> with_reducible rfl)
          try simp only [List.getElem_toArray, List.getElem_cons_succ, List.getElem_cons_zero, Act.put, List.setIfInBounds_toArray, List.set_cons_zero, List.set_cons_succ]
          refine wpAnyH_take (i := 4) (oi := _) (v := ?_) rfl (by kernel_rfl) (by kernel_rfl) (by kernel_rfl) (fun _ _ _ h => h) (Or.inl ⟨by rfl, ?_⟩) (by assumption) ?_
          rotate_left
          · (intro w hSw; (try dsimp only at hSw); go_simp <;> with_reducible rfl)
          try simp only [List.getElem_toArray, List.getElem_cons_succ, List.getElem_cons_zero, Act.put, List.setIfInBounds_toArray, List.set_cons_zero, List.set_cons_succ]
          refine wpAnyH_take (i := 5) (oi := _) (v := ?_) rfl (by kernel_rfl) (by kernel_rfl) (by kernel_rfl) (fun _ _ _ h => h) (Or.inl ⟨by rfl, ?_⟩) (by assumption) ?_
          rotate_left
          · (intro w hSw; (try dsimp only at hSw); go_simp <;> with_reducible rfl)
          try simp only [List.getElem_toArray, List.getElem_cons_succ, List.getElem_cons_zero, Act.put, List.setIfInBounds_toArray, List.set_cons_zero, List.set_cons_succ]
          refine wpAnyH_take (i := 8) (oi := _) (v := ?_) rfl (by kernel_rfl) (by kernel_rfl) (by kernel_rfl) (fun _ _ _ h => h) (Or.inl ⟨by rfl, ?_⟩) (by assumption) ?_
          rotate_left
          · (intro w hSw; (try dsimp only at hSw); go_simp <;> with_reducible rfl)
          try simp only [List.getElem_toArray, List.getElem_cons_succ, List.getElem_cons_zero, Act.put, List.setIfInBounds_toArray, List.set_cons_zero, List.set_cons_succ]
          refine wpAnyH_take (i := 9) (oi := _) (v := ?_) rfl (by kernel_rfl) (by kernel_rfl) (by kernel_rfl) (fun _ _ _ h => h) (Or.inl ⟨by rfl, ?_⟩) (by assumption) ?_
          rotate_left
          · (intro w hSw; (try dsimp only at hSw); go_simp <;> with_reducible rfl)
          try simp only [List.getElem_toArray, List.getElem_cons_succ, List.getElem_cons_zero, Act.put, List.setIfInBounds_toArray, List.set_cons_zero, List.set_cons_succ]
          refine wpAnyH_take (i := 10) (oi := _) (v := ?_) rfl (by kernel_rfl) (by kernel_rfl) (by kernel_rfl) (fun _ _ _ h => h) (Or.inl ⟨by rfl, ?_⟩) (by assumption) ?_
          rotate_left
          · (intro w hSw; (try dsimp only at hSw); go_simp <;> with_reducible rfl)
          try simp only [List.getElem_toArray, List.getElem_cons_succ, List.getElem_cons_zero, Act.put, List.setIfInBounds_toArray, List.set_cons_zero, List.set_cons_succ]
          refine wpAnyH_take (i := 11) (oi := _) (v := ?_) rfl (by kernel_rfl) (by kernel_rfl) (by kernel_rfl) (fun _ _ _ h => h) (Or.inl ⟨by rfl, ?_⟩) (by assumption) ?_
          rotate_left
          · (intro w hSw; (try dsimp only at hSw); go_simp <;> with_reducible rfl)
          try simp only [List.getElem_toArray, List.getElem_cons_succ, List.getElem_cons_zero, Act.put, List.setIfInBounds_toArray, List.set_cons_zero, List.set_cons_succ]
          refine wpAnyH_take (i := 12) (oi := _) (v := ?_) rfl (by kernel_rfl) (by kernel_rfl) (by kernel_rfl) (fun _ _ _ h => h) (Or.inl ⟨by rfl, ?_⟩) (by assumption) ?_
          rotate_left
          · (intro w hSw; (try dsimp only at hSw); go_simp <;> with_reducible rfl)
          try simp only [List.getElem_toArray, List.getElem_cons_succ, List.getElem_cons_zero, Act.put, List.setIfInBounds_toArray, List.set_cons_zero, List.set_cons_succ]
          refine wpAnyH_take (i := 13) (oi := _) (v := ?_) rfl (by kernel_rfl) (by kernel_rfl) (by kernel_rfl) (fun _ _ _ h => h) (Or.inl ⟨by rfl, ?_⟩) (by assumption) ?_
          rotate_left
          · (intro w hSw; (try dsimp only at hSw); go_simp <;> with_reducible rfl)
          try simp only [List.getElem_toArray, List.getElem_cons_succ, List.getElem_cons_zero, Act.put, List.setIfInBounds_toArray, List.set_cons_zero, List.set_cons_succ]
          refine wpAnyH_take (i := 14) (oi := _) (v := ?_) rfl (by kernel_rfl) (by kernel_rfl) (by kernel_rfl) (fun _ _ _ h => h) (Or.inl ⟨by rfl, ?_⟩) (by assumption) ?_
          rotate_left
          · (intro w hSw; (try dsimp only at hSw); go_simp <;> with_reducible rfl)
          try simp only [List.getElem_toArray, List.getElem_cons_succ, List.getElem_cons_zero, Act.put, List.setIfInBounds_toArray, List.set_cons_zero, List.set_cons_succ]
          refine wpAnyH_ready (rs := [6, 15]) (by kernel_rfl) (by simp) ?_
          refine (AllReadyH.cons (o := _) rfl (fun K hK => ?_) (AllReadyH.cons (o := _) rfl (fun K hK => ?_) AllReadyH.nil))
          · go_simp
            have HD := Lib.hid (HD.out.boxX x); have HB : Hid (Below w2.heap.size w2 ((w9).alloc (.cells #[.int .i64 x] 3))) := Lib.hid (HB.out.alloc HB.out.size _); generalize ((w9).alloc (.cells #[.int .i64 x] 3)) = w101 at HD HB ⊢
            refine hK.out _ _ (HKS.out _ HB.out) (fun hHeld => ?_)
            clear hK K
            try simp only [List.getElem_toArray, List.getElem_cons_succ, List.getElem_cons_zero, Act.put, List.setIfInBounds_toArray, List.set_cons_zero, List.set_cons_succ]
            refine wpAnyH_ready (rs := [7, 15]) (by kernel_rfl) (by simp) ?_
            refine (AllReadyH.cons (o := _) rfl (fun K hK => ?_) (AllReadyH.cons (o := _) rfl (fun K hK => ?_) AllReadyH.nil))
            · have hsz := HB.out.size; have hsz : w2.heap.size ≤ _ := Nat.le_trans hB2 hsz; refine step_append_lies _ rfl _ _ 23 rfl w2.heap.size 3 i0 (.int .i64 0) 1 8 Try.underlying23 hi hz0 hz1 hz2 rfl (by decide) _ T.length (T.map (Value.int .i64)) rfl HD.out.t ⟨w9.heap.size, 0, none⟩ 1 1 [.int .i64 x] rfl rfl (box_cell (HD.out.bx _ rfl).1) (one_cellv rfl) (by decide) (by unfold maxLen; omega) (by omega) hsz _ rfl ?_; intro g103 c103 w103 hown hgrow hor hlt9; have hgrow : World.grownBy _ w103 (some ga) := hgrow; have HB := Lib.hid (appK_more HB.out (own_lower HD.out.t hB2) HB.out.size hgrow); have HD := Lib.hid (HD.out.onT hgrow hown hor); clear hown hgrow hor hlt9 hsz
              refine hK.out _ _ (HKS.out _ HB.out) (fun hHeld => ?_)
              clear hK K
              try simp only [List.getElem_toArray, List.getElem_cons_succ, List.getElem_cons_zero, Act.put, List.setIfInBounds_toArray, List.set_cons_zero, List.set_cons_succ]
              refine wpAnyH_ready (rs := [15]) (by kernel_rfl) (by simp) ?_
              refine AllReadyH.cons (o := _) rfl (fun K hK => ?_) AllReadyH.nil
              go_simp
              have HD := Lib.hid (HD.out.boxY (2 * x)); have HB : Hid (Below w2.heap.size w2 ((w103).alloc (.cells #[.int .i64 (2 * x)] 3))) := Lib.hid (HB.out.alloc HB.out.size _); generalize ((w103).alloc (.cells #[.int .i64 (2 * x)] 3)) = w105 at HD HB ⊢
              refine hK.out _ _ (HKS.out _ HB.out) (fun hHeld => ?_)
              clear hK K
              try simp only [List.getElem_toArray, List.getElem_cons_succ, List.getElem_cons_zero, Act.put, List.setIfInBounds_toArray, List.set_cons_zero, List.set_cons_succ]
              refine wpAnyH_ready (rs := [16]) (by kernel_rfl) (by simp) ?_
              refine AllReadyH.cons (o := _) rfl (fun K hK => ?_) AllReadyH.nil
              have hsz := HB.out.size; have hsz : w2.heap.size ≤ _ := Nat.le_trans hB2 hsz; refine step_append_lies _ rfl _ _ 23 rfl w2.heap.size 3 i0 (.int .i64 0) 1 8 Try.underlying23 hi hz0 hz1 hz2 rfl (by decide) _ U.length (U.map (Value.int .i64)) rfl HD.out.u ⟨w103.heap.size, 0, none⟩ 1 1 [.int .i64 (2 * x)] rfl rfl (box_cell (HD.out.by_ _ rfl).1) (one_cellv rfl) (by decide) (by unfold maxLen; omega) (by omega) hsz _ rfl ?_; intro g106 c106 w106 hown hgrow hor hlt9; have hgrow : World.grownBy _ w106 (some gb) := hgrow; have HB := Lib.hid (appK_more HB.out (own_lower HD.out.u hB2) HB.out.size hgrow); have HD := Lib.hid (HD.out.onU hgrow hown hor); clear hown hgrow hor hlt9 hsz
              refine hK.out _ _ (HKS.out _ HB.out) (fun hHeld => ?_)
              clear hK K
              try simp only [List.getElem_toArray, List.getElem_cons_succ, List.getElem_cons_zero, Act.put, List.setIfInBounds_toArray, List.set_cons_zero, List.set_cons_succ]
              refine wpAnyH_take (i := 17) (oi := _) (v := ?_) rfl (by kernel_rfl) (by kernel_rfl) (by kernel_rfl) (fun _ _ _ h => h) (Or.inl ⟨by rfl, ?_⟩) (by assumption) ?_
              rotate_left
              · (intro w hSw; (try dsimp only at hSw); go_simp <;> with_reducible rfl)
              try simp only [List.getElem_toArray, List.getElem_cons_succ, List.getElem_cons_zero, Act.put, List.setIfInBounds_toArray, List.set_cons_zero, List.set_cons_succ]
              refine wpAnyH_take (i := 18) (oi := _) (v := ?_) rfl (by kernel_rfl) (by kernel_rfl) (by kernel_rfl) (fun _ _ _ h => h) (Or.inl ⟨by rfl, ?_⟩) (by assumption) ?_
              rotate_left
              · (intro w hSw; (try dsimp only at hSw); go_simp <;> with_reducible rfl)
              try simp only [List.getElem_toArray, List.getElem_cons_succ, List.getElem_cons_zero, Act.put, List.setIfInBounds_toArray, List.set_cons_zero, List.set_cons_succ]
              refine wpAnyH_done (by kernel_rfl) ?_ _
              refine NoPanic.normal ?_
              go_wp2_with fail
              go_roundw
              case rel => exact ⟨k + 1, _, _, T ++ [x], _, _, U ++ [2 * x], by omega, by go_num, by simp, by simp, Lib.hid ⟨by rw [HTX.out, HTU.out.1], by rw [HTX.out, HTU.out.2, List.map_append]; rfl⟩, Lib.hid HD.out.forget, HB, HALL2⟩
              case measure => simp [intOf]; omega
            · go_simp
              have HD := Lib.hid (HD.out.boxY (2 * x)); have HB : Hid (Below w2.heap.size w2 ((w101).alloc (.cells #[.int .i64 (2 * x)] 3))) := Lib.hid (HB.out.alloc HB.out.size _); generalize ((w101).alloc (.cells #[.int .i64 (2 * x)] 3)) = w104 at HD HB ⊢
              refine hK.out _ _ (HKS.out _ HB.out) (fun hHeld => ?_)
              clear hK K
              try simp only [List.getElem_toArray, List.getElem_cons_succ, List.getElem_cons_zero, Act.put, List.setIfInBounds_toArray, List.set_cons_zero, List.set_cons_succ]
              refine wpAnyH_ready (rs := [7]) (by kernel_rfl) (by simp) ?_
              refine AllReadyH.cons (o := _) rfl (fun K hK => ?_) AllReadyH.nil
              have hsz := HB.out.size; have hsz : w2.heap.size ≤ _ := Nat.le_trans hB2 hsz; refine step_append_lies _ rfl _ _ 23 rfl w2.heap.size 3 i0 (.int .i64 0) 1 8 Try.underlying23 hi hz0 hz1 hz2 rfl (by decide) _ T.length (T.map (Value.int .i64)) rfl HD.out.t ⟨w9.heap.size, 0, none⟩ 1 1 [.int .i64 x] rfl rfl (box_cell (HD.out.bx _ rfl).1) (one_cellv rfl) (by decide) (by unfold maxLen; omega) (by omega) hsz _ rfl ?_; intro g107 c107 w107 hown hgrow hor hlt9; have hgrow : World.grownBy _ w107 (some ga) := hgrow; have HB := Lib.hid (appK_more HB.out (own_lower HD.out.t hB2) HB.out.size hgrow); have HD := Lib.hid (HD.out.onT hgrow hown hor); clear hown hgrow hor hlt9 hsz
              refine hK.out _ _ (HKS.out _ HB.out) (fun hHeld => ?_)
              clear hK K
              try simp only [List.getElem_toArray, List.getElem_cons_succ, List.getElem_cons_zero, Act.put, List.setIfInBounds_toArray, List.set_cons_zero, List.set_cons_succ]
              refine wpAnyH_ready (rs := [16]) (by kernel_rfl) (by simp) ?_
              refine AllReadyH.cons (o := _) rfl (fun K hK => ?_) AllReadyH.nil
              have hsz := HB.out.size; have hsz : w2.heap.size ≤ _ := Nat.le_trans hB2 hsz; refine step_append_lies _ rfl _ _ 23 rfl w2.heap.size 3 i0 (.int .i64 0) 1 8 Try.underlying23 hi hz0 hz1 hz2 rfl (by decide) _ U.length (U.map (Value.int .i64)) rfl HD.out.u ⟨w101.heap.size, 0, none⟩ 1 1 [.int .i64 (2 * x)] rfl rfl (box_cell (HD.out.by_ _ rfl).1) (one_cellv rfl) (by decide) (by unfold maxLen; omega) (by omega) hsz _ rfl ?_; intro g108 c108 w108 hown hgrow hor hlt9; have hgrow : World.grownBy _ w108 (some gb) := hgrow; have HB := Lib.hid (appK_more HB.out (own_lower HD.out.u hB2) HB.out.size hgrow); have HD := Lib.hid (HD.out.onU hgrow hown hor); clear hown hgrow hor hlt9 hsz
              refine hK.out _ _ (HKS.out _ HB.out) (fun hHeld => ?_)
              clear hK K
              try simp only [List.getElem_toArray, List.getElem_cons_succ, List.getElem_cons_zero, Act.put, List.setIfInBounds_toArray, List.set_cons_zero, List.set_cons_succ]
              refine wpAnyH_take (i := 17) (oi := _) (v := ?_) rfl (by kernel_rfl) (by kernel_rfl) (by kernel_rfl) (fun _ _ _ h => h) (Or.inl ⟨by rfl, ?_⟩) (by assumption) ?_
              rotate_left
              · (intro w hSw; (try dsimp only at hSw); go_simp <;> with_reducible rfl)
              try simp only [List.getElem_toArray, List.getElem_cons_succ, List.getElem_cons_zero, Act.put, List.setIfInBounds_toArray, List.set_cons_zero, List.set_cons_succ]
              refine wpAnyH_take (i := 18) (oi := _) (v := ?_) rfl (by kernel_rfl) (by kernel_rfl) (by kernel_rfl) (fun _ _ _ h => h) (Or.inl ⟨by rfl, ?_⟩) (by assumption) ?_
              rotate_left
              · (intro w hSw; (try dsimp only at hSw); go_simp <;> with_reducible rfl)
              try simp only [List.getElem_toArray, List.getElem_cons_succ, List.getElem_cons_zero, Act.put, List.setIfInBounds_toArray, List.set_cons_zero, List.set_cons_succ]
              refine wpAnyH_done (by kernel_rfl) ?_ _
              refine NoPanic.normal ?_
              go_wp2_with fail
              go_roundw
              case rel => exact ⟨k + 1, _, _, T ++ [x], _, _, U ++ [2 * x], by omega, by go_num, by simp, by simp, Lib.hid ⟨by rw [HTX.out, HTU.out.1], by rw [HTX.out, HTU.out.2, List.map_append]; rfl⟩, Lib.hid HD.out.forget, HB, HALL2⟩
              case measure => simp [intOf]; omega
          · go_simp
            have HD := Lib.hid (HD.out.boxY (2 * x)); have HB : Hid (Below w2.heap.size w2 ((w9).alloc (.cells #[.int .i64 (2 * x)] 3))) := Lib.hid (HB.out.alloc HB.out.size _); generalize ((w9).alloc (.cells #[.int .i64 (2 * x)] 3)) = w102 at HD HB ⊢
            refine hK.out _ _ (HKS.out _ HB.out) (fun hHeld => ?_)
            clear hK K
            try simp only [List.getElem_toArray, List.getElem_cons_succ, List.getElem_cons_zero, Act.put, List.setIfInBounds_toArray, List.set_cons_zero, List.set_cons_succ]
            refine wpAnyH_ready (rs := [6]) (by kernel_rfl) (by simp) ?_
            refine AllReadyH.cons (o := _) rfl (fun K hK => ?_) AllReadyH.nil
            go_simp
            have HD := Lib.hid (HD.out.boxX x); have HB : Hid (Below w2.heap.size w2 ((w102).alloc (.cells #[.int .i64 x] 3))) := Lib.hid (HB.out.alloc HB.out.size _); generalize ((w102).alloc (.cells #[.int .i64 x] 3)) = w109 at HD HB ⊢
            refine hK.out _ _ (HKS.out _ HB.out) (fun hHeld => ?_)
            clear hK K
            try simp only [List.getElem_toArray, List.getElem_cons_succ, List.getElem_cons_zero, Act.put, List.setIfInBounds_toArray, List.set_cons_zero, List.set_cons_succ]
            refine wpAnyH_ready (rs := [7]) (by kernel_rfl) (by simp) ?_
            refine AllReadyH.cons (o := _) rfl (fun K hK => ?_) AllReadyH.nil
            have hsz := HB.out.size; have hsz : w2.heap.size ≤ _ := Nat.le_trans hB2 hsz; refine step_append_lies _ rfl _ _ 23 rfl w2.heap.size 3 i0 (.int .i64 0) 1 8 Try.underlying23 hi hz0 hz1 hz2 rfl (by decide) _ T.length (T.map (Value.int .i64)) rfl HD.out.t ⟨w102.heap.size, 0, none⟩ 1 1 [.int .i64 x] rfl rfl (box_cell (HD.out.bx _ rfl).1) (one_cellv rfl) (by decide) (by unfold maxLen; omega) (by omega) hsz _ rfl ?_; intro g110 c110 w110 hown hgrow hor hlt9; have hgrow : World.grownBy _ w110 (some ga) := hgrow; have HB := Lib.hid (appK_more HB.out (own_lower HD.out.t hB2) HB.out.size hgrow); have HD := Lib.hid (HD.out.onT hgrow hown hor); clear hown hgrow hor hlt9 hsz
            refine hK.out _ _ (HKS.out _ HB.out) (fun hHeld => ?_)
            clear hK K
            try simp only [List.getElem_toArray, List.getElem_cons_succ, List.getElem_cons_zero, Act.put, List.setIfInBounds_toArray, List.set_cons_zero, List.set_cons_succ]
            refine wpAnyH_ready (rs := [16]) (by kernel_rfl) (by simp) ?_
            refine AllReadyH.cons (o := _) rfl (fun K hK => ?_) AllReadyH.nil
            have hsz := HB.out.size; have hsz : w2.heap.size ≤ _ := Nat.le_trans hB2 hsz; refine step_append_lies _ rfl _ _ 23 rfl w2.heap.size 3 i0 (.int .i64 0) 1 8 Try.underlying23 hi hz0 hz1 hz2 rfl (by decide) _ U.length (U.map (Value.int .i64)) rfl HD.out.u ⟨w9.heap.size, 0, none⟩ 1 1 [.int .i64 (2 * x)] rfl rfl (box_cell (HD.out.by_ _ rfl).1) (one_cellv rfl) (by decide) (by unfold maxLen; omega) (by omega) hsz _ rfl ?_; intro g111 c111 w111 hown hgrow hor hlt9; have hgrow : World.grownBy _ w111 (some gb) := hgrow; have HB := Lib.hid (appK_more HB.out (own_lower HD.out.u hB2) HB.out.size hgrow); have HD := Lib.hid (HD.out.onU hgrow hown hor); clear hown hgrow hor hlt9 hsz
            refine hK.out _ _ (HKS.out _ HB.out) (fun hHeld => ?_)
            clear hK K
            try simp only [List.getElem_toArray, List.getElem_cons_succ, List.getElem_cons_zero, Act.put, List.setIfInBounds_toArray, List.set_cons_zero, List.set_cons_succ]
            refine wpAnyH_take (i := 17) (oi := _) (v := ?_) rfl (by kernel_rfl) (by kernel_rfl) (by kernel_rfl) (fun _ _ _ h => h) (Or.inl ⟨by rfl, ?_⟩) (by assumption) ?_
            rotate_left
            · (intro w hSw; (try dsimp only at hSw); go_simp <;> with_reducible rfl)
            try simp only [List.getElem_toArray, List.getElem_cons_succ, List.getElem_cons_zero, Act.put, List.setIfInBounds_toArray, List.set_cons_zero, List.set_cons_succ]
            refine wpAnyH_take (i := 18) (oi := _) (v := ?_) rfl (by kernel_rfl) (by kernel_rfl) (by kernel_rfl) (fun _ _ _ h => h) (Or.inl ⟨by rfl, ?_⟩) (by assumption) ?_
            rotate_left
            · (intro w hSw; (try dsimp only at hSw); go_simp <;> with_reducible rfl)
            try simp only [List.getElem_toArray, List.getElem_cons_succ, List.getElem_cons_zero, Act.put, List.setIfInBounds_toArray, List.set_cons_zero, List.set_cons_succ]
            refine wpAnyH_done (by kernel_rfl) ?_ _
            refine NoPanic.normal ?_
            go_wp2_with fail
            go_roundw
            case rel => exact ⟨k + 1, _, _, T ++ [x], _, _, U ++ [2 * x], by omega, by go_num, by simp, by simp, Lib.hid ⟨by rw [HTX.out, HTU.out.1], by rw [HTX.out, HTU.out.2, List.map_append]; rfl⟩, Lib.hid HD.out.forget, HB, HALL2⟩
            case measure => simp [intOf]; omega
    · obtain rfl : k = n := by omega
      have hTl : (ts.take k).length = k := by rw [List.length_take, HTN.out]; omega
      obtain ⟨rfl, rfl⟩ := HTU.out
      have HALL2 : Hid (∀ q ∈ list, smallB nw 1099511627776 1099511627776 q = true) := Lib.hid (by have h := HALL.out; rw [← HLN.out, List.take_length] at h; exact h)
      have HTS : Hid (∀ t ∈ ts.take k, 0 ≤ t ∧ t ≤ 255) := Lib.hid (fun t ht => HTR.out t (List.mem_of_mem_take ht))
      obtain ⟨T, hT⟩ : ∃ T, ts.take k = T := ⟨_, rfl⟩
      rw [hT] at HD HTS hTl ⊢
      clear hT HTU HALL
      have HTL := Lib.hid hTl
      have HDT := Lib.hid HD.out.intsT
      have HDU := Lib.hid HD.out.intsU
      have HTO := Lib.hid HD.out.t
      have hga := (own_lit HD.out.t).1
      have hul : (T.map (2 * ·)).length = T.length := List.length_map _
      have HUL := Lib.hid hul
      rw [hul]
      clear hul hTl
      go_upto_if 122 with fail
      by_cases hw50 : nw > 50
      · have hwi : (nw : Int) > 50 := by omega
        go_wp2_with (first | (go_at_call 10; (with_reducible refine (linAwake_any _).mono ?_); rintro e wk ⟨rfl, hb⟩; have HX := Lib.hid (HX.out.trans (hb.mono HX.out.size)); clear hb))
        go_ret
        exact ⟨by first | rfl | simp, HW.out.trans (HX.out.mono HW.out.size)⟩
      have hwi : ¬ (nw : Int) > 50 := by omega
      obtain ⟨hs1, hs2, hcm, hcl⟩ := adds_facts (n := nw) (list := list) (T := T) (by rw [HLN.out, HTL.out]) (by rw [HLN.out]; omega) (by omega) HTS.out HALL2.out
      have HCN := Lib.hid (colsI_len list T nw)
      generalize colsI list T nw = CL at *
      generalize dotI (list.map Prod.snd) T = CM at *
      have HS1 := Lib.hid hs1
      have HS2 := Lib.hid hs2
      have HCB := Lib.hid hcl
      have HCN2 : Hid ((CL.map (2 * ·)).length = nw) := Lib.hid (by rw [List.length_map]; exact HCN.out)
      have HPV := Lib.hid (proves_self hs1 HCN.out)
      have H1w := Lib.hid (lslcUp IneqAt.keeps H1.out HX.out)
      have HR0 : Hid (Below wr.heap.size wr wr) := Lib.hid (Below.refl _ _)
      have hcm2 : IntKind.i64.wrap (2 * CM) = 2 * CM := IntWalk.i64_in (2 * CM) ⟨by omega, by omega⟩
      clear hs1 hs2 hcl
      go_upto_region 19 with (go_at_call 11; (with_reducible refine (lsum_new H1w HDT HR0 (Lib.hid ⟨HLN.out, rfl⟩) HF HS1 HCN).mono ?_); rintro e w7 ⟨A7, c7, rfl, hb, hs, hnw⟩; have HX := Lib.hid (HX.out.trans (hb.mono HX.out.size)); have HY := Lib.hid hb; have HS7 := Lib.hid hs; have HA7 := Lib.hid hnw; clear hb hs hnw)
      have HG7 : Hid (ga ≠ w7.heap.size ∧ ga ≠ w.heap.size) := Lib.hid ⟨by have := HY.out.size; omega, by have h1 := (own_lit HTO.out).2; have h2 := HZ.out; omega⟩
      have HC : Hid (Cells (w7.alloc (.cells #[.slice A7 nw c7, .int .i64 CM] 27)) w7.heap.size [.slice A7 nw c7, .int .i64 CM]) := Lib.hid (cells_new w7 [.slice A7 nw c7, .int .i64 CM] 27)
      have HZ7 : Hid (w7.heap.size < (w7.alloc (.cells #[.slice A7 nw c7, .int .i64 CM] 27)).heap.size) := Lib.hid (by simp)
      have HA7' : Hid (Below w7.heap.size w7 (w7.alloc (.cells #[.slice A7 nw c7, .int .i64 CM] 27))) := Lib.hid ((Below.refl _ _).alloc (Nat.le_refl _) _)
      have HS8 := Lib.hid (lslcUp IntAt.keeps HS7.out HA7'.out)
      have HY8 := Lib.hid (HY.out.trans (HA7'.out.mono HY.out.size))
      have HX8 := Lib.hid (HX.out.trans (HA7'.out.mono HX.out.size))
      change Code.wp _ _ _ _ (w7.alloc (.cells #[.slice A7 nw c7, .int .i64 CM] 27))
      generalize w7.alloc (.cells #[.slice A7 nw c7, .int .i64 CM] 27) = w8 at *
      clear HX HY HS7 HA7'
      have HX := HX8
      go_upto_region 20 with (go_at_call 11; (with_reducible refine (lsum_yes H1w HDU HY8 (Lib.hid ⟨HLN.out, HUL.out⟩) HF HS2 HCN2).mono ?_); rintro e w9 ⟨A9, c9, rfl, hb, hs⟩; have HX := Lib.hid (HX.out.trans (hb.mono HX.out.size)); have HY := Lib.hid hb; have HS9 := Lib.hid hs; clear hb hs)
      have HC9 := Lib.hid (HC.out.keep HY.out HZ7.out)
      have HE : Hid (Cells (w9.alloc (.cells #[.slice A9 nw c9, .int .i64 (2 * CM)] 27)) w9.heap.size [.slice A9 nw c9, .int .i64 (2 * CM)]) := Lib.hid (cells_new w9 [.slice A9 nw c9, .int .i64 (2 * CM)] 27)
      have HZ9 : Hid (w9.heap.size < (w9.alloc (.cells #[.slice A9 nw c9, .int .i64 (2 * CM)] 27)).heap.size) := Lib.hid (by simp)
      have HA9 : Hid (Below w9.heap.size w9 (w9.alloc (.cells #[.slice A9 nw c9, .int .i64 (2 * CM)] 27))) := Lib.hid ((Below.refl _ _).alloc (Nat.le_refl _) _)
      have HZ79 : Hid (w7.heap.size < w9.heap.size) := Lib.hid (Nat.lt_of_lt_of_le HZ7.out HY.out.size)
      have HC := Lib.hid (HC9.out.keep HA9.out HZ79.out)
      have HZ7 : Hid (w7.heap.size < (w9.alloc (.cells #[.slice A9 nw c9, .int .i64 (2 * CM)] 27)).heap.size) := Lib.hid (Nat.lt_of_lt_of_le HZ79.out HA9.out.size)
      have HY9 := Lib.hid (HY.out.trans (HA9.out.mono HY.out.size))
      have HS8 := Lib.hid (lslcUp IntAt.keeps HS8.out HY9.out)
      have HS9 := Lib.hid (lslcUp IntAt.keeps HS9.out HA9.out)
      have HX8 := Lib.hid (HX.out.trans (HA9.out.mono HX.out.size))
      have HY10 := Lib.hid (HY8.out.trans (HY9.out.mono HY8.out.size))
      change Code.wp _ _ _ _ (w9.alloc (.cells #[.slice A9 nw c9, .int .i64 (2 * CM)] 27))
      generalize w9.alloc (.cells #[.slice A9 nw c9, .int .i64 (2 * CM)] 27) = w10 at *
      have HTO := Lib.hid (own_below HTO.out HY10.out (own_block_lt HTO.out))
      have HA7B : Hid (CL ≠ [] → ∀ ad, A7 = some ad → ga ≠ ad.block ∧ ad.block < w10.heap.size) := Lib.hid (fun hne ad e => by
        have h1 := HA7.out ad e
        refine ⟨by omega, ?_⟩
        obtain ⟨ad', e', hb, _⟩ := HS8.out.row.at_ (show 0 < CL.length from List.length_pos_iff.mpr hne)
        rw [e] at e'
        injection e' with e'
        rw [e']
        exact hb)
      have hc7 := HS8.out.cap
      have hl7 := HS8.out.le
      rw [HCN.out] at hl7
      have hc9 := HS9.out.cap
      have hl9 := HS9.out.le
      rw [HCN2.out] at hl9
      have HXX := HX8
      clear HX8 HY10 HY9 HY8 HY HX HC9 HZ79 HA9 HA7 hga hcm
      have HX := HXX
      clear HXX
      have d0 := HC.out 0 _ rfl
      have d1 := HC.out 1 _ rfl
      have f0 := HE.out 0 _ rfl
      have f1 := HE.out 1 _ rfl
      have hne : ((nw : Int) != (nw : Int)) = false := bne_eq_false_iff_eq.mpr rfl
      go_wp2_with fail
      clear d0 d1 f0 f1
      have HR10 : Hid (Below w10.heap.size w10 w10) := Lib.hid (Below.refl _ _)
      go_loopw [16] (fun i wi => ∃ v : Nat, v ≤ nw ∧ i = .int .i64 v ∧ Hid (Below w10.heap.size w10 wi)) (fun i _ => nw - (intOf i).toNat)
      case atStart => exact ⟨0, Nat.zero_le _, rfl, HR10⟩
      case round =>
        obtain ⟨v, hv, rfl, HV⟩ := hrel
        by_cases hvl : v < nw
        · obtain ⟨a7, rfl, hb7, p7⟩ := HS8.out.row.at_ (show v < CL.length by rw [HCN.out]; exact hvl)
          obtain ⟨a9, rfl, hb9, p9⟩ := HS9.out.row.at_ (show v < (CL.map (2 * ·)).length by rw [HCN2.out]; exact hvl)
          have p7 : w10.cell? (a7.add (v * 1)) = some (.int .i64 (CL[v]'(by rw [HCN.out]; exact hvl))) := p7
          have p9 : w10.cell? (a9.add (v * 1)) = some (.int .i64 ((CL.map (2 * ·))[v]'(by rw [HCN2.out]; exact hvl))) := p9
          rw [List.getElem_map] at p9
          rw [Nat.mul_one] at p7 p9
          have hcb := HCB.out (CL[v]'(by rw [HCN.out]; exact hvl)) (List.getElem_mem _)
          generalize CL[v]'(by rw [HCN.out]; exact hvl) = cv at *
          have hcw : IntKind.i64.wrap (2 * cv) = 2 * cv := IntWalk.i64_in (2 * cv) ⟨by omega, by omega⟩
          have hne2 : ((2 * cv : Int) != 2 * cv) = false := bne_eq_false_iff_eq.mpr rfl
          have HK25 : Hid (∀ Wd, Below w10.heap.size w10 Wd → Wd.cell? ⟨w7.heap.size, 0, none⟩ = some (.slice (some a7) nw c7) ∧ Wd.cell? ⟨w9.heap.size, 0, none⟩ = some (.slice (some a9) nw c9) ∧ Wd.cell? (a7.add v) = some (.int .i64 cv) ∧ Wd.cell? (a9.add v) = some (.int .i64 (2 * cv))) := Lib.hid (fun Wd hW => ⟨(HC.out.keep hW HZ7.out) 0 _ rfl, (HE.out.keep hW HZ9.out) 0 _ rfl, (hW.cell (p := a7.add v) (by rw [addr_add_block]; exact hb7)).trans p7, (hW.cell (p := a9.add v) (by rw [addr_add_block]; exact hb9)).trans p9⟩)
          clear p7 p9 hb7 hb9
          go_upto_region 25 with fail
          have HV := Lib.hid HV.out.drew
          refine wp_region_noPanic ?_
          refine wp_region_held_drew (S := fun w' => w'.cell? ⟨w7.heap.size, 0, none⟩ = some (.slice (some a7) nw c7) ∧ w'.cell? ⟨w9.heap.size, 0, none⟩ = some (.slice (some a9) nw c9) ∧ w'.cell? (a7.add v) = some (.int .i64 cv) ∧ w'.cell? (a9.add v) = some (.int .i64 (2 * cv))) (by kernel_rfl) (HK25.out _ HV.out) (fun hHeld => ?_)
          generalize wr.drew = w11 at HV hHeld ⊢
          refine wpAnyH_take (i := 0) (oi := _) (v := ?_) rfl (by kernel_rfl) (by kernel_rfl) (by kernel_rfl) (fun _ _ _ h => h) (Or.inl ⟨by rfl, ?_⟩) (by assumption) ?_
          rotate_left
          · (intro w hSw; (try dsimp only at hSw); go_simp <;> with_reducible rfl)
          try simp only [List.getElem_toArray, List.getElem_cons_succ, List.getElem_cons_zero, Act.put, List.setIfInBounds_toArray, List.set_cons_zero, List.set_cons_succ]
          refine wpAnyH_take (i := 1) (oi := _) (v := ?_) rfl (by kernel_rfl) (by kernel_rfl) (by kernel_rfl) (fun _ _ _ h => h) (Or.inl ⟨by rfl, ?_⟩) (by assumption) ?_
          rotate_left
          · (intro w hSw; (try dsimp only at hSw); go_simp <;> with_reducible rfl)
          try simp only [List.getElem_toArray, List.getElem_cons_succ, List.getElem_cons_zero, Act.put, List.setIfInBounds_toArray, List.set_cons_zero, List.set_cons_succ]
          refine wpAnyH_take (i := 2) (oi := _) (v := ?_) rfl (by kernel_rfl) (by kernel_rfl) (by kernel_rfl) (fun _ _ _ h => h) (Or.inl ⟨by rfl, ?_⟩) (by assumption) ?_
          rotate_left
          · (intro w hSw; (try dsimp only at hSw); go_simp <;> with_reducible rfl)
          try simp only [List.getElem_toArray, List.getElem_cons_succ, List.getElem_cons_zero, Act.put, List.setIfInBounds_toArray, List.set_cons_zero, List.set_cons_succ]
          refine wpAnyH_take (i := 3) (oi := _) (v := ?_) rfl (by kernel_rfl) (by kernel_rfl) (by kernel_rfl) (fun _ _ _ h => h) (Or.inl ⟨by rfl, ?_⟩) (by assumption) ?_
          rotate_left
          · (intro w hSw; (try dsimp only at hSw); go_simp <;> with_reducible rfl)
          try simp only [List.getElem_toArray, List.getElem_cons_succ, List.getElem_cons_zero, Act.put, List.setIfInBounds_toArray, List.set_cons_zero, List.set_cons_succ]
          refine wpAnyH_take (i := 4) (oi := _) (v := ?_) rfl (by kernel_rfl) (by kernel_rfl) (by kernel_rfl) (fun _ _ _ h => h) (Or.inl ⟨by rfl, ?_⟩) (by assumption) ?_
          rotate_left
          · (intro w hSw; (try dsimp only at hSw); go_simp <;> with_reducible rfl)
          try simp only [List.getElem_toArray, List.getElem_cons_succ, List.getElem_cons_zero, Act.put, List.setIfInBounds_toArray, List.set_cons_zero, List.set_cons_succ]
          refine wpAnyH_take (i := 5) (oi := _) (v := ?_) rfl (by kernel_rfl) (by kernel_rfl) (by kernel_rfl) (fun _ _ _ h => h) (Or.inl ⟨by rfl, ?_⟩) (by assumption) ?_
          rotate_left
          · (intro w hSw; (try dsimp only at hSw); go_simp <;> with_reducible rfl)
          try simp only [List.getElem_toArray, List.getElem_cons_succ, List.getElem_cons_zero, Act.put, List.setIfInBounds_toArray, List.set_cons_zero, List.set_cons_succ]
          refine wpAnyH_take (i := 6) (oi := _) (v := ?_) rfl (by kernel_rfl) (by kernel_rfl) (by kernel_rfl) (fun _ _ _ h => h) (Or.inl ⟨by rfl, ?_⟩) (by assumption) ?_
          rotate_left
          · (intro w hSw; (try dsimp only at hSw); go_simp <;> with_reducible rfl)
          try simp only [List.getElem_toArray, List.getElem_cons_succ, List.getElem_cons_zero, Act.put, List.setIfInBounds_toArray, List.set_cons_zero, List.set_cons_succ]
          refine wpAnyH_take (i := 7) (oi := _) (v := ?_) rfl (by kernel_rfl) (by kernel_rfl) (by kernel_rfl) (fun _ _ _ h => h) (Or.inl ⟨by rfl, ?_⟩) (by assumption) ?_
          rotate_left
          · (intro w hSw; (try dsimp only at hSw); go_simp <;> with_reducible rfl)
          try simp only [List.getElem_toArray, List.getElem_cons_succ, List.getElem_cons_zero, Act.put, List.setIfInBounds_toArray, List.set_cons_zero, List.set_cons_succ]
          refine wpAnyH_take (i := 8) (oi := _) (v := ?_) rfl (by kernel_rfl) (by kernel_rfl) (by kernel_rfl) (fun _ _ _ h => h) (Or.inl ⟨by rfl, ?_⟩) (by assumption) ?_
          rotate_left
          · (intro w hSw; (try dsimp only at hSw); go_simp <;> with_reducible rfl)
          try simp only [List.getElem_toArray, List.getElem_cons_succ, List.getElem_cons_zero, Act.put, List.setIfInBounds_toArray, List.set_cons_zero, List.set_cons_succ]
          refine wpAnyH_take (i := 9) (oi := _) (v := ?_) rfl (by kernel_rfl) (by kernel_rfl) (by kernel_rfl) (fun _ _ _ h => h) (Or.inl ⟨by rfl, ?_⟩) (by assumption) ?_
          rotate_left
          · (intro w hSw; (try dsimp only at hSw); go_simp <;> with_reducible rfl)
          try simp only [List.getElem_toArray, List.getElem_cons_succ, List.getElem_cons_zero, Act.put, List.setIfInBounds_toArray, List.set_cons_zero, List.set_cons_succ]
          refine wpAnyH_take (i := 10) (oi := _) (v := ?_) rfl (by kernel_rfl) (by kernel_rfl) (by kernel_rfl) (fun _ _ _ h => h) (Or.inl ⟨by rfl, ?_⟩) (by assumption) ?_
          rotate_left
          · (intro w hSw; (try dsimp only at hSw); go_simp <;> with_reducible rfl)
          try simp only [List.getElem_toArray, List.getElem_cons_succ, List.getElem_cons_zero, Act.put, List.setIfInBounds_toArray, List.set_cons_zero, List.set_cons_succ]
          refine wpAnyH_take (i := 11) (oi := _) (v := ?_) rfl (by kernel_rfl) (by kernel_rfl) (by kernel_rfl) (fun _ _ _ h => h) (Or.inl ⟨by rfl, ?_⟩) (by assumption) ?_
          rotate_left
          · (intro w hSw; (try dsimp only at hSw); go_simp <;> with_reducible rfl)
          try simp only [List.getElem_toArray, List.getElem_cons_succ, List.getElem_cons_zero, Act.put, List.setIfInBounds_toArray, List.set_cons_zero, List.set_cons_succ]
          refine wpAnyH_done (by kernel_rfl) ?_ _
          refine NoPanic.normal ?_
          go_wp2_with fail
          go_roundw
          case rel => exact ⟨v + 1, by omega, by go_num, HV⟩
          case measure => simp [intOf]; omega
        · obtain rfl : v = nw := by omega
          go_upto_region 27 with fail
          have HBE : Hid (∀ Wd, Below w10.heap.size w10 Wd → Wd.cell? ⟨w.heap.size, 0, none⟩ = some (.slice C v ce) ∧ Wd.cell? ⟨w.heap.size, 1, none⟩ = some (.int .i64 m)) := Lib.hid (fun Wd hW => HBE.out Wd (HX.out.trans (hW.mono HX.out.size)))
          go_cut [17] (fun s wx => ∃ b : Bool, s = .bool b ∧ Hid (b = true → -1152921504606846976 < m ∧ m < 1152921504606846976) ∧ Hid (Below w10.heap.size w10 wx))
          case first =>
            obtain ⟨e0, e1⟩ := HBE.out _ HV.out
            by_cases g1 : m > -1152921504606846976
            · by_cases g2 : m < 1152921504606846976
              · go_wp2_with fail
                go_meet
                exact ⟨true, rfl, Lib.hid (fun _ => ⟨g1, g2⟩), HV⟩
              · go_wp2_with fail
                go_meet
                exact ⟨false, rfl, Lib.hid (fun h => by cases h), HV⟩
            · go_wp2_with fail
              go_meet
              exact ⟨false, rfl, Lib.hid (fun h => by cases h), HV⟩
          case rest =>
            clear HV
            obtain ⟨b, rfl, HBM, HV⟩ := hcut
            go_wp2_with fail
            go_loopw [17, 18] (fun s i wi => ∃ (u : Nat) (b : Bool), u ≤ v ∧ i = .int .i64 u ∧ s = .bool b ∧ wi = wc ∧ Hid (b = true → (-1152921504606846976 < m ∧ m < 1152921504606846976) ∧ ∀ c ∈ W.take u, -1152921504606846976 < c ∧ c < 1152921504606846976)) (fun _ i _ => v - (intOf i).toNat)
            case atStart => exact ⟨0, b, Nat.zero_le _, rfl, rfl, rfl, Lib.hid (fun h => ⟨HBM.out h, by simp⟩)⟩
            case round =>
              obtain ⟨u, b, hu, rfl, rfl, rfl, HBW⟩ := hrel
              clear HBM
              by_cases huv : u < v
              · obtain ⟨aw, eC, haw, pw⟩ := HWS.out.1.row.at_ (show u < W.length by rw [HWS.out.2]; exact huv)
                have HCK : Hid (W.take (u + 1) = W.take u ++ [W[u]'(by rw [HWS.out.2]; exact huv)]) := Lib.hid (take_nextA _)
                have pw : w2.cell? (aw.add (u * 1)) = some (.int .i64 (W[u]'(by rw [HWS.out.2]; exact huv))) := pw
                rw [Nat.mul_one] at pw
                generalize W[u]'(by rw [HWS.out.2]; exact huv) = cv at *
                have HXV := Lib.hid (HX.out.trans (HV.out.mono HX.out.size))
                have pw := (HXV.out.cell (p := aw.add u) (by rw [addr_add_block]; exact haw)).trans pw
                obtain ⟨e0, e1⟩ := HBE.out _ HV.out
                rw [eC] at e0
                have hNO : Hid (∀ h : false = true, (-1152921504606846976 < m ∧ m < 1152921504606846976) ∧ ∀ c ∈ W.take (u + 1), -1152921504606846976 < c ∧ c < 1152921504606846976) := Lib.hid (fun h => by cases h)
                clear eC haw
                cases b
                · go_wp2_with fail
                  go_roundw
                  case rel => exact ⟨u + 1, false, by omega, by go_num, rfl, by trivial, hNO⟩
                  case measure => simp [intOf]; omega
                · by_cases g1 : cv > -1152921504606846976
                  · by_cases g2 : cv < 1152921504606846976
                    · go_wp2_with fail
                      go_roundw
                      case rel => exact ⟨u + 1, true, by omega, by go_num, rfl, by trivial, Lib.hid (fun _ => ⟨(HBW.out rfl).1, fun z hz => by rw [HCK.out, List.mem_append, List.mem_singleton] at hz; exact hz.elim ((HBW.out rfl).2 z) (fun e => ⟨by omega, by omega⟩)⟩)⟩
                      case measure => simp [intOf]; omega
                    · go_wp2_with fail
                      go_roundw
                      case rel => exact ⟨u + 1, false, by omega, by go_num, rfl, by trivial, hNO⟩
                      case measure => simp [intOf]; omega
                  · go_wp2_with fail
                    go_roundw
                    case rel => exact ⟨u + 1, false, by omega, by go_num, rfl, by trivial, hNO⟩
                    case measure => simp [intOf]; omega
              · obtain rfl : u = v := by omega
                have HS := Lib.hid (lslcUp IntAt.keeps HS8.out HV.out)
                have HTO := Lib.hid (own_below HTO.out HV.out (own_block_lt HTO.out))
                have HA7W : Hid (CL ≠ [] → ∀ ad, A7 = some ad → ga ≠ ad.block ∧ ad.block < wr.heap.size) := Lib.hid (fun hne ad e => ⟨(HA7B.out hne ad e).1, Nat.lt_of_lt_of_le (HA7B.out hne ad e).2 HV.out.size⟩)
                have HSC : Hid (Four wr w7.heap.size (.slice A7 u c7) (.int .i64 CM) w.heap.size (.slice C u ce) (.int .i64 m)) := Lib.hid ⟨HC.out.keep HV.out HZ7.out, HCW.out.keep (HX.out.trans (HV.out.mono HX.out.size)) HZ.out⟩
                have HB := Lib.hid (HX.out.trans (HV.out.mono HX.out.size))
                clear HS8 HV HX HC HE HS9 HBE HR10
                have HZ0 : Hid (wr.heap.size ≤ wr.heap.size) := Lib.hid (Nat.le_refl _)
                go_upto_region 32 with fail
                cases b
                · have HB := Lib.hid HB.out.drew
                  have HS : Hid (SlcIs IntAt 1 wr.drew wr.drew.heap.size A7 c7 CL) := Lib.hid (lslcUp IntAt.keeps HS.out (Below.refl _ _).drew)
                  have HTO := Lib.hid (own_below HTO.out (Below.refl wr.heap.size wr).drew (own_block_lt HTO.out))
                  have HSC := Lib.hid (HSC.out.below (Below.refl _ _).drew)
                  have HZ0 : Hid (wr.heap.size ≤ wr.drew.heap.size) := Lib.hid (Nat.le_refl _)
                  refine wp_region_noPanic ?_
                  refine wp_region_held_drew (S := fun w' => w'.cell? ⟨w7.heap.size, 0, none⟩ = some (.slice A7 u c7) ∧ w'.cell? ⟨w7.heap.size, 1, none⟩ = some (.int .i64 CM) ∧ w'.cell? ⟨w.heap.size, 0, none⟩ = some (.slice C u ce) ∧ w'.cell? ⟨w.heap.size, 1, none⟩ = some (.int .i64 m)) (by kernel_rfl) HSC.out.cells (fun hHeld => ?_)
                  generalize wr.drew = w12 at HB HS HTO HSC HZ0 hHeld ⊢
                  refine wpAnyH_ready (rs := [0]) (by kernel_rfl) (by simp) ?_
                  refine AllReadyH.cons (o := _) rfl (fun K hK => ?_) AllReadyH.nil
                  go_simp
                  (go_at_call 10; (with_reducible refine (linAwake_any _).mono ?_); rintro e w13 ⟨rfl, hb⟩; have HB := Lib.hid (HB.out.trans (hb.mono HB.out.size)); have HS := Lib.hid (lslcUp IntAt.keeps HS.out hb); have HTO := Lib.hid (own_below HTO.out hb (own_block_lt HTO.out)); have HSC := Lib.hid (HSC.out.below hb); have HZ0 := Lib.hid (Nat.le_trans HZ0.out hb.size); clear hb)
                  refine hK.out _ _ HSC.out.cells (fun hHeld => ?_)
                  clear hK K
                  try simp only [List.getElem_toArray, List.getElem_cons_succ, List.getElem_cons_zero, Act.put, List.setIfInBounds_toArray, List.set_cons_zero, List.set_cons_succ]
                  refine wpAnyH_take (i := 1) (oi := _) (v := ?_) rfl (by kernel_rfl) (by kernel_rfl) (by kernel_rfl) (fun _ _ _ h => h) (Or.inl ⟨by rfl, ?_⟩) (by assumption) ?_
                  rotate_left
                  · (intro w hSw; (try dsimp only at hSw); go_simp <;> with_reducible rfl)
                  try simp only [List.getElem_toArray, List.getElem_cons_succ, List.getElem_cons_zero, Act.put, List.setIfInBounds_toArray, List.set_cons_zero, List.set_cons_succ]
                  refine wpAnyH_take (i := 2) (oi := _) (v := ?_) rfl (by kernel_rfl) (by kernel_rfl) (by kernel_rfl) (fun _ _ _ h => h) (Or.inl ⟨by rfl, ?_⟩) (by assumption) ?_
                  rotate_left
                  · (intro w hSw; (try dsimp only at hSw); go_simp <;> with_reducible rfl)
                  try simp only [List.getElem_toArray, List.getElem_cons_succ, List.getElem_cons_zero, Act.put, List.setIfInBounds_toArray, List.set_cons_zero, List.set_cons_succ]
                  refine wpAnyH_take (i := 3) (oi := _) (v := ?_) rfl (by kernel_rfl) (by kernel_rfl) (by kernel_rfl) (fun _ _ _ h => h) (Or.inl ⟨by rfl, ?_⟩) (by assumption) ?_
                  rotate_left
                  · (intro w hSw; (try dsimp only at hSw); go_simp <;> with_reducible rfl)
                  try simp only [List.getElem_toArray, List.getElem_cons_succ, List.getElem_cons_zero, Act.put, List.setIfInBounds_toArray, List.set_cons_zero, List.set_cons_succ]
                  refine wpAnyH_take (i := 4) (oi := _) (v := ?_) rfl (by kernel_rfl) (by kernel_rfl) (by kernel_rfl) (fun _ _ _ h => h) (Or.inl ⟨by rfl, ?_⟩) (by assumption) ?_
                  rotate_left
                  · (intro w hSw; (try dsimp only at hSw); go_simp <;> with_reducible rfl)
                  try simp only [List.getElem_toArray, List.getElem_cons_succ, List.getElem_cons_zero, Act.put, List.setIfInBounds_toArray, List.set_cons_zero, List.set_cons_succ]
                  refine wpAnyH_ready (rs := [5]) (by kernel_rfl) (by simp) ?_
                  refine AllReadyH.cons (o := _) rfl (fun K hK => ?_) AllReadyH.nil
                  go_simp
                  (go_at_call 14; (with_reducible refine (lproves_is (Lib.hid (lslcUp IneqAt.keeps H1.out HB.out)) (Lib.hid (own_lit_ints HTO.out rfl)) (Lib.hid (Below.refl _ _)) (Lib.hid ⟨HLN.out, rfl⟩) HF (Lib.hid ⟨HS.out, HCN.out⟩) HPV (by omega)).mono ?_); rintro e w14 ⟨rfl, hb⟩; have HB := Lib.hid (HB.out.trans (hb.mono HB.out.size)); have HS := Lib.hid (lslcUp IntAt.keeps HS.out hb); have HTO := Lib.hid (own_below HTO.out hb (own_block_lt HTO.out)); have HSC := Lib.hid (HSC.out.below hb); have HZ0 := Lib.hid (Nat.le_trans HZ0.out hb.size); clear hb)
                  refine hK.out _ _ HSC.out.cells (fun hHeld => ?_)
                  clear hK K
                  try simp only [List.getElem_toArray, List.getElem_cons_succ, List.getElem_cons_zero, Act.put, List.setIfInBounds_toArray, List.set_cons_zero, List.set_cons_succ]
                  refine wpAnyH_take (i := 6) (oi := _) (v := ?_) rfl (by kernel_rfl) (by kernel_rfl) (by kernel_rfl) (fun _ _ _ h => h) (Or.inl ⟨by rfl, ?_⟩) (by assumption) ?_
                  rotate_left
                  · (intro w hSw; (try dsimp only at hSw); go_simp <;> with_reducible rfl)
                  try simp only [List.getElem_toArray, List.getElem_cons_succ, List.getElem_cons_zero, Act.put, List.setIfInBounds_toArray, List.set_cons_zero, List.set_cons_succ]
                  refine wpAnyH_take (i := 7) (oi := _) (v := ?_) rfl (by kernel_rfl) (by kernel_rfl) (by kernel_rfl) (fun _ _ _ h => h) (Or.inl ⟨by rfl, ?_⟩) (by assumption) ?_
                  rotate_left
                  · (intro w hSw; (try dsimp only at hSw); go_simp <;> with_reducible rfl)
                  try simp only [List.getElem_toArray, List.getElem_cons_succ, List.getElem_cons_zero, Act.put, List.setIfInBounds_toArray, List.set_cons_zero, List.set_cons_succ]
                  refine wpAnyH_take (i := 8) (oi := _) (v := ?_) rfl (by kernel_rfl) (by kernel_rfl) (by kernel_rfl) (fun _ _ _ h => h) (Or.inl ⟨by rfl, ?_⟩) (by assumption) ?_
                  rotate_left
                  · (intro w hSw; (try dsimp only at hSw); go_simp <;> with_reducible rfl)
                  try simp only [List.getElem_toArray, List.getElem_cons_succ, List.getElem_cons_zero, Act.put, List.setIfInBounds_toArray, List.set_cons_zero, List.set_cons_succ]
                  refine wpAnyH_take (i := 9) (oi := _) (v := ?_) rfl (by kernel_rfl) (by kernel_rfl) (by kernel_rfl) (fun _ _ _ h => h) (Or.inl ⟨by rfl, ?_⟩) (by assumption) ?_
                  rotate_left
                  · (intro w hSw; (try dsimp only at hSw); go_simp <;> with_reducible rfl)
                  try simp only [List.getElem_toArray, List.getElem_cons_succ, List.getElem_cons_zero, Act.put, List.setIfInBounds_toArray, List.set_cons_zero, List.set_cons_succ]
                  refine wpAnyH_take (i := 10) (oi := _) (v := ?_) rfl (by kernel_rfl) (by kernel_rfl) (by kernel_rfl) (fun _ _ _ h => h) (Or.inl ⟨by rfl, ?_⟩) (by assumption) ?_
                  rotate_left
                  · (intro w hSw; (try dsimp only at hSw); go_simp <;> with_reducible rfl)
                  try simp only [List.getElem_toArray, List.getElem_cons_succ, List.getElem_cons_zero, Act.put, List.setIfInBounds_toArray, List.set_cons_zero, List.set_cons_succ]
                  refine wpAnyH_take (i := 11) (oi := _) (v := undef) rfl (by kernel_rfl) (by kernel_rfl) (by kernel_rfl) (fun _ _ _ h => h) (Or.inr ⟨by rfl, rfl⟩) (by assumption) ?_
                  try simp only [List.getElem_toArray, List.getElem_cons_succ, List.getElem_cons_zero, Act.put, List.setIfInBounds_toArray, List.set_cons_zero, List.set_cons_succ]
                  refine wpAnyH_take (i := 12) (oi := _) (v := undef) rfl (by kernel_rfl) (by kernel_rfl) (by kernel_rfl) (fun _ _ _ h => h) (Or.inr ⟨by rfl, rfl⟩) (by assumption) ?_
                  try simp only [List.getElem_toArray, List.getElem_cons_succ, List.getElem_cons_zero, Act.put, List.setIfInBounds_toArray, List.set_cons_zero, List.set_cons_succ]
                  refine wpAnyH_take (i := 13) (oi := _) (v := undef) rfl (by kernel_rfl) (by kernel_rfl) (by kernel_rfl) (fun _ _ _ h => h) (Or.inr ⟨by rfl, rfl⟩) (by assumption) ?_
                  try simp only [List.getElem_toArray, List.getElem_cons_succ, List.getElem_cons_zero, Act.put, List.setIfInBounds_toArray, List.set_cons_zero, List.set_cons_succ]
                  refine wpAnyH_take (i := 14) (oi := _) (v := undef) rfl (by kernel_rfl) (by kernel_rfl) (by kernel_rfl) (fun _ _ _ h => h) (Or.inr ⟨by rfl, rfl⟩) (by assumption) ?_
                  try simp only [List.getElem_toArray, List.getElem_cons_succ, List.getElem_cons_zero, Act.put, List.setIfInBounds_toArray, List.set_cons_zero, List.set_cons_succ]
                  refine wpAnyH_take (i := 15) (oi := _) (v := undef) rfl (by kernel_rfl) (by kernel_rfl) (by kernel_rfl) (fun _ _ _ h => h) (Or.inr ⟨by rfl, rfl⟩) (by assumption) ?_
                  try simp only [List.getElem_toArray, List.getElem_cons_succ, List.getElem_cons_zero, Act.put, List.setIfInBounds_toArray, List.set_cons_zero, List.set_cons_succ]
                  refine wpAnyH_take (i := 16) (oi := _) (v := undef) rfl (by kernel_rfl) (by kernel_rfl) (by kernel_rfl) (fun _ _ _ h => h) (Or.inr ⟨by rfl, rfl⟩) (by assumption) ?_
                  try simp only [List.getElem_toArray, List.getElem_cons_succ, List.getElem_cons_zero, Act.put, List.setIfInBounds_toArray, List.set_cons_zero, List.set_cons_succ]
                  refine wpAnyH_take (i := 17) (oi := _) (v := undef) rfl (by kernel_rfl) (by kernel_rfl) (by kernel_rfl) (fun _ _ _ h => h) (Or.inr ⟨by rfl, rfl⟩) (by assumption) ?_
                  try simp only [List.getElem_toArray, List.getElem_cons_succ, List.getElem_cons_zero, Act.put, List.setIfInBounds_toArray, List.set_cons_zero, List.set_cons_succ]
                  refine wpAnyH_take (i := 18) (oi := _) (v := undef) rfl (by kernel_rfl) (by kernel_rfl) (by kernel_rfl) (fun _ _ _ h => h) (Or.inr ⟨by rfl, rfl⟩) (by assumption) ?_
                  try simp only [List.getElem_toArray, List.getElem_cons_succ, List.getElem_cons_zero, Act.put, List.setIfInBounds_toArray, List.set_cons_zero, List.set_cons_succ]
                  refine wpAnyH_take (i := 19) (oi := _) (v := undef) rfl (by kernel_rfl) (by kernel_rfl) (by kernel_rfl) (fun _ _ _ h => h) (Or.inr ⟨by rfl, rfl⟩) (by assumption) ?_
                  try simp only [List.getElem_toArray, List.getElem_cons_succ, List.getElem_cons_zero, Act.put, List.setIfInBounds_toArray, List.set_cons_zero, List.set_cons_succ]
                  refine wpAnyH_take (i := 20) (oi := _) (v := undef) rfl (by kernel_rfl) (by kernel_rfl) (by kernel_rfl) (fun _ _ _ h => h) (Or.inr ⟨by rfl, rfl⟩) (by assumption) ?_
                  try simp only [List.getElem_toArray, List.getElem_cons_succ, List.getElem_cons_zero, Act.put, List.setIfInBounds_toArray, List.set_cons_zero, List.set_cons_succ]
                  refine wpAnyH_take (i := 21) (oi := _) (v := undef) rfl (by kernel_rfl) (by kernel_rfl) (by kernel_rfl) (fun _ _ _ h => h) (Or.inr ⟨by rfl, rfl⟩) (by assumption) ?_
                  try simp only [List.getElem_toArray, List.getElem_cons_succ, List.getElem_cons_zero, Act.put, List.setIfInBounds_toArray, List.set_cons_zero, List.set_cons_succ]
                  refine wpAnyH_take (i := 22) (oi := _) (v := ?_) rfl (by kernel_rfl) (by kernel_rfl) (by kernel_rfl) (fun _ _ _ h => h) (Or.inl ⟨by rfl, ?_⟩) (by assumption) ?_
                  rotate_left
                  · (intro w hSw; (try dsimp only at hSw); go_simp <;> with_reducible rfl)
                  try simp only [List.getElem_toArray, List.getElem_cons_succ, List.getElem_cons_zero, Act.put, List.setIfInBounds_toArray, List.set_cons_zero, List.set_cons_succ]
                  refine wpAnyH_take (i := 23) (oi := _) (v := ?_) rfl (by kernel_rfl) (by kernel_rfl) (by kernel_rfl) (fun _ _ _ h => h) (Or.inl ⟨by rfl, ?_⟩) (by assumption) ?_
                  rotate_left
                  · (intro w hSw; (try dsimp only at hSw); go_simp <;> with_reducible rfl)
                  try simp only [List.getElem_toArray, List.getElem_cons_succ, List.getElem_cons_zero, Act.put, List.setIfInBounds_toArray, List.set_cons_zero, List.set_cons_succ]
                  refine wpAnyH_take (i := 24) (oi := _) (v := ?_) rfl (by kernel_rfl) (by kernel_rfl) (by kernel_rfl) (fun _ _ _ h => h) (Or.inl ⟨by rfl, ?_⟩) (by assumption) ?_
                  rotate_left
                  · (intro w hSw; (try dsimp only at hSw); go_simp <;> with_reducible rfl)
                  try simp only [List.getElem_toArray, List.getElem_cons_succ, List.getElem_cons_zero, Act.put, List.setIfInBounds_toArray, List.set_cons_zero, List.set_cons_succ]
                  refine wpAnyH_done (by kernel_rfl) ?_ _
                  refine NoPanic.normal ?_
                  go_wp2_with fail
                  go_ret
                  exact ⟨by first | rfl | simp, HW.out.trans (HB.out.mono HW.out.size)⟩
                have HG7W : Hid (w7.heap.size < wr.heap.size ∧ w.heap.size < wr.heap.size) := Lib.hid ⟨cells_lt HSC.out.x, cells_lt HSC.out.y⟩
                refine adds32 H1 HLN HTL HF HS1 HCN HWS HBW HPV HS HTO HA7W HSC HB HG7 HG7W (by omega) (by omega) _ _ _ _ _ _ _ _ _ _ _ _ _ _ _ _ _ _ _ _ _ _ _ _ _ _ _ _ _ _ _ _ _ _ _ _ _ _ _ _ _ _ _ _ _ _ _ _ _ _ _ _ _ _ _ _ _ _ _ _ _ _ _ _ _ _ _ _ _ _ _ _ _ _ _ _ _ _ _ _ _ _ _ _ _ _ _ _ _ _ _ _ _ _ _ _ _ _ _ _ _ _ _ _ _ _ _ _ _ _ _ _ _ _ _ _ _ _ _ _ _ _ _ _ _ _ _ _ _ _ _ _ _ _ _ _ _ _ _ _ _ _ _ _ _ _ _ _ _ _ _ _ _ _ _ _ _ _ _ _ _ _ _ _ _ _ _ _ _ _ _ _ _ _ _ _ _ _ _ _ _ _ _ _ _ _ _ _ _ _ _ _ _ _ _ _ _ _ _ _ _ _ _ _ _ _ _ _ _ _ _ _ _ _ _ _ _ _ _ _ _ _ _ _ _ _ _ _ _ _ _ _ _ ?_
                intro vl213 vl214 vl215 vl216 vl217 vl218 vl219 vl220 vl221 vl222 vl223 vl224 vl225 vl226 vl227 vl228 vl229 vl230 vl231 vl232 vl233 vl234 vl235 vl236 w99 HB
                go_wp2_with fail
                go_ret
                exact ⟨by first | rfl | simp, HW.out.trans (HB.out.mono HW.out.size)⟩
end Go.Proofs.Ytncbmjpfbkngdaa
