/-
  The statement on putting instructions (InstPuts), walked: it answers true at any bytes and instruction.
-/
import Derived.Test.YtemllmaelioeaaaInstLaws
import Derived.Test.YtemllmaelioeaaaConv
import Derived.Deep.Cut
import Derived.Deep.RegionHeld3
namespace Go.Proofs.Ytemllmaelioeaaa
open Go.ChangeShapes Go.WideShapes Go.ChangeAt Go.RowKit
set_option linter.unusedVariables false
set_option linter.unusedSimpArgs false

theorem instPuts_far (z : List Int) (A : Option Addr) (cap : Nat) (op a b : Int) (w : World) (hl : z.length ≤ cap) (hm : cap ≤ 9223372036854775807)
    (h : (50 : Int) < z.length ∨ ((z.length : Int) ≤ 50 ∧ 1152921504606846976 < op) ∨ ((z.length : Int) ≤ 50 ∧ op ≤ 1152921504606846976 ∧ 1152921504606846976 < a) ∨ ((z.length : Int) ≤ 50 ∧ op ≤ 1152921504606846976 ∧ a ≤ 1152921504606846976 ∧ 1152921504606846976 < b)) :
    Calls Try.prog 4 #[.slice A z.length cap, insV op a b] w fun e w' => e = .returned (.bool true) ∧ Below w.heap.size w w' := by
  have HW := Lib.hid ((Below.refl w.heap.size w).alloc (Nat.le_refl _) (.cells #[.int .i64 op, .int .i64 a, .int .i64 b] 23))
  have HZ : w.heap.size ≤ (w.alloc (.cells #[.int .i64 op, .int .i64 a, .int .i64 b] 23)).heap.size := by simp
  rcases h with h | ⟨h, g⟩ | ⟨h, g1, g⟩ | ⟨h, g1, g2, g⟩
  all_goals
    go_enter Try.func4, Try.ntmps4
    go_wp2_with (go_at_call 7; (with_reducible refine (iawake_any _).mono ?_); rintro e w' ⟨rfl, hb⟩)
    go_ret
    exact ⟨rfl, HW.out.trans (hb.mono HZ)⟩

theorem addr0_add (g n : Nat) : (⟨g, 0, none⟩ : Addr).add n = ⟨g, n, none⟩ := by
  unfold Addr.add; split
  · rename_i h0; subst h0; rfl
  · simp
/-- The bytes behind the first ones. -/
theorem lies_tail {w : World} {B g k : Nat} {X P : List Int} (H : Hid (Lies w B (some ⟨g, 0, none⟩) (X.map (Value.int .u8)))) (HD : Hid (X.drop k = P)) : Hid (Lies w B (some ⟨g, k, none⟩) (P.map (Value.int .u8))) := Lib.hid (by
  have h := H.out.drop_ k
  rw [← List.map_drop, HD.out] at h
  simpa [addr0_add] using h)

set_option maxRecDepth 100000 in
set_option maxHeartbeats 6400000 in
theorem instPuts_near (z : List Int) (A : Option Addr) (cap : Nat) (op a b : Int) (w : World) (hl : z.length ≤ cap) (hm : cap ≤ 9223372036854775807)
    (h5 : z.length ≤ 50) (g0 : op ≤ 1152921504606846976) (g1 : a ≤ 1152921504606846976) (g2 : b ≤ 1152921504606846976)
    (hL : Lies w w.heap.size A (z.map (Value.int .u8))) (rL : ∀ n ∈ z, 0 ≤ n ∧ n ≤ 255) (hA : A = none → cap = 0) :
    Calls Try.prog 4 #[.slice A z.length cap, insV op a b] w fun e w' => e = .returned (.bool true) ∧ Below w.heap.size w w' := by
  obtain ⟨i0, hi, hz0, hz1, hz2⟩ := info_parts info_u8
  obtain ⟨Y0, hY0⟩ : ∃ Y, bytesOf op.toNat = Y := ⟨_, rfl⟩
  have hY09 : Y0.length ≤ 9 := by rw [← hY0]; exact bytesOf_len9 (by omega)
  have HY0 := Lib.hid hY0
  obtain ⟨Y1, hY1⟩ : ∃ Y, bytesOf a.toNat = Y := ⟨_, rfl⟩
  have hY19 : Y1.length ≤ 9 := by rw [← hY1]; exact bytesOf_len9 (by omega)
  have HY1 := Lib.hid hY1
  obtain ⟨Y2, hY2⟩ : ∃ Y, bytesOf b.toNat = Y := ⟨_, rfl⟩
  have hY29 : Y2.length ≤ 9 := by rw [← hY2]; exact bytesOf_len9 (by omega)
  have HY2 := Lib.hid hY2
  have HA := Lib.hid hA
  have HW := Lib.hid ((Below.refl w.heap.size w).alloc (Nat.le_refl _) (.cells #[.int .i64 op, .int .i64 a, .int .i64 b] 23))
  have HI := Lib.hid (ins_new w (.int .i64 op) (.int .i64 a) (.int .i64 b) 23)
  have HZ : Hid (w.heap.size < (w.alloc (.cells #[.int .i64 op, .int .i64 a, .int .i64 b] 23)).heap.size) := Lib.hid (by simp)
  have HL := Lib.hid ((hL.below_to HW.out (Nat.le_refl _)).more HW.out.size)
  have HR := Lib.hid rL
  clear hL rL hA hY0 hY1 hY2
  go_enter Try.func4, Try.ntmps4
  go_upto_region 3 with fail
  generalize w.alloc (.cells #[.int .i64 op, .int .i64 a, .int .i64 b] 23) = w1 at *
  obtain ⟨q0, q1, q2⟩ := HI.out.keep (Below.refl w1.heap.size w1).drew HZ.out
  refine wp_region_noPanic ?_
  refine wp_region_held_drew (S := (fun w' => w'.cell? ⟨w.heap.size, 0, none⟩ = some (.int .i64 op) ∧ w'.cell? ⟨w.heap.size, 1, none⟩ = some (.int .i64 a) ∧ w'.cell? ⟨w.heap.size, 2, none⟩ = some (.int .i64 b))) (by kernel_rfl) ⟨q0, q1, q2⟩ (fun hHeld => ?_)
  refine wpAnyH_take (i := 1) (oi := _) (v := ?_) rfl (by kernel_rfl) (by kernel_rfl) (by kernel_rfl) (fun _ _ _ h => h) (Or.inl ⟨by rfl, ?_⟩) (by assumption) ?_
  rotate_left
  · (intro w hSw; (try dsimp only at hSw); go_simp <;> with_reducible rfl)
  try simp only [List.getElem_toArray, List.getElem_cons_succ, List.getElem_cons_zero, Act.put, List.setIfInBounds_toArray, List.set_cons_zero, List.set_cons_succ]
  refine wpAnyH_take (i := 3) (oi := _) (v := ?_) rfl (by kernel_rfl) (by kernel_rfl) (by kernel_rfl) (fun _ _ _ h => h) (Or.inl ⟨by rfl, ?_⟩) (by assumption) ?_
  rotate_left
  · (intro w hSw; (try dsimp only at hSw); go_simp <;> with_reducible rfl)
  try simp only [List.getElem_toArray, List.getElem_cons_succ, List.getElem_cons_zero, Act.put, List.setIfInBounds_toArray, List.set_cons_zero, List.set_cons_succ]
  refine wpAnyH_take (i := 4) (oi := _) (v := ?_) rfl (by kernel_rfl) (by kernel_rfl) (by kernel_rfl) (fun _ _ _ h => h) (Or.inl ⟨by rfl, ?_⟩) (by assumption) ?_
  rotate_left
  · (intro w hSw; (try dsimp only at hSw); go_simp <;> with_reducible rfl)
  try simp only [List.getElem_toArray, List.getElem_cons_succ, List.getElem_cons_zero, Act.put, List.setIfInBounds_toArray, List.set_cons_zero, List.set_cons_succ]
  refine wpAnyH_ready (rs := [0]) (by kernel_rfl) (by simp) ?_
  refine AllReadyH.cons (o := _) rfl (fun K hK => ?_) AllReadyH.nil
  go_simp
  (have HBa : Hid (Below w1.heap.size w1 (w1.drew.alloc (.cells #[] 5))) := Lib.hid ((Below.refl _ _).drew.alloc (Nat.le_refl _) _); have HOa := Lib.hid (own_empty w1.drew 5))
  refine hK.out _ _ (HI.out.keep HBa.out HZ.out) (fun hHeld => ?_)
  clear hK K
  try simp only [List.getElem_toArray, List.getElem_cons_succ, List.getElem_cons_zero, Act.put, List.setIfInBounds_toArray, List.set_cons_zero, List.set_cons_succ]
  refine wpAnyH_ready (rs := [2]) (by kernel_rfl) (by simp) ?_
  refine AllReadyH.cons (o := _) rfl (fun K hK => ?_) AllReadyH.nil
  (refine step_app rfl _ _ 27 rfl w1.heap.size 5 i0 (.int .u8 0) 1 Try.underlying27 hi hz0 hz1 hz2 rfl _ _ _ rfl HOa.out A _ cap w1.heap.size (z.map (Value.int .u8)) (by simp) rfl HA.out (HL.out.below HBa.out) (u8_one _) (by unfold maxLen; omega) (by omega) HBa.out.size ?_; intro v2 w2 hown hgrow; obtain ⟨ho2, hb2⟩ := app_out (W := w1.drew) hown hgrow; have HO2 := Lib.hid ho2; have HB2 := Lib.hid ((Below.refl w1.heap.size w1).drew.trans hb2); clear hown hgrow ho2 hb2)
  refine hK.out _ _ (HI.out.keep HB2.out HZ.out) (fun hHeld => ?_)
  clear hK K
  try simp only [List.getElem_toArray, List.getElem_cons_succ, List.getElem_cons_zero, Act.put, List.setIfInBounds_toArray, List.set_cons_zero, List.set_cons_succ]
  refine wpAnyH_ready (rs := [5]) (by kernel_rfl) (by simp) ?_
  refine AllReadyH.cons (o := _) rfl (fun K hK => ?_) AllReadyH.nil
  go_simp
  (go_at_call 12; (with_reducible refine (rbytes_any op (by omega) _).mono ?_); rintro e w5 ⟨v5, rfl, ho5, hb5⟩; rw [HY0.out] at ho5; obtain ⟨A5, c5, rfl, hL5, hA5⟩ := own_slice_nil ho5; have HL5 := Lib.hid hL5; have HA5 := Lib.hid hA5; have HO5 := Lib.hid (own_below HO2.out hb5 (own_block_lt HO2.out)); have HB5 := Lib.hid (HB2.out.trans (hb5.mono HB2.out.size)); clear ho5 hL5 hA5)
  refine hK.out _ _ (HI.out.keep HB5.out HZ.out) (fun hHeld => ?_)
  clear hK K
  try simp only [List.getElem_toArray, List.getElem_cons_succ, List.getElem_cons_zero, Act.put, List.setIfInBounds_toArray, List.set_cons_zero, List.set_cons_succ]
  refine wpAnyH_ready (rs := [6]) (by kernel_rfl) (by simp) ?_
  refine AllReadyH.cons (o := _) rfl (fun K hK => ?_) AllReadyH.nil
  (refine step_app rfl _ _ 27 rfl w1.heap.size 5 i0 (.int .u8 0) 1 Try.underlying27 hi hz0 hz1 hz2 rfl _ _ _ rfl HO5.out A5 _ c5 _ (Y0.map (Value.int .u8)) (by simp) rfl HA5.out HL5.out (u8_one _) (by unfold maxLen; omega) (by omega) HB5.out.size ?_; intro v6 w6 hown hgrow; obtain ⟨ho6, hb6⟩ := app_more HB5.out HO5.out HB5.out.size hown hgrow; rw [← List.length_append] at ho6; have HO6 := Lib.hid ho6; have HB6 := Lib.hid hb6; clear hown hgrow ho6 hb6)
  refine hK.out _ _ (HI.out.keep HB6.out HZ.out) (fun hHeld => ?_)
  clear hK K
  try simp only [List.getElem_toArray, List.getElem_cons_succ, List.getElem_cons_zero, Act.put, List.setIfInBounds_toArray, List.set_cons_zero, List.set_cons_succ]
  refine wpAnyH_take (i := 7) (oi := _) (v := ?_) rfl (by kernel_rfl) (by kernel_rfl) (by kernel_rfl) (fun _ _ _ h => h) (Or.inl ⟨by rfl, ?_⟩) (by assumption) ?_
  rotate_left
  · (intro w hSw; (try dsimp only at hSw); go_simp <;> with_reducible rfl)
  try simp only [List.getElem_toArray, List.getElem_cons_succ, List.getElem_cons_zero, Act.put, List.setIfInBounds_toArray, List.set_cons_zero, List.set_cons_succ]
  refine wpAnyH_done (by kernel_rfl) ?_ _
  refine NoPanic.normal ?_
  clear HO2 HB2 HOa HBa HO5 HB5 HL5 HA5
  have HO := HO6
  have HB := HB6
  obtain ⟨q0, q1, q2⟩ := HI.out.keep HB.out HZ.out
  clear HO6 HB6
  have hr := args_range op
  obtain ⟨n, hn⟩ : ∃ n, argsI op = n := ⟨_, rfl⟩
  rw [hn] at hr
  obtain ⟨r, hrr⟩ : ∃ r, instrB op a b = r := ⟨_, rfl⟩
  have HRR := Lib.hid hrr
  obtain ⟨P, hP⟩ : ∃ P, putI op a b = P := ⟨_, rfl⟩
  have HP := Lib.hid hP
  have hPl : P.length ≤ 27 := by rw [← hP]; exact putI_len27 (by omega) (by omega) (by omega)
  have hPr : ∀ c ∈ P, 0 ≤ c ∧ c ≤ 255 := by rw [← hP]; exact putI_range op a b
  have HPR := Lib.hid hPr
  have hPp : 0 < P.length := by rw [← hP]; unfold putI; rw [List.length_append, HY0.out]; have := bytesOf_pos op.toNat; rw [HY0.out] at this; omega
  have hP2 : P = Y0 ++ ((if 0 < n then Y1 else []) ++ (if 1 < n then Y2 else [])) := by rw [← hP]; unfold putI; rw [HY0.out, HY1.out, HY2.out, hn]
  have HN := Lib.hid hn
  clear hn hP hPr hrr
  have hns : n < 1 ∨ n = 1 ∨ n = 2 := by omega
  rcases hns with hn1 | rfl | rfl
  · have hX : z ++ Y0 = z ++ P := by rw [hP2, if_neg (by omega), if_neg (by omega)]; simp
    go_wp2_with (first | (go_at_call 9; (with_reducible refine (rargs_any op _).mono ?_); rintro e w8 ⟨rfl, hb⟩; rw [HN.out]; have HO := Lib.hid (own_below HO.out hb (own_block_lt HO.out)); have HB := Lib.hid (HB.out.trans (hb.mono HB.out.size)); obtain ⟨q0, q1, q2⟩ := HI.out.keep HB.out HZ.out; clear hb) | (go_at_call 12; (with_reducible refine (rbytes_any a (by omega) _).mono ?_); rintro e w8 ⟨v5, rfl, ho5, hb⟩; rw [HY1.out] at ho5; obtain ⟨A5, c5, rfl, hL5, hA5⟩ := own_slice_nil ho5; have HL5 := Lib.hid hL5; have HA5 := Lib.hid hA5; clear ho5 hL5 hA5; have HO := Lib.hid (own_below HO.out hb (own_block_lt HO.out)); have HB := Lib.hid (HB.out.trans (hb.mono HB.out.size)); obtain ⟨q0, q1, q2⟩ := HI.out.keep HB.out HZ.out; clear hb) | (go_at_call 12; (with_reducible refine (rbytes_any b (by omega) _).mono ?_); rintro e w8 ⟨v5, rfl, ho5, hb⟩; rw [HY2.out] at ho5; obtain ⟨A5, c5, rfl, hL5, hA5⟩ := own_slice_nil ho5; have HL5 := Lib.hid hL5; have HA5 := Lib.hid hA5; clear ho5 hL5 hA5; have HO := Lib.hid (own_below HO.out hb (own_block_lt HO.out)); have HB := Lib.hid (HB.out.trans (hb.mono HB.out.size)); obtain ⟨q0, q1, q2⟩ := HI.out.keep HB.out HZ.out; clear hb) | (at_builtin; refine append_lies rfl _ _ 27 rfl w1.heap.size 5 i0 (.int .u8 0) 1 Try.underlying27 hi hz0 hz1 hz2 rfl _ _ _ rfl HO.out A5 _ c5 _ (Y1.map (Value.int .u8)) (by simp) rfl HA5.out HL5.out (u8_one _) (by simp only [List.length_append]; unfold maxLen; omega) (by simp only [List.length_append]; omega) HB.out.size ?_; intro v6 w6 hown hgrow; obtain ⟨ho6, hb6⟩ := app_more HB.out HO.out HB.out.size hown hgrow; rw [← List.length_append] at ho6; have HO := Lib.hid ho6; have HB := Lib.hid hb6; obtain ⟨q0, q1, q2⟩ := HI.out.keep HB.out HZ.out; clear hown hgrow ho6 hb6) | (at_builtin; refine append_lies rfl _ _ 27 rfl w1.heap.size 5 i0 (.int .u8 0) 1 Try.underlying27 hi hz0 hz1 hz2 rfl _ _ _ rfl HO.out A5 _ c5 _ (Y2.map (Value.int .u8)) (by simp) rfl HA5.out HL5.out (u8_one _) (by simp only [List.length_append]; unfold maxLen; omega) (by simp only [List.length_append]; omega) HB.out.size ?_; intro v6 w6 hown hgrow; obtain ⟨ho6, hb6⟩ := app_more HB.out HO.out HB.out.size hown hgrow; rw [← List.length_append] at ho6; have HO := Lib.hid ho6; have HB := Lib.hid hb6; obtain ⟨q0, q1, q2⟩ := HI.out.keep HB.out HZ.out; clear hown hgrow ho6 hb6))
    rw [hX] at HO
    have HBb : Hid (Below w1.heap.size w1 (w8.drew.alloc (.cells #[] 5))) := Lib.hid (HB.out.drew.alloc HB.out.size _)
    refine wp_region_noPanic ?_
    refine wp_region_held_drew (S := (fun w' => w'.cell? ⟨w.heap.size, 0, none⟩ = some (.int .i64 op) ∧ w'.cell? ⟨w.heap.size, 1, none⟩ = some (.int .i64 a) ∧ w'.cell? ⟨w.heap.size, 2, none⟩ = some (.int .i64 b))) (by kernel_rfl) ⟨q0, q1, q2⟩ (fun hHeld => ?_)
    refine wpAnyH_take (i := 1) (oi := _) (v := ?_) rfl (by kernel_rfl) (by kernel_rfl) (by kernel_rfl) (fun _ _ _ h => h) (Or.inl ⟨by rfl, ?_⟩) (by assumption) ?_
    rotate_left
    · (intro w hSw; (try dsimp only at hSw); go_simp <;> with_reducible rfl)
    try simp only [List.getElem_toArray, List.getElem_cons_succ, List.getElem_cons_zero, Act.put, List.setIfInBounds_toArray, List.set_cons_zero, List.set_cons_succ]
    refine wpAnyH_take (i := 3) (oi := _) (v := ?_) rfl (by kernel_rfl) (by kernel_rfl) (by kernel_rfl) (fun _ _ _ h => h) (Or.inl ⟨by rfl, ?_⟩) (by assumption) ?_
    rotate_left
    · (intro w hSw; (try dsimp only at hSw); go_simp <;> with_reducible rfl)
    try simp only [List.getElem_toArray, List.getElem_cons_succ, List.getElem_cons_zero, Act.put, List.setIfInBounds_toArray, List.set_cons_zero, List.set_cons_succ]
    refine wpAnyH_ready (rs := [0]) (by kernel_rfl) (by simp) ?_
    refine AllReadyH.cons (o := _) rfl (fun K hK => ?_) AllReadyH.nil
    go_simp
    refine hK.out _ _ (HI.out.keep HBb.out HZ.out) (fun hHeld => ?_)
    clear hK K
    try simp only [List.getElem_toArray, List.getElem_cons_succ, List.getElem_cons_zero, Act.put, List.setIfInBounds_toArray, List.set_cons_zero, List.set_cons_succ]
    refine wpAnyH_ready (rs := [2]) (by kernel_rfl) (by simp) ?_
    refine AllReadyH.cons (o := _) rfl (fun K hK => ?_) AllReadyH.nil
    (refine step_app rfl _ _ 27 rfl _ 5 i0 (.int .u8 0) 1 Try.underlying27 hi hz0 hz1 hz2 rfl _ _ _ rfl (own_empty w8.drew _) A _ cap w1.heap.size (z.map (Value.int .u8)) (by simp) rfl HA.out (HL.out.below HBb.out) (u8_one _) (by unfold maxLen; omega) (by omega) (by simp) ?_; intro v9 w9 hown hgrow; obtain ⟨ho9, hb9⟩ := app_out (W := w8.drew) hown hgrow; have HO9 := Lib.hid ho9; have HB9' := Lib.hid hb9; have HB9 := Lib.hid (HB.out.drew.trans (hb9.mono HB.out.size)); have HOw := Lib.hid (own_below HO.out ((Below.refl _ _).drew.trans hb9) (own_block_lt HO.out)); clear hown hgrow ho9 hb9)
    refine hK.out _ _ (HI.out.keep HB9.out HZ.out) (fun hHeld => ?_)
    clear hK K
    try simp only [List.getElem_toArray, List.getElem_cons_succ, List.getElem_cons_zero, Act.put, List.setIfInBounds_toArray, List.set_cons_zero, List.set_cons_succ]
    refine wpAnyH_ready (rs := [4]) (by kernel_rfl) (by simp) ?_
    refine AllReadyH.cons (o := _) rfl (fun K hK => ?_) AllReadyH.nil
    go_simp
    (go_at_call 13; (with_reducible refine (iput_any z _ op a b _ _ (by omega) (by omega) (by omega) (by omega) HB9'.out.size HO9.out).mono ?_); rintro e w10 ⟨v10, rfl, ho, hb⟩; rw [HP.out] at ho; have HOg := Lib.hid ho; have HB10 := Lib.hid (HB9.out.trans (hb.mono HB.out.size)); have HOw := Lib.hid (own_below HOw.out hb (own_block_lt HO.out)); clear ho hb)
    refine hK.out _ _ (HI.out.keep HB10.out HZ.out) (fun hHeld => ?_)
    clear hK K
    try simp only [List.getElem_toArray, List.getElem_cons_succ, List.getElem_cons_zero, Act.put, List.setIfInBounds_toArray, List.set_cons_zero, List.set_cons_succ]
    refine wpAnyH_take (i := 5) (oi := _) (v := ?_) rfl (by kernel_rfl) (by kernel_rfl) (by kernel_rfl) (fun _ _ _ h => h) (Or.inl ⟨by rfl, ?_⟩) (by assumption) ?_
    rotate_left
    · (intro w hSw; (try dsimp only at hSw); go_simp <;> with_reducible rfl)
    try simp only [List.getElem_toArray, List.getElem_cons_succ, List.getElem_cons_zero, Act.put, List.setIfInBounds_toArray, List.set_cons_zero, List.set_cons_succ]
    refine wpAnyH_done (by kernel_rfl) ?_ _
    refine NoPanic.normal ?_
    have hXl : (z ++ P).length = z.length + P.length := List.length_append
    have hXd : (z ++ P).drop z.length = P := by simp
    obtain ⟨X, hXX⟩ : ∃ X, z ++ P = X := ⟨_, rfl⟩
    rw [hXX] at HOg HOw hXl hXd
    have hXp : 0 < X.length := by omega
    have hle : z.length ≤ X.length := by omega
    have hlt : z.length < X.length := by omega
    have hX50 : X.length ≤ 100 := by omega
    have HXL := Lib.hid hXl
    have HXD := Lib.hid hXd
    clear hX hP2 hXl hXd hXX
    obtain ⟨gg, cg, rfl, hcg, hmg, hgg, hglg, hlg⟩ := own_bytes HOg.out hXp
    obtain ⟨gw, cw, rfl, hcw, hmw, hgw, hglw, hlw⟩ := own_bytes HOw.out hXp
    have kk1 := conv_u8 (cap := cg) hlg
    have kk2 := conv_u8 (cap := cw) hlw
    have HLg := Lib.hid hlg
    have HSg : Hid (w10.heap.size ≤ w10.heap.size) := Lib.hid (Nat.le_refl _)
    obtain ⟨q0, q1, q2⟩ := HI.out.keep HB10.out HZ.out
    have hcz : ¬ cg = z.length := by omega
    clear hlg hlw HBb HB9 HB9' HO9 HO HB
    cases r
    · go_wp2_with (first | (go_at_call 11; (with_reducible refine (rinstr_any op a b _).mono ?_); rintro e w11 ⟨he, hb⟩; rw [HRR.out] at he; subst he; have HB11 := Lib.hid (HB10.out.trans (hb.mono HB10.out.size)); obtain ⟨q0, q1, q2⟩ := HI.out.keep HB11.out HZ.out; have HLg11 := Lib.hid (HLg.out.below hb); have HS11 := Lib.hid (Nat.le_trans HSg.out hb.size); clear hb) | (go_at_call 7; (with_reducible refine (iawake_any _).mono ?_); rintro e w12 ⟨rfl, hb⟩; have HB12 := Lib.hid (HB11.out.trans (hb.mono HB11.out.size)); clear hb))
      go_ret
      exact ⟨rfl, HW.out.trans (HB12.out.mono (Nat.le_of_lt HZ.out))⟩
    · have HPM : Hid (P.length = X.length - z.length) := Lib.hid (by have := HXL.out; omega)
      have H2 : Hid (X.length - z.length ≤ 200) := Lib.hid (by omega)
      have HAn : Hid (some (⟨gg, z.length, none⟩ : Addr) = none → cg - z.length = 0) := Lib.hid (fun h => by cases h)
      have hG := getI_put [] HRR.out
      rw [List.append_nil, HP.out] at hG
      have HG := Lib.hid hG
      have hP27 : Hid (P.length ≤ 27) := Lib.hid hPl
      clear hG
      go_wp2_with (first | (go_at_call 11; (with_reducible refine (rinstr_any op a b _).mono ?_); rintro e w11 ⟨he, hb⟩; rw [HRR.out] at he; subst he; have HB11 := Lib.hid (HB10.out.trans (hb.mono HB10.out.size)); obtain ⟨q0, q1, q2⟩ := HI.out.keep HB11.out HZ.out; have HLg11 := Lib.hid (HLg.out.below hb); have HS11 := Lib.hid (Nat.le_trans HSg.out hb.size); clear hb) | (go_at_call 14; (with_reducible refine (new_len HPM H2 HPR HS11 HAn (lies_tail HLg11 HXD)).mono ?_); rintro e w12 ⟨N, rfl, hN, hr, hb⟩; have HRd := Lib.hid hr; have HB12 := Lib.hid (HB11.out.trans (hb.mono HB11.out.size)); have HN := Lib.hid (Nat.le_trans HB11.out.size hN); obtain ⟨q0, q1, q2⟩ := HI.out.keep HB12.out HZ.out; clear hr hb hN))
      have HRd' : Hid (Rd w12.drew N P false) := HRd
      have HB12' : Hid (Below w1.heap.size w1 w12.drew) := Lib.hid HB12.out.drew
      go_region_held3 (fun w' => w'.cell? ⟨w.heap.size, 0, none⟩ = some (.int .i64 op) ∧ w'.cell? ⟨w.heap.size, 1, none⟩ = some (.int .i64 a) ∧ w'.cell? ⟨w.heap.size, 2, none⟩ = some (.int .i64 b))
        (first | go_keep | exact ⟨q0, q1, q2⟩)
        (first | (go_at_call 7; (with_reducible refine (iawake_any _).mono ?_); rintro e w13 ⟨rfl, hb⟩; have HB13 := Lib.hid (HB12'.out.trans (hb.mono HB12'.out.size)); have HR13 := Lib.hid (HRd'.out.keep hb); obtain ⟨q0, q1, q2⟩ := HI.out.keep HB13.out HZ.out; clear hb) | (go_at_call 15; (with_reducible refine (iget_any N w1.heap.size P false _ (by have := hP27.out; omega) HPR.out HN.out HR13.out).mono ?_); rintro e w14 ⟨op', a', b', rfl, hr, hb, hx⟩; rw [HG.out] at hr hx; obtain ⟨rfl, rfl, rfl⟩ : op = op' ∧ a = a' ∧ b = b' := (by simpa using hx rfl); have HB14 := Lib.hid (HB13.out.trans hb); have HR14 := Lib.hid hr; obtain ⟨q0, q1, q2⟩ := HI.out.keep HB14.out HZ.out; clear hb hr hx) | (go_at_call 16; (with_reducible refine (bend_any N [] false _ HR14.out).mono ?_); rintro e w15 ⟨rfl, hb⟩; have HB15 := Lib.hid (HB14.out.trans (hb.mono HB14.out.size)); obtain ⟨q0, q1, q2⟩ := HI.out.keep HB15.out HZ.out; clear hb))
      go_wp2
      go_ret
      exact ⟨rfl, HW.out.trans (HB15.out.mono (Nat.le_of_lt HZ.out))⟩
  · have hX : z ++ Y0 ++ Y1 = z ++ P := by rw [hP2, if_pos (by omega), if_neg (by omega)]; simp
    go_wp2_with (first | (go_at_call 9; (with_reducible refine (rargs_any op _).mono ?_); rintro e w8 ⟨rfl, hb⟩; rw [HN.out]; have HO := Lib.hid (own_below HO.out hb (own_block_lt HO.out)); have HB := Lib.hid (HB.out.trans (hb.mono HB.out.size)); obtain ⟨q0, q1, q2⟩ := HI.out.keep HB.out HZ.out; clear hb) | (go_at_call 12; (with_reducible refine (rbytes_any a (by omega) _).mono ?_); rintro e w8 ⟨v5, rfl, ho5, hb⟩; rw [HY1.out] at ho5; obtain ⟨A5, c5, rfl, hL5, hA5⟩ := own_slice_nil ho5; have HL5 := Lib.hid hL5; have HA5 := Lib.hid hA5; clear ho5 hL5 hA5; have HO := Lib.hid (own_below HO.out hb (own_block_lt HO.out)); have HB := Lib.hid (HB.out.trans (hb.mono HB.out.size)); obtain ⟨q0, q1, q2⟩ := HI.out.keep HB.out HZ.out; clear hb) | (go_at_call 12; (with_reducible refine (rbytes_any b (by omega) _).mono ?_); rintro e w8 ⟨v5, rfl, ho5, hb⟩; rw [HY2.out] at ho5; obtain ⟨A5, c5, rfl, hL5, hA5⟩ := own_slice_nil ho5; have HL5 := Lib.hid hL5; have HA5 := Lib.hid hA5; clear ho5 hL5 hA5; have HO := Lib.hid (own_below HO.out hb (own_block_lt HO.out)); have HB := Lib.hid (HB.out.trans (hb.mono HB.out.size)); obtain ⟨q0, q1, q2⟩ := HI.out.keep HB.out HZ.out; clear hb) | (at_builtin; refine append_lies rfl _ _ 27 rfl w1.heap.size 5 i0 (.int .u8 0) 1 Try.underlying27 hi hz0 hz1 hz2 rfl _ _ _ rfl HO.out A5 _ c5 _ (Y1.map (Value.int .u8)) (by simp) rfl HA5.out HL5.out (u8_one _) (by simp only [List.length_append]; unfold maxLen; omega) (by simp only [List.length_append]; omega) HB.out.size ?_; intro v6 w6 hown hgrow; obtain ⟨ho6, hb6⟩ := app_more HB.out HO.out HB.out.size hown hgrow; rw [← List.length_append] at ho6; have HO := Lib.hid ho6; have HB := Lib.hid hb6; obtain ⟨q0, q1, q2⟩ := HI.out.keep HB.out HZ.out; clear hown hgrow ho6 hb6) | (at_builtin; refine append_lies rfl _ _ 27 rfl w1.heap.size 5 i0 (.int .u8 0) 1 Try.underlying27 hi hz0 hz1 hz2 rfl _ _ _ rfl HO.out A5 _ c5 _ (Y2.map (Value.int .u8)) (by simp) rfl HA5.out HL5.out (u8_one _) (by simp only [List.length_append]; unfold maxLen; omega) (by simp only [List.length_append]; omega) HB.out.size ?_; intro v6 w6 hown hgrow; obtain ⟨ho6, hb6⟩ := app_more HB.out HO.out HB.out.size hown hgrow; rw [← List.length_append] at ho6; have HO := Lib.hid ho6; have HB := Lib.hid hb6; obtain ⟨q0, q1, q2⟩ := HI.out.keep HB.out HZ.out; clear hown hgrow ho6 hb6))
    rw [hX] at HO
    have HBb : Hid (Below w1.heap.size w1 (w8.drew.alloc (.cells #[] 5))) := Lib.hid (HB.out.drew.alloc HB.out.size _)
    refine wp_region_noPanic ?_
    refine wp_region_held_drew (S := (fun w' => w'.cell? ⟨w.heap.size, 0, none⟩ = some (.int .i64 op) ∧ w'.cell? ⟨w.heap.size, 1, none⟩ = some (.int .i64 a) ∧ w'.cell? ⟨w.heap.size, 2, none⟩ = some (.int .i64 b))) (by kernel_rfl) ⟨q0, q1, q2⟩ (fun hHeld => ?_)
    refine wpAnyH_take (i := 1) (oi := _) (v := ?_) rfl (by kernel_rfl) (by kernel_rfl) (by kernel_rfl) (fun _ _ _ h => h) (Or.inl ⟨by rfl, ?_⟩) (by assumption) ?_
    rotate_left
    · (intro w hSw; (try dsimp only at hSw); go_simp <;> with_reducible rfl)
    try simp only [List.getElem_toArray, List.getElem_cons_succ, List.getElem_cons_zero, Act.put, List.setIfInBounds_toArray, List.set_cons_zero, List.set_cons_succ]
    refine wpAnyH_take (i := 3) (oi := _) (v := ?_) rfl (by kernel_rfl) (by kernel_rfl) (by kernel_rfl) (fun _ _ _ h => h) (Or.inl ⟨by rfl, ?_⟩) (by assumption) ?_
    rotate_left
    · (intro w hSw; (try dsimp only at hSw); go_simp <;> with_reducible rfl)
    try simp only [List.getElem_toArray, List.getElem_cons_succ, List.getElem_cons_zero, Act.put, List.setIfInBounds_toArray, List.set_cons_zero, List.set_cons_succ]
    refine wpAnyH_ready (rs := [0]) (by kernel_rfl) (by simp) ?_
    refine AllReadyH.cons (o := _) rfl (fun K hK => ?_) AllReadyH.nil
    go_simp
    refine hK.out _ _ (HI.out.keep HBb.out HZ.out) (fun hHeld => ?_)
    clear hK K
    try simp only [List.getElem_toArray, List.getElem_cons_succ, List.getElem_cons_zero, Act.put, List.setIfInBounds_toArray, List.set_cons_zero, List.set_cons_succ]
    refine wpAnyH_ready (rs := [2]) (by kernel_rfl) (by simp) ?_
    refine AllReadyH.cons (o := _) rfl (fun K hK => ?_) AllReadyH.nil
    (refine step_app rfl _ _ 27 rfl _ 5 i0 (.int .u8 0) 1 Try.underlying27 hi hz0 hz1 hz2 rfl _ _ _ rfl (own_empty w8.drew _) A _ cap w1.heap.size (z.map (Value.int .u8)) (by simp) rfl HA.out (HL.out.below HBb.out) (u8_one _) (by unfold maxLen; omega) (by omega) (by simp) ?_; intro v9 w9 hown hgrow; obtain ⟨ho9, hb9⟩ := app_out (W := w8.drew) hown hgrow; have HO9 := Lib.hid ho9; have HB9' := Lib.hid hb9; have HB9 := Lib.hid (HB.out.drew.trans (hb9.mono HB.out.size)); have HOw := Lib.hid (own_below HO.out ((Below.refl _ _).drew.trans hb9) (own_block_lt HO.out)); clear hown hgrow ho9 hb9)
    refine hK.out _ _ (HI.out.keep HB9.out HZ.out) (fun hHeld => ?_)
    clear hK K
    try simp only [List.getElem_toArray, List.getElem_cons_succ, List.getElem_cons_zero, Act.put, List.setIfInBounds_toArray, List.set_cons_zero, List.set_cons_succ]
    refine wpAnyH_ready (rs := [4]) (by kernel_rfl) (by simp) ?_
    refine AllReadyH.cons (o := _) rfl (fun K hK => ?_) AllReadyH.nil
    go_simp
    (go_at_call 13; (with_reducible refine (iput_any z _ op a b _ _ (by omega) (by omega) (by omega) (by omega) HB9'.out.size HO9.out).mono ?_); rintro e w10 ⟨v10, rfl, ho, hb⟩; rw [HP.out] at ho; have HOg := Lib.hid ho; have HB10 := Lib.hid (HB9.out.trans (hb.mono HB.out.size)); have HOw := Lib.hid (own_below HOw.out hb (own_block_lt HO.out)); clear ho hb)
    refine hK.out _ _ (HI.out.keep HB10.out HZ.out) (fun hHeld => ?_)
    clear hK K
    try simp only [List.getElem_toArray, List.getElem_cons_succ, List.getElem_cons_zero, Act.put, List.setIfInBounds_toArray, List.set_cons_zero, List.set_cons_succ]
    refine wpAnyH_take (i := 5) (oi := _) (v := ?_) rfl (by kernel_rfl) (by kernel_rfl) (by kernel_rfl) (fun _ _ _ h => h) (Or.inl ⟨by rfl, ?_⟩) (by assumption) ?_
    rotate_left
    · (intro w hSw; (try dsimp only at hSw); go_simp <;> with_reducible rfl)
    try simp only [List.getElem_toArray, List.getElem_cons_succ, List.getElem_cons_zero, Act.put, List.setIfInBounds_toArray, List.set_cons_zero, List.set_cons_succ]
    refine wpAnyH_done (by kernel_rfl) ?_ _
    refine NoPanic.normal ?_
    have hXl : (z ++ P).length = z.length + P.length := List.length_append
    have hXd : (z ++ P).drop z.length = P := by simp
    obtain ⟨X, hXX⟩ : ∃ X, z ++ P = X := ⟨_, rfl⟩
    rw [hXX] at HOg HOw hXl hXd
    have hXp : 0 < X.length := by omega
    have hle : z.length ≤ X.length := by omega
    have hlt : z.length < X.length := by omega
    have hX50 : X.length ≤ 100 := by omega
    have HXL := Lib.hid hXl
    have HXD := Lib.hid hXd
    clear hX hP2 hXl hXd hXX
    obtain ⟨gg, cg, rfl, hcg, hmg, hgg, hglg, hlg⟩ := own_bytes HOg.out hXp
    obtain ⟨gw, cw, rfl, hcw, hmw, hgw, hglw, hlw⟩ := own_bytes HOw.out hXp
    have kk1 := conv_u8 (cap := cg) hlg
    have kk2 := conv_u8 (cap := cw) hlw
    have HLg := Lib.hid hlg
    have HSg : Hid (w10.heap.size ≤ w10.heap.size) := Lib.hid (Nat.le_refl _)
    obtain ⟨q0, q1, q2⟩ := HI.out.keep HB10.out HZ.out
    have hcz : ¬ cg = z.length := by omega
    clear hlg hlw HBb HB9 HB9' HO9 HO HB
    cases r
    · go_wp2_with (first | (go_at_call 11; (with_reducible refine (rinstr_any op a b _).mono ?_); rintro e w11 ⟨he, hb⟩; rw [HRR.out] at he; subst he; have HB11 := Lib.hid (HB10.out.trans (hb.mono HB10.out.size)); obtain ⟨q0, q1, q2⟩ := HI.out.keep HB11.out HZ.out; have HLg11 := Lib.hid (HLg.out.below hb); have HS11 := Lib.hid (Nat.le_trans HSg.out hb.size); clear hb) | (go_at_call 7; (with_reducible refine (iawake_any _).mono ?_); rintro e w12 ⟨rfl, hb⟩; have HB12 := Lib.hid (HB11.out.trans (hb.mono HB11.out.size)); clear hb))
      go_ret
      exact ⟨rfl, HW.out.trans (HB12.out.mono (Nat.le_of_lt HZ.out))⟩
    · have HPM : Hid (P.length = X.length - z.length) := Lib.hid (by have := HXL.out; omega)
      have H2 : Hid (X.length - z.length ≤ 200) := Lib.hid (by omega)
      have HAn : Hid (some (⟨gg, z.length, none⟩ : Addr) = none → cg - z.length = 0) := Lib.hid (fun h => by cases h)
      have hG := getI_put [] HRR.out
      rw [List.append_nil, HP.out] at hG
      have HG := Lib.hid hG
      have hP27 : Hid (P.length ≤ 27) := Lib.hid hPl
      clear hG
      go_wp2_with (first | (go_at_call 11; (with_reducible refine (rinstr_any op a b _).mono ?_); rintro e w11 ⟨he, hb⟩; rw [HRR.out] at he; subst he; have HB11 := Lib.hid (HB10.out.trans (hb.mono HB10.out.size)); obtain ⟨q0, q1, q2⟩ := HI.out.keep HB11.out HZ.out; have HLg11 := Lib.hid (HLg.out.below hb); have HS11 := Lib.hid (Nat.le_trans HSg.out hb.size); clear hb) | (go_at_call 14; (with_reducible refine (new_len HPM H2 HPR HS11 HAn (lies_tail HLg11 HXD)).mono ?_); rintro e w12 ⟨N, rfl, hN, hr, hb⟩; have HRd := Lib.hid hr; have HB12 := Lib.hid (HB11.out.trans (hb.mono HB11.out.size)); have HN := Lib.hid (Nat.le_trans HB11.out.size hN); obtain ⟨q0, q1, q2⟩ := HI.out.keep HB12.out HZ.out; clear hr hb hN))
      have HRd' : Hid (Rd w12.drew N P false) := HRd
      have HB12' : Hid (Below w1.heap.size w1 w12.drew) := Lib.hid HB12.out.drew
      go_region_held3 (fun w' => w'.cell? ⟨w.heap.size, 0, none⟩ = some (.int .i64 op) ∧ w'.cell? ⟨w.heap.size, 1, none⟩ = some (.int .i64 a) ∧ w'.cell? ⟨w.heap.size, 2, none⟩ = some (.int .i64 b))
        (first | go_keep | exact ⟨q0, q1, q2⟩)
        (first | (go_at_call 7; (with_reducible refine (iawake_any _).mono ?_); rintro e w13 ⟨rfl, hb⟩; have HB13 := Lib.hid (HB12'.out.trans (hb.mono HB12'.out.size)); have HR13 := Lib.hid (HRd'.out.keep hb); obtain ⟨q0, q1, q2⟩ := HI.out.keep HB13.out HZ.out; clear hb) | (go_at_call 15; (with_reducible refine (iget_any N w1.heap.size P false _ (by have := hP27.out; omega) HPR.out HN.out HR13.out).mono ?_); rintro e w14 ⟨op', a', b', rfl, hr, hb, hx⟩; rw [HG.out] at hr hx; obtain ⟨rfl, rfl, rfl⟩ : op = op' ∧ a = a' ∧ b = b' := (by simpa using hx rfl); have HB14 := Lib.hid (HB13.out.trans hb); have HR14 := Lib.hid hr; obtain ⟨q0, q1, q2⟩ := HI.out.keep HB14.out HZ.out; clear hb hr hx) | (go_at_call 16; (with_reducible refine (bend_any N [] false _ HR14.out).mono ?_); rintro e w15 ⟨rfl, hb⟩; have HB15 := Lib.hid (HB14.out.trans (hb.mono HB14.out.size)); obtain ⟨q0, q1, q2⟩ := HI.out.keep HB15.out HZ.out; clear hb))
      go_wp2
      go_ret
      exact ⟨rfl, HW.out.trans (HB15.out.mono (Nat.le_of_lt HZ.out))⟩
  · have hX : z ++ Y0 ++ Y1 ++ Y2 = z ++ P := by rw [hP2, if_pos (by omega), if_pos (by omega)]; simp
    go_wp2_with (first | (go_at_call 9; (with_reducible refine (rargs_any op _).mono ?_); rintro e w8 ⟨rfl, hb⟩; rw [HN.out]; have HO := Lib.hid (own_below HO.out hb (own_block_lt HO.out)); have HB := Lib.hid (HB.out.trans (hb.mono HB.out.size)); obtain ⟨q0, q1, q2⟩ := HI.out.keep HB.out HZ.out; clear hb) | (go_at_call 12; (with_reducible refine (rbytes_any a (by omega) _).mono ?_); rintro e w8 ⟨v5, rfl, ho5, hb⟩; rw [HY1.out] at ho5; obtain ⟨A5, c5, rfl, hL5, hA5⟩ := own_slice_nil ho5; have HL5 := Lib.hid hL5; have HA5 := Lib.hid hA5; clear ho5 hL5 hA5; have HO := Lib.hid (own_below HO.out hb (own_block_lt HO.out)); have HB := Lib.hid (HB.out.trans (hb.mono HB.out.size)); obtain ⟨q0, q1, q2⟩ := HI.out.keep HB.out HZ.out; clear hb) | (go_at_call 12; (with_reducible refine (rbytes_any b (by omega) _).mono ?_); rintro e w8 ⟨v5, rfl, ho5, hb⟩; rw [HY2.out] at ho5; obtain ⟨A5, c5, rfl, hL5, hA5⟩ := own_slice_nil ho5; have HL5 := Lib.hid hL5; have HA5 := Lib.hid hA5; clear ho5 hL5 hA5; have HO := Lib.hid (own_below HO.out hb (own_block_lt HO.out)); have HB := Lib.hid (HB.out.trans (hb.mono HB.out.size)); obtain ⟨q0, q1, q2⟩ := HI.out.keep HB.out HZ.out; clear hb) | (at_builtin; refine append_lies rfl _ _ 27 rfl w1.heap.size 5 i0 (.int .u8 0) 1 Try.underlying27 hi hz0 hz1 hz2 rfl _ _ _ rfl HO.out A5 _ c5 _ (Y1.map (Value.int .u8)) (by simp) rfl HA5.out HL5.out (u8_one _) (by simp only [List.length_append]; unfold maxLen; omega) (by simp only [List.length_append]; omega) HB.out.size ?_; intro v6 w6 hown hgrow; obtain ⟨ho6, hb6⟩ := app_more HB.out HO.out HB.out.size hown hgrow; rw [← List.length_append] at ho6; have HO := Lib.hid ho6; have HB := Lib.hid hb6; obtain ⟨q0, q1, q2⟩ := HI.out.keep HB.out HZ.out; clear hown hgrow ho6 hb6) | (at_builtin; refine append_lies rfl _ _ 27 rfl w1.heap.size 5 i0 (.int .u8 0) 1 Try.underlying27 hi hz0 hz1 hz2 rfl _ _ _ rfl HO.out A5 _ c5 _ (Y2.map (Value.int .u8)) (by simp) rfl HA5.out HL5.out (u8_one _) (by simp only [List.length_append]; unfold maxLen; omega) (by simp only [List.length_append]; omega) HB.out.size ?_; intro v6 w6 hown hgrow; obtain ⟨ho6, hb6⟩ := app_more HB.out HO.out HB.out.size hown hgrow; rw [← List.length_append] at ho6; have HO := Lib.hid ho6; have HB := Lib.hid hb6; obtain ⟨q0, q1, q2⟩ := HI.out.keep HB.out HZ.out; clear hown hgrow ho6 hb6))
    rw [hX] at HO
    have HBb : Hid (Below w1.heap.size w1 (w6.drew.alloc (.cells #[] 5))) := Lib.hid (HB.out.drew.alloc HB.out.size _)
    refine wp_region_noPanic ?_
    refine wp_region_held_drew (S := (fun w' => w'.cell? ⟨w.heap.size, 0, none⟩ = some (.int .i64 op) ∧ w'.cell? ⟨w.heap.size, 1, none⟩ = some (.int .i64 a) ∧ w'.cell? ⟨w.heap.size, 2, none⟩ = some (.int .i64 b))) (by kernel_rfl) ⟨q0, q1, q2⟩ (fun hHeld => ?_)
    refine wpAnyH_take (i := 1) (oi := _) (v := ?_) rfl (by kernel_rfl) (by kernel_rfl) (by kernel_rfl) (fun _ _ _ h => h) (Or.inl ⟨by rfl, ?_⟩) (by assumption) ?_
    rotate_left
    · (intro w hSw; (try dsimp only at hSw); go_simp <;> with_reducible rfl)
    try simp only [List.getElem_toArray, List.getElem_cons_succ, List.getElem_cons_zero, Act.put, List.setIfInBounds_toArray, List.set_cons_zero, List.set_cons_succ]
    refine wpAnyH_take (i := 3) (oi := _) (v := ?_) rfl (by kernel_rfl) (by kernel_rfl) (by kernel_rfl) (fun _ _ _ h => h) (Or.inl ⟨by rfl, ?_⟩) (by assumption) ?_
    rotate_left
    · (intro w hSw; (try dsimp only at hSw); go_simp <;> with_reducible rfl)
    try simp only [List.getElem_toArray, List.getElem_cons_succ, List.getElem_cons_zero, Act.put, List.setIfInBounds_toArray, List.set_cons_zero, List.set_cons_succ]
    refine wpAnyH_ready (rs := [0]) (by kernel_rfl) (by simp) ?_
    refine AllReadyH.cons (o := _) rfl (fun K hK => ?_) AllReadyH.nil
    go_simp
    refine hK.out _ _ (HI.out.keep HBb.out HZ.out) (fun hHeld => ?_)
    clear hK K
    try simp only [List.getElem_toArray, List.getElem_cons_succ, List.getElem_cons_zero, Act.put, List.setIfInBounds_toArray, List.set_cons_zero, List.set_cons_succ]
    refine wpAnyH_ready (rs := [2]) (by kernel_rfl) (by simp) ?_
    refine AllReadyH.cons (o := _) rfl (fun K hK => ?_) AllReadyH.nil
    (refine step_app rfl _ _ 27 rfl _ 5 i0 (.int .u8 0) 1 Try.underlying27 hi hz0 hz1 hz2 rfl _ _ _ rfl (own_empty w6.drew _) A _ cap w1.heap.size (z.map (Value.int .u8)) (by simp) rfl HA.out (HL.out.below HBb.out) (u8_one _) (by unfold maxLen; omega) (by omega) (by simp) ?_; intro v9 w9 hown hgrow; obtain ⟨ho9, hb9⟩ := app_out (W := w6.drew) hown hgrow; have HO9 := Lib.hid ho9; have HB9' := Lib.hid hb9; have HB9 := Lib.hid (HB.out.drew.trans (hb9.mono HB.out.size)); have HOw := Lib.hid (own_below HO.out ((Below.refl _ _).drew.trans hb9) (own_block_lt HO.out)); clear hown hgrow ho9 hb9)
    refine hK.out _ _ (HI.out.keep HB9.out HZ.out) (fun hHeld => ?_)
    clear hK K
    try simp only [List.getElem_toArray, List.getElem_cons_succ, List.getElem_cons_zero, Act.put, List.setIfInBounds_toArray, List.set_cons_zero, List.set_cons_succ]
    refine wpAnyH_ready (rs := [4]) (by kernel_rfl) (by simp) ?_
    refine AllReadyH.cons (o := _) rfl (fun K hK => ?_) AllReadyH.nil
    go_simp
    (go_at_call 13; (with_reducible refine (iput_any z _ op a b _ _ (by omega) (by omega) (by omega) (by omega) HB9'.out.size HO9.out).mono ?_); rintro e w10 ⟨v10, rfl, ho, hb⟩; rw [HP.out] at ho; have HOg := Lib.hid ho; have HB10 := Lib.hid (HB9.out.trans (hb.mono HB.out.size)); have HOw := Lib.hid (own_below HOw.out hb (own_block_lt HO.out)); clear ho hb)
    refine hK.out _ _ (HI.out.keep HB10.out HZ.out) (fun hHeld => ?_)
    clear hK K
    try simp only [List.getElem_toArray, List.getElem_cons_succ, List.getElem_cons_zero, Act.put, List.setIfInBounds_toArray, List.set_cons_zero, List.set_cons_succ]
    refine wpAnyH_take (i := 5) (oi := _) (v := ?_) rfl (by kernel_rfl) (by kernel_rfl) (by kernel_rfl) (fun _ _ _ h => h) (Or.inl ⟨by rfl, ?_⟩) (by assumption) ?_
    rotate_left
    · (intro w hSw; (try dsimp only at hSw); go_simp <;> with_reducible rfl)
    try simp only [List.getElem_toArray, List.getElem_cons_succ, List.getElem_cons_zero, Act.put, List.setIfInBounds_toArray, List.set_cons_zero, List.set_cons_succ]
    refine wpAnyH_done (by kernel_rfl) ?_ _
    refine NoPanic.normal ?_
    have hXl : (z ++ P).length = z.length + P.length := List.length_append
    have hXd : (z ++ P).drop z.length = P := by simp
    obtain ⟨X, hXX⟩ : ∃ X, z ++ P = X := ⟨_, rfl⟩
    rw [hXX] at HOg HOw hXl hXd
    have hXp : 0 < X.length := by omega
    have hle : z.length ≤ X.length := by omega
    have hlt : z.length < X.length := by omega
    have hX50 : X.length ≤ 100 := by omega
    have HXL := Lib.hid hXl
    have HXD := Lib.hid hXd
    clear hX hP2 hXl hXd hXX
    obtain ⟨gg, cg, rfl, hcg, hmg, hgg, hglg, hlg⟩ := own_bytes HOg.out hXp
    obtain ⟨gw, cw, rfl, hcw, hmw, hgw, hglw, hlw⟩ := own_bytes HOw.out hXp
    have kk1 := conv_u8 (cap := cg) hlg
    have kk2 := conv_u8 (cap := cw) hlw
    have HLg := Lib.hid hlg
    have HSg : Hid (w10.heap.size ≤ w10.heap.size) := Lib.hid (Nat.le_refl _)
    obtain ⟨q0, q1, q2⟩ := HI.out.keep HB10.out HZ.out
    have hcz : ¬ cg = z.length := by omega
    clear hlg hlw HBb HB9 HB9' HO9 HO HB
    cases r
    · go_wp2_with (first | (go_at_call 11; (with_reducible refine (rinstr_any op a b _).mono ?_); rintro e w11 ⟨he, hb⟩; rw [HRR.out] at he; subst he; have HB11 := Lib.hid (HB10.out.trans (hb.mono HB10.out.size)); obtain ⟨q0, q1, q2⟩ := HI.out.keep HB11.out HZ.out; have HLg11 := Lib.hid (HLg.out.below hb); have HS11 := Lib.hid (Nat.le_trans HSg.out hb.size); clear hb) | (go_at_call 7; (with_reducible refine (iawake_any _).mono ?_); rintro e w12 ⟨rfl, hb⟩; have HB12 := Lib.hid (HB11.out.trans (hb.mono HB11.out.size)); clear hb))
      go_ret
      exact ⟨rfl, HW.out.trans (HB12.out.mono (Nat.le_of_lt HZ.out))⟩
    · have HPM : Hid (P.length = X.length - z.length) := Lib.hid (by have := HXL.out; omega)
      have H2 : Hid (X.length - z.length ≤ 200) := Lib.hid (by omega)
      have HAn : Hid (some (⟨gg, z.length, none⟩ : Addr) = none → cg - z.length = 0) := Lib.hid (fun h => by cases h)
      have hG := getI_put [] HRR.out
      rw [List.append_nil, HP.out] at hG
      have HG := Lib.hid hG
      have hP27 : Hid (P.length ≤ 27) := Lib.hid hPl
      clear hG
      go_wp2_with (first | (go_at_call 11; (with_reducible refine (rinstr_any op a b _).mono ?_); rintro e w11 ⟨he, hb⟩; rw [HRR.out] at he; subst he; have HB11 := Lib.hid (HB10.out.trans (hb.mono HB10.out.size)); obtain ⟨q0, q1, q2⟩ := HI.out.keep HB11.out HZ.out; have HLg11 := Lib.hid (HLg.out.below hb); have HS11 := Lib.hid (Nat.le_trans HSg.out hb.size); clear hb) | (go_at_call 14; (with_reducible refine (new_len HPM H2 HPR HS11 HAn (lies_tail HLg11 HXD)).mono ?_); rintro e w12 ⟨N, rfl, hN, hr, hb⟩; have HRd := Lib.hid hr; have HB12 := Lib.hid (HB11.out.trans (hb.mono HB11.out.size)); have HN := Lib.hid (Nat.le_trans HB11.out.size hN); obtain ⟨q0, q1, q2⟩ := HI.out.keep HB12.out HZ.out; clear hr hb hN))
      have HRd' : Hid (Rd w12.drew N P false) := HRd
      have HB12' : Hid (Below w1.heap.size w1 w12.drew) := Lib.hid HB12.out.drew
      go_region_held3 (fun w' => w'.cell? ⟨w.heap.size, 0, none⟩ = some (.int .i64 op) ∧ w'.cell? ⟨w.heap.size, 1, none⟩ = some (.int .i64 a) ∧ w'.cell? ⟨w.heap.size, 2, none⟩ = some (.int .i64 b))
        (first | go_keep | exact ⟨q0, q1, q2⟩)
        (first | (go_at_call 7; (with_reducible refine (iawake_any _).mono ?_); rintro e w13 ⟨rfl, hb⟩; have HB13 := Lib.hid (HB12'.out.trans (hb.mono HB12'.out.size)); have HR13 := Lib.hid (HRd'.out.keep hb); obtain ⟨q0, q1, q2⟩ := HI.out.keep HB13.out HZ.out; clear hb) | (go_at_call 15; (with_reducible refine (iget_any N w1.heap.size P false _ (by have := hP27.out; omega) HPR.out HN.out HR13.out).mono ?_); rintro e w14 ⟨op', a', b', rfl, hr, hb, hx⟩; rw [HG.out] at hr hx; obtain ⟨rfl, rfl, rfl⟩ : op = op' ∧ a = a' ∧ b = b' := (by simpa using hx rfl); have HB14 := Lib.hid (HB13.out.trans hb); have HR14 := Lib.hid hr; obtain ⟨q0, q1, q2⟩ := HI.out.keep HB14.out HZ.out; clear hb hr hx) | (go_at_call 16; (with_reducible refine (bend_any N [] false _ HR14.out).mono ?_); rintro e w15 ⟨rfl, hb⟩; have HB15 := Lib.hid (HB14.out.trans (hb.mono HB14.out.size)); obtain ⟨q0, q1, q2⟩ := HI.out.keep HB15.out HZ.out; clear hb))
      go_wp2
      go_ret
      exact ⟨rfl, HW.out.trans (HB15.out.mono (Nat.le_of_lt HZ.out))⟩

theorem instPuts_walk (z : List Int) (A : Option Addr) (cap : Nat) (op a b : Int) (w : World) (hl : z.length ≤ cap) (hm : cap ≤ 9223372036854775807)
    (hL : Lies w w.heap.size A (z.map (Value.int .u8))) (rL : ∀ n ∈ z, 0 ≤ n ∧ n ≤ 255) (hA : A = none → cap = 0) :
    Calls Try.prog 4 #[.slice A z.length cap, insV op a b] w fun e w' => e = .returned (.bool true) ∧ Below w.heap.size w w' := by
  by_cases h : z.length ≤ 50 ∧ op ≤ 1152921504606846976 ∧ a ≤ 1152921504606846976 ∧ b ≤ 1152921504606846976
  · exact instPuts_near z A cap op a b w hl hm h.1 h.2.1 h.2.2.1 h.2.2.2 hL rL hA
  · exact instPuts_far z A cap op a b w hl hm (by omega)
end Go.Proofs.Ytemllmaelioeaaa
