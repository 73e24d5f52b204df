/-
  The statement on putting numbers (BitsPuts), walked: it answers true at any bytes and numbers.
-/
import Derived.Test.YtoabaanpfhlloaaBitsNone
import Derived.Deep.RegionHeld3
namespace Go.Proofs.Ytoabaanpfhlloaa
open Go.ChangeShapes Go.WideShapes Go.ChangeAt Go.RowKit
set_option linter.unusedVariables false
set_option linter.unusedSimpArgs false

theorem bitsPuts_far (z : List Int) (A : Option Addr) (cap : Nat) (n k : Int) (w : World) (hl : z.length ≤ cap) (hm : cap ≤ 9223372036854775807) (h : (100 : Int) < z.length ∨ ((z.length : Int) ≤ 100 ∧ 1152921504606846976 < n)) :
    Calls Try.prog 3 #[.slice A z.length cap, .int .i64 n, .int .i32 k] w fun e w' => e = .returned (.bool true) ∧ Below w.heap.size w w' := by
  rcases h with h | ⟨h, g⟩
  all_goals
    go_enter Try.func3, Try.ntmps3
    go_wp2_with (go_at_call 8; (with_reducible refine (bawake_any _).mono ?_); rintro e w' ⟨rfl, hb⟩)
    go_ret
    exact ⟨rfl, hb⟩

theorem str_append (l m : List Int) : strOfNums l ++ strOfNums m = strOfNums (l ++ m) := by
  simp only [strOfNums, List.map_append]
  exact ByteArray.mk_append_mk _ _
theorem str_add (P : Program) (w : World) {l m : List Int} (h : l.length + m.length ≤ 1000) : (Op.stringOp .add (strOfNums l) (strOfNums m)).run P w = .ok (.string (strOfNums (l ++ m))) w := by
  have e := run_string_add_sum (P := P) (w := w) (strOfNums l) (strOfNums m) (by rw [strOfNums_size, strOfNums_size]; omega)
  rw [str_append] at e
  exact e
/-- The conversions of three slices of bytes. -/
theorem conv_u8 {w : World} {B : Nat} {A : Option Addr} {l : List Int} {cap : Nat} (h : Lies w B A (l.map (Value.int .u8))) : (convert 22 9 (.slice A l.length cap)).run Try.prog w = .ok (.string (strOfNums l)) w :=
  conv_lies Try.underlying22 Try.underlying5 Try.underlying9 h

set_option maxRecDepth 100000 in
set_option maxHeartbeats 3200000 in
theorem bitsPuts_near (z : List Int) (A : Option Addr) (cap : Nat) (n k : Int) (w : World) (hl : z.length ≤ cap) (hm : cap ≤ 9223372036854775807) (h : z.length ≤ 100) (hn : n ≤ 1152921504606846976)
    (k0 : -2147483648 ≤ k) (k1 : k ≤ 2147483647) (hA : A = none → cap = 0) (hL : Lies w w.heap.size A (z.map (Value.int .u8))) :
    Calls Try.prog 3 #[.slice A z.length cap, .int .i64 n, .int .i32 k] w fun e w' => e = .returned (.bool true) ∧ Below w.heap.size w w' := by
  obtain ⟨i0, hi, hz0, hz1, hz2⟩ := info_parts info_u8
  obtain ⟨Y, hY⟩ : ∃ Y, bytesOf n.toNat = Y := ⟨_, rfl⟩
  obtain ⟨Z, hZ⟩ : ∃ Z, bytesOf (zig k).toNat = Z := ⟨_, rfl⟩
  obtain ⟨X1, hX1⟩ : ∃ X, z ++ Y = X := ⟨_, rfl⟩
  obtain ⟨X2, hX2⟩ : ∃ X, z ++ Z = X := ⟨_, rfl⟩
  have hY9 : Y.length ≤ 9 := by rw [← hY]; exact bytesOf_len9 (by omega)
  have hZ9 : Z.length ≤ 9 := by rw [← hZ]; exact bytesOf_len9 (by have := zig_hi k0 k1; omega)
  have hYp : 0 < Y.length := by rw [← hY]; exact bytesOf_pos _
  have hZp : 0 < Z.length := by rw [← hZ]; exact bytesOf_pos _
  have hX1p : 0 < X1.length := by rw [← hX1, List.length_append]; omega
  have hX2p : 0 < X2.length := by rw [← hX2, List.length_append]; omega
  have HYN := Lib.hid hY
  have HZN := Lib.hid hZ
  have HX1 := Lib.hid hX1
  have HX2 := Lib.hid hX2
  have HA := Lib.hid hA
  have HL0 := Lib.hid hL
  have HB0 : Hid (w.heap.size ≤ w.heap.size) := Lib.hid (Nat.le_refl _)
  clear hY hZ hX1 hX2 hA hL
  go_enter Try.func3, Try.ntmps3
  go_wp2_with (first
    | (at_builtin; refine append_lies rfl _ _ 22 rfl _ 5 i0 (.int .u8 0) 1 Try.underlying22 hi hz0 hz1 hz2 rfl _ _ _ rfl (own_empty _ _) A z.length cap _ (z.map (Value.int .u8)) (by simp) rfl HA.out (lies_alloc (by assumption) (by assumption) _) (u8_one _) (by unfold maxLen; omega) (by omega) (by simp) ?_; intro v' w1 hown hgrow; obtain ⟨ho, hb⟩ := app_out hown hgrow; have HO1 := Lib.hid ho; have HBB1 := Lib.hid hb; clear hown hgrow ho hb)
    | (go_at_call 9; (with_reducible refine (bput_any z _ n _ _ (by omega) (by omega) HBB1.out.size HO1.out).mono ?_); rintro e w2 ⟨v2, rfl, ho, hb⟩; rw [HYN.out, HX1.out] at ho; have HO2 := Lib.hid ho; have HBB2 := Lib.hid (HBB1.out.trans hb); have HL2 := Lib.hid (HL0.out.below_to HBB2.out (Nat.le_refl _)); have HB2 := Lib.hid HBB2.out.size; clear ho hb)
    | (go_at_call 10; (with_reducible refine (blong_any z _ k _ _ k0 k1 (by omega) HBB1.out.size HO1.out).mono ?_); rintro e w4 ⟨v4, rfl, ho, hb⟩; rw [HZN.out, HX2.out] at ho; have HO4 := Lib.hid ho; have HBB4 := Lib.hid (HBB1.out.trans hb); clear ho hb))
  have ho2 := own_below HO2.out HBB4.out (own_block_lt HO2.out)
  obtain ⟨g1, c1, rfl, hc1, hm1, hg1, hgl1, hl1⟩ := own_bytes ho2 hX1p
  obtain ⟨g2, c2, rfl, hc2, hm2, hg2, hgl2, hl2⟩ := own_bytes HO4.out hX2p
  have M1 : Hid (Lies w4 w4.heap.size (some ⟨g1, 0, none⟩) (X1.map (Value.int .u8))) := Lib.hid hl1
  have M2 : Hid (Lies w4 w4.heap.size (some ⟨g2, 0, none⟩) (X2.map (Value.int .u8))) := Lib.hid hl2
  have M0 : Hid (Lies w4 w4.heap.size A (z.map (Value.int .u8))) := Lib.hid ((HL0.out.below_to HBB2.out (Nat.le_refl _) |>.below_to HBB4.out HBB2.out.size).more (by have := HBB2.out.size; have := HBB4.out.size; omega))
  have HW4 := Lib.hid (HBB2.out.trans (HBB4.out.mono HBB2.out.size))
  have C4 : Hid (Below w4.heap.size w4 w4.drew) := Lib.hid (Below.refl _ _).drew
  have hadd1 : ∀ W, (Op.stringOp .add (strOfNums z) (strOfNums Y)).run Try.prog W = .ok (.string (strOfNums X1)) W := fun W => by rw [str_add _ _ (by omega), HX1.out]
  have hadd2 : ∀ W, (Op.stringOp .add (strOfNums z) (strOfNums Z)).run Try.prog W = .ok (.string (strOfNums X2)) W := fun W => by rw [str_add _ _ (by omega), HX2.out]
  have kk1 := conv_u8 (cap := c1) M1.out.drew
  have kk2 := conv_u8 (cap := c2) M2.out.drew
  have k0' := conv_u8 (cap := cap) M0.out.drew
  clear ho2 hl1 hl2 HO1 HO2 HO4 HBB1 HBB2 HBB4 HL0 HL2 HB0 HB2
  refine wp_region_noPanic ?_
  refine wp_region_held_drew (S := (fun w' => (convert 22 9 (.slice (some ⟨g1, 0, none⟩) X1.length c1)).run Try.prog w' = .ok (.string (strOfNums X1)) w' ∧ (convert 22 9 (.slice (some ⟨g2, 0, none⟩) X2.length c2)).run Try.prog w' = .ok (.string (strOfNums X2)) w' ∧ (convert 22 9 (.slice A z.length cap)).run Try.prog w' = .ok (.string (strOfNums z)) w')) (by kernel_rfl) ⟨kk1, kk2, k0'⟩ (fun hHeld => ?_)
  refine wpAnyH_ready (rs := [0]) (by kernel_rfl) (by simp) ?_
  refine AllReadyH.cons (o := _) rfl (fun K hK => ?_) AllReadyH.nil
  go_simp
  (go_at_call 8; (with_reducible refine (bawake_any _).mono ?_); rintro e w5 ⟨rfl, hb⟩; have hc := C4.out.trans (hb.mono C4.out.size); have q1 := conv_u8 (cap := c1) (M1.out.below hc); have q2 := conv_u8 (cap := c2) (M2.out.below hc); have q0 := conv_u8 (cap := cap) (M0.out.below hc); have C5 := Lib.hid hc; clear hc hb)
  refine hK.out _ _ ⟨q1, q2, q0⟩ (fun hHeld => ?_)
  clear hK K
  try simp only [List.getElem_toArray, List.getElem_cons_succ, List.getElem_cons_zero, Act.put, List.setIfInBounds_toArray, List.set_cons_zero, List.set_cons_succ]
  refine wpAnyH_take (i := 1) (oi := _) (v := ?_) rfl (by kernel_rfl) (by kernel_rfl) (by kernel_rfl) (fun _ _ _ h => h) (Or.inl ⟨by rfl, ?_⟩) (by assumption) ?_
  rotate_left
  · (intro w hSw; (try dsimp only at hSw); go_simp <;> with_reducible rfl)
  try simp only [List.getElem_toArray, List.getElem_cons_succ, List.getElem_cons_zero, Act.put, List.setIfInBounds_toArray, List.set_cons_zero, List.set_cons_succ]
  refine wpAnyH_take (i := 2) (oi := _) (v := ?_) rfl (by kernel_rfl) (by kernel_rfl) (by kernel_rfl) (fun _ _ _ h => h) (Or.inl ⟨by rfl, ?_⟩) (by assumption) ?_
  rotate_left
  · (intro w hSw; (try dsimp only at hSw); go_simp <;> with_reducible rfl)
  try simp only [List.getElem_toArray, List.getElem_cons_succ, List.getElem_cons_zero, Act.put, List.setIfInBounds_toArray, List.set_cons_zero, List.set_cons_succ]
  refine wpAnyH_take (i := 3) (oi := _) (v := ?_) rfl (by kernel_rfl) (by kernel_rfl) (by kernel_rfl) (fun _ _ _ h => h) (Or.inl ⟨by rfl, ?_⟩) (by assumption) ?_
  rotate_left
  · (intro w hSw; (try dsimp only at hSw); go_simp <;> with_reducible rfl)
  try simp only [List.getElem_toArray, List.getElem_cons_succ, List.getElem_cons_zero, Act.put, List.setIfInBounds_toArray, List.set_cons_zero, List.set_cons_succ]
  refine wpAnyH_take (i := 4) (oi := _) (v := ?_) rfl (by kernel_rfl) (by kernel_rfl) (by kernel_rfl) (fun _ _ _ h => h) (Or.inl ⟨by rfl, ?_⟩) (by assumption) ?_
  rotate_left
  · (intro w hSw; (try dsimp only at hSw); go_simp <;> with_reducible rfl)
  try simp only [List.getElem_toArray, List.getElem_cons_succ, List.getElem_cons_zero, Act.put, List.setIfInBounds_toArray, List.set_cons_zero, List.set_cons_succ]
  refine wpAnyH_take (i := 5) (oi := _) (v := ?_) rfl (by kernel_rfl) (by kernel_rfl) (by kernel_rfl) (fun _ _ _ h => h) (Or.inl ⟨by rfl, ?_⟩) (by assumption) ?_
  rotate_left
  · (intro w hSw; (try dsimp only at hSw); go_simp <;> with_reducible rfl)
  try simp only [List.getElem_toArray, List.getElem_cons_succ, List.getElem_cons_zero, Act.put, List.setIfInBounds_toArray, List.set_cons_zero, List.set_cons_succ]
  refine wpAnyH_take (i := 6) (oi := _) (v := ?_) rfl (by kernel_rfl) (by kernel_rfl) (by kernel_rfl) (fun _ _ _ h => h) (Or.inl ⟨by rfl, ?_⟩) (by assumption) ?_
  rotate_left
  · (intro w hSw; (try dsimp only at hSw); go_simp <;> with_reducible rfl)
  try simp only [List.getElem_toArray, List.getElem_cons_succ, List.getElem_cons_zero, Act.put, List.setIfInBounds_toArray, List.set_cons_zero, List.set_cons_succ]
  refine wpAnyH_ready (rs := [7]) (by kernel_rfl) (by simp) ?_
  refine AllReadyH.cons (o := _) rfl (fun K hK => ?_) AllReadyH.nil
  go_simp
  (go_at_call 11; (with_reducible refine (rbytes_any n (by omega) _).mono ?_); rintro e w6 ⟨v, rfl, ho, hb⟩; rw [HYN.out] at ho; obtain ⟨g6, c6, rfl, _, _, _, _, hl6⟩ := own_bytes ho hYp; have q6 := conv_u8 (cap := c6) hl6; have hc := C5.out.trans (hb.mono C5.out.size); have q1 := conv_u8 (cap := c1) (M1.out.below hc); have q2 := conv_u8 (cap := c2) (M2.out.below hc); have q0 := conv_u8 (cap := cap) (M0.out.below hc); have C6 := Lib.hid hc; clear hc hb ho hl6)
  refine hK.out _ _ ⟨q1, q2, q0⟩ (fun hHeld => ?_)
  clear hK K
  try simp only [List.getElem_toArray, List.getElem_cons_succ, List.getElem_cons_zero, Act.put, List.setIfInBounds_toArray, List.set_cons_zero, List.set_cons_succ]
  refine wpAnyH_ready (rs := [8]) (by kernel_rfl) (by simp) ?_
  refine AllReadyH.cons (o := _) rfl (fun K hK => ?_) AllReadyH.nil
  go_simp
  refine hK.out _ _ ⟨q1, q2, q0⟩ (fun hHeld => ?_)
  clear hK K
  try simp only [List.getElem_toArray, List.getElem_cons_succ, List.getElem_cons_zero, Act.put, List.setIfInBounds_toArray, List.set_cons_zero, List.set_cons_succ]
  refine wpAnyH_take (i := 9) (oi := _) (v := ?_) rfl (by kernel_rfl) (by kernel_rfl) (by kernel_rfl) (fun _ _ _ h => h) (Or.inl ⟨by rfl, ?_⟩) (by assumption) ?_
  rotate_left
  · (intro w hSw; (try dsimp only at hSw); go_simp <;> with_reducible rfl)
  try simp only [List.getElem_toArray, List.getElem_cons_succ, List.getElem_cons_zero, Act.put, List.setIfInBounds_toArray, List.set_cons_zero, List.set_cons_succ]
  refine wpAnyH_take (i := 10) (oi := _) (v := ?_) rfl (by kernel_rfl) (by kernel_rfl) (by kernel_rfl) (fun _ _ _ h => h) (Or.inl ⟨by rfl, ?_⟩) (by assumption) ?_
  rotate_left
  · (intro w hSw; (try dsimp only at hSw); go_simp <;> with_reducible rfl)
  try simp only [List.getElem_toArray, List.getElem_cons_succ, List.getElem_cons_zero, Act.put, List.setIfInBounds_toArray, List.set_cons_zero, List.set_cons_succ]
  refine wpAnyH_take (i := 11) (oi := _) (v := ?_) rfl (by kernel_rfl) (by kernel_rfl) (by kernel_rfl) (fun _ _ _ h => h) (Or.inl ⟨by rfl, ?_⟩) (by assumption) ?_
  rotate_left
  · (intro w hSw; (try dsimp only at hSw); go_simp <;> with_reducible rfl)
  try simp only [List.getElem_toArray, List.getElem_cons_succ, List.getElem_cons_zero, Act.put, List.setIfInBounds_toArray, List.set_cons_zero, List.set_cons_succ]
  refine wpAnyH_take (i := 12) (oi := _) (v := ?_) rfl (by kernel_rfl) (by kernel_rfl) (by kernel_rfl) (fun _ _ _ h => h) (Or.inl ⟨by rfl, ?_⟩) (by assumption) ?_
  rotate_left
  · (intro w hSw; (try dsimp only at hSw); go_simp <;> with_reducible rfl)
  try simp only [List.getElem_toArray, List.getElem_cons_succ, List.getElem_cons_zero, Act.put, List.setIfInBounds_toArray, List.set_cons_zero, List.set_cons_succ]
  refine wpAnyH_take (i := 13) (oi := _) (v := ?_) rfl (by kernel_rfl) (by kernel_rfl) (by kernel_rfl) (fun _ _ _ h => h) (Or.inl ⟨by rfl, ?_⟩) (by assumption) ?_
  rotate_left
  · (intro w hSw; (try dsimp only at hSw); go_simp <;> with_reducible rfl)
  try simp only [List.getElem_toArray, List.getElem_cons_succ, List.getElem_cons_zero, Act.put, List.setIfInBounds_toArray, List.set_cons_zero, List.set_cons_succ]
  refine wpAnyH_take (i := 14) (oi := _) (v := ?_) rfl (by kernel_rfl) (by kernel_rfl) (by kernel_rfl) (fun _ _ _ h => h) (Or.inl ⟨by rfl, ?_⟩) (by assumption) ?_
  rotate_left
  · (intro w hSw; (try dsimp only at hSw); go_simp <;> with_reducible rfl)
  try simp only [List.getElem_toArray, List.getElem_cons_succ, List.getElem_cons_zero, Act.put, List.setIfInBounds_toArray, List.set_cons_zero, List.set_cons_succ]
  refine wpAnyH_take (i := 15) (oi := _) (v := ?_) rfl (by kernel_rfl) (by kernel_rfl) (by kernel_rfl) (fun _ _ _ h => h) (Or.inl ⟨by rfl, ?_⟩) (by assumption) ?_
  rotate_left
  · (intro w hSw; (try dsimp only at hSw); go_simp <;> with_reducible rfl)
  try simp only [List.getElem_toArray, List.getElem_cons_succ, List.getElem_cons_zero, Act.put, List.setIfInBounds_toArray, List.set_cons_zero, List.set_cons_succ]
  refine wpAnyH_take (i := 16) (oi := _) (v := ?_) rfl (by kernel_rfl) (by kernel_rfl) (by kernel_rfl) (fun _ _ _ h => h) (Or.inl ⟨by rfl, ?_⟩) (by assumption) ?_
  rotate_left
  · (intro w hSw; (try dsimp only at hSw); go_simp <;> with_reducible rfl)
  try simp only [List.getElem_toArray, List.getElem_cons_succ, List.getElem_cons_zero, Act.put, List.setIfInBounds_toArray, List.set_cons_zero, List.set_cons_succ]
  refine wpAnyH_take (i := 17) (oi := _) (v := ?_) rfl (by kernel_rfl) (by kernel_rfl) (by kernel_rfl) (fun _ _ _ h => h) (Or.inl ⟨by rfl, ?_⟩) (by assumption) ?_
  rotate_left
  · (intro w hSw; (try dsimp only at hSw); go_simp <;> with_reducible rfl)
  try simp only [List.getElem_toArray, List.getElem_cons_succ, List.getElem_cons_zero, Act.put, List.setIfInBounds_toArray, List.set_cons_zero, List.set_cons_succ]
  refine wpAnyH_ready (rs := [18]) (by kernel_rfl) (by simp) ?_
  refine AllReadyH.cons (o := _) rfl (fun K hK => ?_) AllReadyH.nil
  go_simp
  (go_at_call 12; (with_reducible refine (rsigned_any k k0 k1 _).mono ?_); rintro e w7 ⟨v, rfl, ho, hb⟩; rw [HZN.out] at ho; obtain ⟨g7, c7, rfl, _, _, _, _, hl7⟩ := own_bytes ho hZp; have q7 := conv_u8 (cap := c7) hl7; have hc := C6.out.trans (hb.mono C6.out.size); have q1 := conv_u8 (cap := c1) (M1.out.below hc); have q2 := conv_u8 (cap := c2) (M2.out.below hc); have q0 := conv_u8 (cap := cap) (M0.out.below hc); have C7 := Lib.hid hc; clear hc hb ho hl7)
  refine hK.out _ _ ⟨q1, q2, q0⟩ (fun hHeld => ?_)
  clear hK K
  try simp only [List.getElem_toArray, List.getElem_cons_succ, List.getElem_cons_zero, Act.put, List.setIfInBounds_toArray, List.set_cons_zero, List.set_cons_succ]
  refine wpAnyH_ready (rs := [19]) (by kernel_rfl) (by simp) ?_
  refine AllReadyH.cons (o := _) rfl (fun K hK => ?_) AllReadyH.nil
  go_simp
  refine hK.out _ _ ⟨q1, q2, q0⟩ (fun hHeld => ?_)
  clear hK K
  try simp only [List.getElem_toArray, List.getElem_cons_succ, List.getElem_cons_zero, Act.put, List.setIfInBounds_toArray, List.set_cons_zero, List.set_cons_succ]
  refine wpAnyH_take (i := 20) (oi := _) (v := ?_) rfl (by kernel_rfl) (by kernel_rfl) (by kernel_rfl) (fun _ _ _ h => h) (Or.inl ⟨by rfl, ?_⟩) (by assumption) ?_
  rotate_left
  · (intro w hSw; (try dsimp only at hSw); go_simp <;> with_reducible rfl)
  try simp only [List.getElem_toArray, List.getElem_cons_succ, List.getElem_cons_zero, Act.put, List.setIfInBounds_toArray, List.set_cons_zero, List.set_cons_succ]
  refine wpAnyH_take (i := 21) (oi := _) (v := ?_) rfl (by kernel_rfl) (by kernel_rfl) (by kernel_rfl) (fun _ _ _ h => h) (Or.inl ⟨by rfl, ?_⟩) (by assumption) ?_
  rotate_left
  · (intro w hSw; (try dsimp only at hSw); go_simp <;> with_reducible rfl)
  try simp only [List.getElem_toArray, List.getElem_cons_succ, List.getElem_cons_zero, Act.put, List.setIfInBounds_toArray, List.set_cons_zero, List.set_cons_succ]
  refine wpAnyH_take (i := 22) (oi := _) (v := ?_) rfl (by kernel_rfl) (by kernel_rfl) (by kernel_rfl) (fun _ _ _ h => h) (Or.inl ⟨by rfl, ?_⟩) (by assumption) ?_
  rotate_left
  · (intro w hSw; (try dsimp only at hSw); go_simp <;> with_reducible rfl)
  try simp only [List.getElem_toArray, List.getElem_cons_succ, List.getElem_cons_zero, Act.put, List.setIfInBounds_toArray, List.set_cons_zero, List.set_cons_succ]
  refine wpAnyH_take (i := 23) (oi := _) (v := ?_) rfl (by kernel_rfl) (by kernel_rfl) (by kernel_rfl) (fun _ _ _ h => h) (Or.inl ⟨by rfl, ?_⟩) (by assumption) ?_
  rotate_left
  · (intro w hSw; (try dsimp only at hSw); go_simp <;> with_reducible rfl)
  try simp only [List.getElem_toArray, List.getElem_cons_succ, List.getElem_cons_zero, Act.put, List.setIfInBounds_toArray, List.set_cons_zero, List.set_cons_succ]
  refine wpAnyH_done (by kernel_rfl) ?_ _
  refine NoPanic.normal ?_
  go_wp2
  go_ret
  exact ⟨rfl, HW4.out.trans (C7.out.mono HW4.out.size)⟩

theorem bitsPuts_walk (z : List Int) (A : Option Addr) (cap : Nat) (n k : Int) (w : World) (hl : z.length ≤ cap) (hm : cap ≤ 9223372036854775807)
    (k0 : -2147483648 ≤ k) (k1 : k ≤ 2147483647) (hA : A = none → cap = 0) (hL : Lies w w.heap.size A (z.map (Value.int .u8))) :
    Calls Try.prog 3 #[.slice A z.length cap, .int .i64 n, .int .i32 k] w fun e w' => e = .returned (.bool true) ∧ Below w.heap.size w w' := by
  by_cases h : z.length ≤ 100
  · by_cases hn : n ≤ 1152921504606846976
    · exact bitsPuts_near z A cap n k w hl hm h hn k0 k1 hA hL
    · exact bitsPuts_far z A cap n k w hl hm (.inr ⟨by omega, by omega⟩)
  · exact bitsPuts_far z A cap n k w hl hm (.inl (by omega))
end Go.Proofs.Ytoabaanpfhlloaa
