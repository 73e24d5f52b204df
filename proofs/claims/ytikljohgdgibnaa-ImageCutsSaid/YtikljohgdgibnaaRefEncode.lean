/-
  What the document's own answer for an image's bytes (Encode) comes to: a slice of the call's own that holds them. Condition: the image fits.
-/
import Derived.Test.YtikljohgdgibnaaEncWords
import Derived.Test.YtikljohgdgibnaaRefSigned
namespace Go.Proofs.Ytikljohgdgibnaa
set_option maxRecDepth 100000
open Go.ChangeShapes Go.WideShapes Go.ChangeAt Go.RowKit
set_option linter.unusedVariables false
set_option linter.unusedSimpArgs false


set_option maxRecDepth 100000 in
set_option maxHeartbeats 12800000 in
theorem rencode_any (m : Img) (h : Hnd) (B : Nat) (w : World) (hf : fitsB m = true) (hB : B ≤ w.heap.size) (H : ImgIn w B h m) :
    Calls Try.prog 13 #[imgV h m] w (OwnBytes (encImg m) w) := by
  obtain ⟨i0, hi, hz0, hz1, hz2⟩ := info_parts info_u8
  have HW := Lib.hid ((Below.refl w.heap.size w).alloc (Nat.le_refl _) (imgO h m))
  have HIM := Lib.hid (H.below_to HW.out hB)
  have HBX := Lib.hid (img_box w h m)
  have HB : Hid (B ≤ (w.alloc (imgO h m)).heap.size) := Lib.hid (Nat.le_trans hB HW.out.size)
  have HZ : Hid (w.heap.size < (w.alloc (imgO h m)).heap.size) := Lib.hid (by simp)
  have HFI := Lib.hid (imgFits hf)
  have bc := HFI.out.cl
  have bs := HFI.out.sl
  have bi := HFI.out.il
  have bm := HFI.out.ml
  have be := HFI.out.el
  have hcap0 := HIM.out.classes.le
  have hcap0' := HIM.out.classes.cap
  have hcap2 := HIM.out.ints.le
  have hcap2' := HIM.out.ints.cap
  have hcap3 := HIM.out.methods.le
  have hcap3' := HIM.out.methods.cap
  clear hB H hf
  obtain ⟨q0, q1, q2, q3, q4, q5, q6⟩ := HBX.out
  have HW1 : Hid ((w.alloc (imgO h m)).heap.size = w.heap.size + 1) := Lib.hid (by simp)
  have kc := plim_conv (w.alloc (imgO h m)) (w.heap.size + 1) (by simp)
  have HX : Hid (Below (w.alloc (imgO h m)).heap.size (w.alloc (imgO h m)) ((w.alloc (imgO h m)).alloc plimO')) := Lib.hid ((Below.refl _ _).alloc (Nat.le_refl _) _)
  have hpl : plim.length = 4 := rfl
  have hZ0p := bytesOf_pos (m.classes.length : Int).toNat
  obtain ⟨Z0, hZ0⟩ : ∃ Z, bytesOf (m.classes.length : Int).toNat = Z := ⟨_, rfl⟩
  have lZ0 : Z0.length ≤ 9 := by rw [← hZ0]; exact bytesOf_len9 (by omega)
  have E0 := Lib.hid hZ0
  rw [hZ0] at hZ0p
  clear hZ0
  go_enter Try.func13, Try.ntmps13
  go_wp2_with (first | (go_at_call 33; (with_reducible refine (rbytes_any (m.classes.length : Int) (by omega) _).mono ?_); rintro e w5 ⟨v5, rfl, ho5, hb⟩; rw [E0.out] at ho5; obtain ⟨g5, c5, rfl, hL5⟩ := own_some ho5 hZ0p; have HL5 := Lib.hid (lies_addr hL5); have HX := Lib.hid (HX.out.trans (hb.mono HX.out.size)); have HPL : Hid (∀ j u, (plim.map (Value.int .u8))[j]? = some u → w5.cell? ((⟨w.heap.size + 1, 0, none⟩ : Addr).add j) = some u) := Lib.hid (by rw [← HW1.out]; exact fun j u hj => (hb.cell (p := (⟨(w.alloc (imgO h m)).heap.size, 0, none⟩ : Addr).add j) (by rw [addr_add_block]; simp)).trans (plim_cells (w.alloc (imgO h m)) j u hj)); obtain ⟨q0, q1, q2, q3, q4, q5, q6⟩ := HBX.out.keep HX.out HZ.out; clear ho5 hb hL5) | (at_builtin; refine wpList_append_grows _ rfl _ _ 31 rfl 5 i0 (.int .u8 0) 1 1 Try.underlying31 hi hz0 hz1 hz2 rfl (by decide) (some ⟨w.heap.size + 1, 0, none⟩) 4 4 (plim.map (Value.int .u8)) rfl (fun h => by cases h) rfl (fun b hb => by injection hb with hb; subst hb; exact HPL.out) ⟨g5, 0, none⟩ _ c5 (Z0.map (Value.int .u8)) rfl (by simp) HL5.out (u8_one _) (by omega) (by unfold maxLen; omega) (by omega) ?_; intro v6 w6 hown hgrow; have HO : Hid (w6.ownsRow (w.alloc (imgO h m)).heap.size 5 1 v6 (plim ++ Z0).length ((plim ++ Z0).map (Value.int .u8))) := Lib.hid (by have h := own_lower hown HX.out.size; simpa [hpl] using h); have HX := Lib.hid (HX.out.grown hgrow HX.out.size (fun k hk => by cases hk)); obtain ⟨q0, q1, q2, q3, q4, q5, q6⟩ := HBX.out.keep HX.out HZ.out; clear hown hgrow))
  go_loopw [3, 4] (fun v i wr => ∃ k : Nat, k ≤ m.classes.length ∧ i = .int .i64 k ∧ Hid (wr.ownsRow (w.alloc (imgO h m)).heap.size 5 1 v (plim ++ Z0 ++ (m.classes.take k).flatMap encC).length ((plim ++ Z0 ++ (m.classes.take k).flatMap encC).map (Value.int .u8))) ∧ Hid (Below (w.alloc (imgO h m)).heap.size (w.alloc (imgO h m)) wr)) (fun _ i _ => m.classes.length - (intOf i).toNat)
  case atStart => exact ⟨0, by omega, rfl, by simpa using HO, HX⟩
  case round =>
    clear HX HO q0 q1 q2 q3 q4 q5 q6
    obtain ⟨k, hk, rfl, HO, HX⟩ := hrel
    obtain ⟨q0, q1, q2, q3, q4, q5, q6⟩ := HBX.out.keep HX.out HZ.out
    by_cases hlt : k < m.classes.length
    · obtain ⟨ad, e0, hab, hc⟩ := HIM.out.classes.row.at_ hlt
      have HF := Lib.hid (HFI.out.ct _ (List.getElem_mem hlt))
      have T1 := Lib.hid (flat_take encC hlt)
      generalize m.classes[k] = c at *
      have EA := Lib.hid e0
      rw [EA.out] at q0
      clear e0
      obtain ⟨s0, ⟨A1, k1, s1, hs1⟩, ⟨A2, k2, s2, hs2⟩⟩ := hc
      have HSf := Lib.hid hs1
      have HSs := Lib.hid hs2
      have HP : Hid ((ad.add (k * 3)).block < (w.alloc (imgO h m)).heap.size) := Lib.hid (by rw [addr_add_block]; exact Nat.lt_of_lt_of_le hab HB.out)
      have HCL : Hid (At3 (w.alloc (imgO h m)) (ad.add (k * 3)) (.int .i64 c.sup) (.slice A1 c.fields.length k1) (.slice A2 c.slots.length k2)) := Lib.hid ⟨s0, s1, s2⟩
      clear s0 s1 s2 hs1 hs2 hab
      obtain ⟨s0, s1, s2⟩ := HCL.out.keep HX.out HP.out
      have f0 := HF.out.sup0
      have f1 := HF.out.sup1
      have f2 := HF.out.fl
      have f3 := HF.out.sl
      obtain ⟨Z1, hZ1⟩ : ∃ Z, bytesOf (c.sup + 1).toNat = Z := ⟨_, rfl⟩
      have lZ1 : Z1.length ≤ 9 := by rw [← hZ1]; exact bytesOf_len9 (by omega)
      have E1 := Lib.hid hZ1
      clear hZ1
      obtain ⟨Z2, hZ2⟩ : ∃ Z, encTs c.fields = Z := ⟨_, rfl⟩
      have lZ2 : Z2.length ≤ 200 := by rw [← hZ2]; have := encTs_len (l := c.fields) (fun t ht => by have := HF.out.ft t ht; omega) (by omega); omega
      have E2 := Lib.hid hZ2
      clear hZ2
      obtain ⟨Z3, hZ3⟩ : ∃ Z, encNs c.slots = Z := ⟨_, rfl⟩
      have lZ3 : Z3.length ≤ 200 := by rw [← hZ3]; have := encNs_len (l := c.slots) (fun t ht => by have := HF.out.st t ht; omega) (by omega); omega
      have E3 := Lib.hid hZ3
      clear hZ3
      have EC := Lib.hid (show encC c = Z1 ++ (Z2 ++ Z3) by unfold encC; rw [E1.out, E2.out, E3.out])
      have lK : ((m.classes.take k).flatMap encC).length ≤ 2000 := by
        have := flat_len (f := encC) (c := 250) (m.classes.take k) fun c hc => encC_len (HFI.out.ct c (List.mem_of_mem_take hc))
        rw [List.length_take] at this
        omega
      generalize hT : (m.classes.take k).flatMap encC = T at *
      go_wp2_with (first | (go_at_call 33; (with_reducible refine (rbytes_any (c.sup + 1) (by omega) _).mono ?_); rintro e w5 ⟨v5, rfl, ho5, hb⟩; rw [E1.out] at ho5; obtain ⟨A5, c5, rfl, hL5, hA5⟩ := own_slice_nil ho5; have HL5 := Lib.hid hL5; have HA5 := Lib.hid hA5; clear ho5 hL5 hA5; have HO := Lib.hid (own_below HO.out hb (own_block_lt HO.out)); have HX := Lib.hid (HX.out.trans (hb.mono HX.out.size)); obtain ⟨q0, q1, q2, q3, q4, q5, q6⟩ := HBX.out.keep HX.out HZ.out; rw [EA.out] at q0; obtain ⟨s0, s1, s2⟩ := HCL.out.keep HX.out HP.out; clear hb) | (go_at_call 34; (with_reducible refine (rseveral_any c.fields A1 k1 B _ (by omega) (fun t ht => by have := HF.out.ft t ht; omega) (Nat.le_trans HB.out HX.out.size) (HSf.out.below_to TyAt.keeps HX.out HB.out)).mono ?_); rintro e w5 ⟨v5, rfl, ho5, hb⟩; rw [E2.out] at ho5; obtain ⟨A5, c5, rfl, hL5, hA5⟩ := own_slice_nil ho5; have HL5 := Lib.hid hL5; have HA5 := Lib.hid hA5; clear ho5 hL5 hA5; have HO := Lib.hid (own_below HO.out hb (own_block_lt HO.out)); have HX := Lib.hid (HX.out.trans (hb.mono HX.out.size)); obtain ⟨q0, q1, q2, q3, q4, q5, q6⟩ := HBX.out.keep HX.out HZ.out; rw [EA.out] at q0; obtain ⟨s0, s1, s2⟩ := HCL.out.keep HX.out HP.out; clear hb) | (go_at_call 35; (with_reducible refine (rnumbers_any c.slots A2 k2 B _ (by omega) (fun t ht => by have := HF.out.st t ht; omega) (Nat.le_trans HB.out HX.out.size) (HSs.out.below_to IntAt.keeps HX.out HB.out)).mono ?_); rintro e w5 ⟨v5, rfl, ho5, hb⟩; rw [E3.out] at ho5; obtain ⟨A5, c5, rfl, hL5, hA5⟩ := own_slice_nil ho5; have HL5 := Lib.hid hL5; have HA5 := Lib.hid hA5; clear ho5 hL5 hA5; have HO := Lib.hid (own_below HO.out hb (own_block_lt HO.out)); have HX := Lib.hid (HX.out.trans (hb.mono HX.out.size)); obtain ⟨q0, q1, q2, q3, q4, q5, q6⟩ := HBX.out.keep HX.out HZ.out; rw [EA.out] at q0; obtain ⟨s0, s1, s2⟩ := HCL.out.keep HX.out HP.out; clear hb) | (at_builtin; refine append_lies rfl _ _ 31 rfl (w.alloc (imgO h m)).heap.size 5 i0 (.int .u8 0) 1 Try.underlying31 hi hz0 hz1 hz2 rfl _ _ _ rfl HO.out A5 _ c5 _ (Z1.map (Value.int .u8)) (by simp) rfl HA5.out HL5.out (u8_one _) (by (try simp only [List.length_append]); unfold maxLen; omega) (by (try simp only [List.length_append]); omega) HX.out.size ?_; intro v6 w6 hown hgrow; obtain ⟨ho6, hb6⟩ := app_more HX.out HO.out HX.out.size hown hgrow; rw [← List.length_append] at ho6; have HO := Lib.hid ho6; have HX := Lib.hid hb6; obtain ⟨q0, q1, q2, q3, q4, q5, q6⟩ := HBX.out.keep HX.out HZ.out; rw [EA.out] at q0; obtain ⟨s0, s1, s2⟩ := HCL.out.keep HX.out HP.out; clear hown hgrow ho6 hb6) | (at_builtin; refine append_lies rfl _ _ 31 rfl (w.alloc (imgO h m)).heap.size 5 i0 (.int .u8 0) 1 Try.underlying31 hi hz0 hz1 hz2 rfl _ _ _ rfl HO.out A5 _ c5 _ (Z2.map (Value.int .u8)) (by simp) rfl HA5.out HL5.out (u8_one _) (by (try simp only [List.length_append]); unfold maxLen; omega) (by (try simp only [List.length_append]); omega) HX.out.size ?_; intro v6 w6 hown hgrow; obtain ⟨ho6, hb6⟩ := app_more HX.out HO.out HX.out.size hown hgrow; rw [← List.length_append] at ho6; have HO := Lib.hid ho6; have HX := Lib.hid hb6; obtain ⟨q0, q1, q2, q3, q4, q5, q6⟩ := HBX.out.keep HX.out HZ.out; rw [EA.out] at q0; obtain ⟨s0, s1, s2⟩ := HCL.out.keep HX.out HP.out; clear hown hgrow ho6 hb6) | (at_builtin; refine append_lies rfl _ _ 31 rfl (w.alloc (imgO h m)).heap.size 5 i0 (.int .u8 0) 1 Try.underlying31 hi hz0 hz1 hz2 rfl _ _ _ rfl HO.out A5 _ c5 _ (Z3.map (Value.int .u8)) (by simp) rfl HA5.out HL5.out (u8_one _) (by (try simp only [List.length_append]); unfold maxLen; omega) (by (try simp only [List.length_append]); omega) HX.out.size ?_; intro v6 w6 hown hgrow; obtain ⟨ho6, hb6⟩ := app_more HX.out HO.out HX.out.size hown hgrow; rw [← List.length_append] at ho6; have HO := Lib.hid ho6; have HX := Lib.hid hb6; obtain ⟨q0, q1, q2, q3, q4, q5, q6⟩ := HBX.out.keep HX.out HZ.out; rw [EA.out] at q0; obtain ⟨s0, s1, s2⟩ := HCL.out.keep HX.out HP.out; clear hown hgrow ho6 hb6))
      go_roundw
      case rel => exact ⟨k + 1, by omega, by go_num, by rw [T1.out, EC.out]; simpa only [List.append_assoc] using HO, HX⟩
      case measure => simp [intOf]; omega

    · have lC : (m.classes.flatMap encC).length ≤ 2000 := by
        have := flat_len (f := encC) (c := 250) m.classes fun c hc => encC_len (HFI.out.ct c hc)
        omega
      rw [List.take_of_length_le (show m.classes.length ≤ k by omega)] at HO
      obtain ⟨X, hX⟩ : ∃ X, plim ++ Z0 ++ m.classes.flatMap encC = X := ⟨_, rfl⟩
      have lX : X.length ≤ 2100 := by rw [← hX]; simp only [List.length_append]; omega
      have lXp : 4 ≤ X.length := by rw [← hX]; simp only [List.length_append]; omega
      rw [hX] at HO
      have HXE := Lib.hid hX
      clear hX lC
      have HSt := Lib.hid HIM.out.statics
      have lensL : ∀ n ∈ m.ints, (encL n).length ≤ 9 := fun n hn => by
        obtain ⟨i, hi⟩ := List.getElem?_of_mem hn
        obtain ⟨_, _, _, _, b0, b1⟩ := HIM.out.ints.row i n hi
        exact bytesOf_len9 (by have := zig_hi b0 b1; omega)
      obtain ⟨Z4, hZ4⟩ : ∃ Z, encTs m.statics = Z := ⟨_, rfl⟩
      have lZ4 : Z4.length ≤ 200 := by rw [← hZ4]; have := encTs_len (l := m.statics) (fun t ht => by have := HFI.out.st t ht; omega) (by omega); omega
      have E4 := Lib.hid hZ4
      clear hZ4
      obtain ⟨Z5, hZ5⟩ : ∃ Z, bytesOf (m.ints.length : Int).toNat = Z := ⟨_, rfl⟩
      have lZ5 : Z5.length ≤ 9 := by rw [← hZ5]; exact bytesOf_len9 (by omega)
      have E5 := Lib.hid hZ5
      clear hZ5
      go_wp2_with (first | (go_at_call 34; (with_reducible refine (rseveral_any m.statics h.A1 h.c1 B _ (by omega) (fun t ht => by have := HFI.out.st t ht; omega) (Nat.le_trans HB.out HX.out.size) (HSt.out.below_to TyAt.keeps HX.out HB.out)).mono ?_); rintro e w5 ⟨v5, rfl, ho5, hb⟩; rw [E4.out] at ho5; obtain ⟨A5, c5, rfl, hL5, hA5⟩ := own_slice_nil ho5; have HL5 := Lib.hid hL5; have HA5 := Lib.hid hA5; clear ho5 hL5 hA5; have HO := Lib.hid (own_below HO.out hb (own_block_lt HO.out)); have HX := Lib.hid (HX.out.trans (hb.mono HX.out.size)); obtain ⟨q0, q1, q2, q3, q4, q5, q6⟩ := HBX.out.keep HX.out HZ.out; clear hb) | (go_at_call 33; (with_reducible refine (rbytes_any (m.ints.length : Int) (by omega) _).mono ?_); rintro e w5 ⟨v5, rfl, ho5, hb⟩; rw [E5.out] at ho5; obtain ⟨A5, c5, rfl, hL5, hA5⟩ := own_slice_nil ho5; have HL5 := Lib.hid hL5; have HA5 := Lib.hid hA5; clear ho5 hL5 hA5; have HO := Lib.hid (own_below HO.out hb (own_block_lt HO.out)); have HX := Lib.hid (HX.out.trans (hb.mono HX.out.size)); obtain ⟨q0, q1, q2, q3, q4, q5, q6⟩ := HBX.out.keep HX.out HZ.out; clear hb) | (at_builtin; refine append_lies rfl _ _ 31 rfl (w.alloc (imgO h m)).heap.size 5 i0 (.int .u8 0) 1 Try.underlying31 hi hz0 hz1 hz2 rfl _ _ _ rfl HO.out A5 _ c5 _ (Z4.map (Value.int .u8)) (by simp) rfl HA5.out HL5.out (u8_one _) (by (try simp only [List.length_append]); unfold maxLen; omega) (by (try simp only [List.length_append]); omega) HX.out.size ?_; intro v6 w6 hown hgrow; obtain ⟨ho6, hb6⟩ := app_more HX.out HO.out HX.out.size hown hgrow; rw [← List.length_append] at ho6; have HO := Lib.hid ho6; have HX := Lib.hid hb6; obtain ⟨q0, q1, q2, q3, q4, q5, q6⟩ := HBX.out.keep HX.out HZ.out; clear hown hgrow ho6 hb6) | (at_builtin; refine append_lies rfl _ _ 31 rfl (w.alloc (imgO h m)).heap.size 5 i0 (.int .u8 0) 1 Try.underlying31 hi hz0 hz1 hz2 rfl _ _ _ rfl HO.out A5 _ c5 _ (Z5.map (Value.int .u8)) (by simp) rfl HA5.out HL5.out (u8_one _) (by (try simp only [List.length_append]); unfold maxLen; omega) (by (try simp only [List.length_append]); omega) HX.out.size ?_; intro v6 w6 hown hgrow; obtain ⟨ho6, hb6⟩ := app_more HX.out HO.out HX.out.size hown hgrow; rw [← List.length_append] at ho6; have HO := Lib.hid ho6; have HX := Lib.hid hb6; obtain ⟨q0, q1, q2, q3, q4, q5, q6⟩ := HBX.out.keep HX.out HZ.out; clear hown hgrow ho6 hb6))
      go_loopw [3, 5] (fun v i wr => ∃ k : Nat, k ≤ m.ints.length ∧ i = .int .i64 k ∧ Hid (wr.ownsRow (w.alloc (imgO h m)).heap.size 5 1 v (X ++ Z4 ++ Z5 ++ (m.ints.take k).flatMap encL).length ((X ++ Z4 ++ Z5 ++ (m.ints.take k).flatMap encL).map (Value.int .u8))) ∧ Hid (Below (w.alloc (imgO h m)).heap.size (w.alloc (imgO h m)) wr)) (fun _ i _ => m.ints.length - (intOf i).toNat)
      case atStart => exact ⟨0, by omega, rfl, by simpa using HO, HX⟩
      case round =>
        clear HX HO q0 q1 q2 q3 q4 q5 q6 hlt hk
        obtain ⟨k, hk, rfl, HO, HX⟩ := hrel
        obtain ⟨q0, q1, q2, q3, q4, q5, q6⟩ := HBX.out.keep HX.out HZ.out
        by_cases hlt : k < m.ints.length
        · obtain ⟨ad, e0, hab, hc, n0, n1⟩ := HIM.out.ints.row.at_ hlt
          have T1 := Lib.hid (flat_take encL hlt)
          generalize m.ints[k] = n at *
          have EA := Lib.hid e0
          rw [EA.out] at q2
          rw [Nat.mul_one] at hc
          clear e0
          have HS0 : Hid ((w.alloc (imgO h m)).cell? (ad.add k) = some (.int .i32 n)) := Lib.hid hc
          have HP : Hid ((ad.add k).block < (w.alloc (imgO h m)).heap.size) := Lib.hid (by rw [addr_add_block]; exact Nat.lt_of_lt_of_le hab HB.out)
          clear hc hab
          have s0 := (HX.out.cell HP.out).trans HS0.out
          obtain ⟨Z1, hZ1⟩ : ∃ Z, bytesOf (zig n).toNat = Z := ⟨_, rfl⟩
          have lZ1 : Z1.length ≤ 9 := by rw [← hZ1]; exact bytesOf_len9 (by have := zig_hi n0 n1; omega)
          have E1 := Lib.hid hZ1
          clear hZ1
          have lK : ((m.ints.take k).flatMap encL).length ≤ 150 := by
            have := flat_len (f := encL) (c := 9) (m.ints.take k) fun n hn => lensL n (List.mem_of_mem_take hn)
            rw [List.length_take] at this
            omega
          have EC : Hid (encL n = Z1) := Lib.hid E1.out
          generalize hT : (m.ints.take k).flatMap encL = T at *
          go_wp2_with (first | (go_at_call 36; (with_reducible refine (rsigned_any n n0 n1 _).mono ?_); rintro e w5 ⟨v5, rfl, ho5, hb⟩; rw [E1.out] at ho5; obtain ⟨A5, c5, rfl, hL5, hA5⟩ := own_slice_nil ho5; have HL5 := Lib.hid hL5; have HA5 := Lib.hid hA5; clear ho5 hL5 hA5; have HO := Lib.hid (own_below HO.out hb (own_block_lt HO.out)); have HX := Lib.hid (HX.out.trans (hb.mono HX.out.size)); obtain ⟨q0, q1, q2, q3, q4, q5, q6⟩ := HBX.out.keep HX.out HZ.out; rw [EA.out] at q2; have s0 := (HX.out.cell HP.out).trans HS0.out; clear hb) | (at_builtin; refine append_lies rfl _ _ 31 rfl (w.alloc (imgO h m)).heap.size 5 i0 (.int .u8 0) 1 Try.underlying31 hi hz0 hz1 hz2 rfl _ _ _ rfl HO.out A5 _ c5 _ (Z1.map (Value.int .u8)) (by simp) rfl HA5.out HL5.out (u8_one _) (by (try simp only [List.length_append]); unfold maxLen; omega) (by (try simp only [List.length_append]); omega) HX.out.size ?_; intro v6 w6 hown hgrow; obtain ⟨ho6, hb6⟩ := app_more HX.out HO.out HX.out.size hown hgrow; rw [← List.length_append] at ho6; have HO := Lib.hid ho6; have HX := Lib.hid hb6; obtain ⟨q0, q1, q2, q3, q4, q5, q6⟩ := HBX.out.keep HX.out HZ.out; rw [EA.out] at q2; have s0 := (HX.out.cell HP.out).trans HS0.out; clear hown hgrow ho6 hb6))
          go_roundw
          case rel => exact ⟨k + 1, by omega, by go_num, by rw [T1.out, EC.out]; simpa only [List.append_assoc] using HO, HX⟩
          case measure => simp [intOf]; omega

        · have lI : (m.ints.flatMap encL).length ≤ 150 := by
            have := flat_len (f := encL) (c := 9) m.ints lensL
            omega
          rw [List.take_of_length_le (show m.ints.length ≤ k by omega)] at HO
          obtain ⟨Z9, hZ9⟩ : ∃ Z, bytesOf (m.methods.length : Int).toNat = Z := ⟨_, rfl⟩
          have lZ9 : Z9.length ≤ 9 := by rw [← hZ9]; exact bytesOf_len9 (by omega)
          have E9 := Lib.hid hZ9
          clear hZ9
          generalize hTI : m.ints.flatMap encL = TI at *
          go_wp2_with (first | (go_at_call 33; (with_reducible refine (rbytes_any (m.methods.length : Int) (by omega) _).mono ?_); rintro e w5 ⟨v5, rfl, ho5, hb⟩; rw [E9.out] at ho5; obtain ⟨A5, c5, rfl, hL5, hA5⟩ := own_slice_nil ho5; have HL5 := Lib.hid hL5; have HA5 := Lib.hid hA5; clear ho5 hL5 hA5; have HO := Lib.hid (own_below HO.out hb (own_block_lt HO.out)); have HX := Lib.hid (HX.out.trans (hb.mono HX.out.size)); obtain ⟨q0, q1, q2, q3, q4, q5, q6⟩ := HBX.out.keep HX.out HZ.out; clear hb) | (at_builtin; refine append_lies rfl _ _ 31 rfl (w.alloc (imgO h m)).heap.size 5 i0 (.int .u8 0) 1 Try.underlying31 hi hz0 hz1 hz2 rfl _ _ _ rfl HO.out A5 _ c5 _ (Z9.map (Value.int .u8)) (by simp) rfl HA5.out HL5.out (u8_one _) (by (try simp only [List.length_append]); unfold maxLen; omega) (by (try simp only [List.length_append]); omega) HX.out.size ?_; intro v6 w6 hown hgrow; obtain ⟨ho6, hb6⟩ := app_more HX.out HO.out HX.out.size hown hgrow; rw [← List.length_append] at ho6; have HO := Lib.hid ho6; have HX := Lib.hid hb6; obtain ⟨q0, q1, q2, q3, q4, q5, q6⟩ := HBX.out.keep HX.out HZ.out; clear hown hgrow ho6 hb6))
          obtain ⟨Y, hY⟩ : ∃ Y, X ++ Z4 ++ Z5 ++ TI ++ Z9 = Y := ⟨_, rfl⟩
          have lY : Y.length ≤ 3000 := by rw [← hY]; simp only [List.length_append]; omega
          have lYp : 4 ≤ Y.length := by rw [← hY]; simp only [List.length_append]; omega
          rw [hY] at HO
          rw [← hTI] at hY
          have HYE := Lib.hid hY
          clear hY hTI lI
          go_loopw [3, 6] (fun v i wr => ∃ k : Nat, k ≤ m.methods.length ∧ i = .int .i64 k ∧ Hid (wr.ownsRow (w.alloc (imgO h m)).heap.size 5 1 v (Y ++ (m.methods.take k).flatMap encM).length ((Y ++ (m.methods.take k).flatMap encM).map (Value.int .u8))) ∧ Hid (Below (w.alloc (imgO h m)).heap.size (w.alloc (imgO h m)) wr)) (fun _ i _ => m.methods.length - (intOf i).toNat)
          case atStart => exact ⟨0, by omega, rfl, by simpa using HO, HX⟩
          case round =>
            clear HX HO q0 q1 q2 q3 q4 q5 q6 hlt hk
            obtain ⟨k, hk, rfl, HO, HX⟩ := hrel
            obtain ⟨q0, q1, q2, q3, q4, q5, q6⟩ := HBX.out.keep HX.out HZ.out
            by_cases hlt : k < m.methods.length
            · obtain ⟨ad, e0, hab, hc⟩ := HIM.out.methods.row.at_ hlt
              have HF := Lib.hid (HFI.out.mt _ (List.getElem_mem hlt))
              have T1 := Lib.hid (flat_take encM hlt)
              generalize m.methods[k] = x at *
              rw [e0] at q3
              clear e0
              obtain ⟨⟨A0, k0, s0, hs0⟩, ⟨A1, k1, s1, hs1⟩, s2, s3, ⟨A4, k4, s4, hs4⟩, s5, s6, ⟨A7, k7, s7, hs7⟩⟩ := hc
              have hP : (ad.add (k * 8)).block < (w.alloc (imgO h m)).heap.size := by rw [addr_add_block]; exact Nat.lt_of_lt_of_le hab HB.out
              have s0 := (HX.out.cell hP).trans s0
              have s1 := (HX.out.cell (p := off_ (ad.add (k * 8)) 1) hP).trans s1
              have s2 := (HX.out.cell (p := off_ (ad.add (k * 8)) 2) hP).trans s2
              have s3 := (HX.out.cell (p := off_ (ad.add (k * 8)) 3) hP).trans s3
              have s4 := (HX.out.cell (p := off_ (ad.add (k * 8)) 4) hP).trans s4
              have s5 := (HX.out.cell (p := off_ (ad.add (k * 8)) 5) hP).trans s5
              have s6 := (HX.out.cell (p := off_ (ad.add (k * 8)) 6) hP).trans s6
              have s7 := (HX.out.cell (p := off_ (ad.add (k * 8)) 7) hP).trans s7
              have HSa := Lib.hid hs0
              have HSl := Lib.hid hs1
              have HSc := Lib.hid hs4
              have HSp := Lib.hid hs7
              have f0 := HF.out.al
              have f1 := HF.out.ll
              have f2 := HF.out.cl
              have f3 := HF.out.pl
              have f4 := HF.out.d1
              have f5 := HF.out.p1
              have f6 := HF.out.rt
              have hcc := hs4.le
              have hcc' := hs4.cap
              clear hs0 hs1 hs4 hs7 hab
              have E1p : 0 < (encTs x.args).length := by unfold encTs; rw [List.length_append]; have := bytesOf_pos x.args.length; omega
              obtain ⟨Z1, hZ1⟩ : ∃ Z, encTs x.args = Z := ⟨_, rfl⟩
              have lZ1 : Z1.length ≤ 200 := by rw [← hZ1]; have := encTs_len (l := x.args) (fun t ht => by have := HF.out.at_ t ht; omega) (by omega); omega
              have E1 := Lib.hid hZ1
              rw [hZ1] at E1p
              clear hZ1
              have E2p : 0 < (encTs x.locals).length := by unfold encTs; rw [List.length_append]; have := bytesOf_pos x.locals.length; omega
              obtain ⟨Z2, hZ2⟩ : ∃ Z, encTs x.locals = Z := ⟨_, rfl⟩
              have lZ2 : Z2.length ≤ 200 := by rw [← hZ2]; have := encTs_len (l := x.locals) (fun t ht => by have := HF.out.lt t ht; omega) (by omega); omega
              have E2 := Lib.hid hZ2
              rw [hZ2] at E2p
              clear hZ2
              have E3p : 0 < (encT x.ret).length := by unfold encT; split; (rw [List.length_append]; have := bytesOf_pos 3; omega); exact bytesOf_pos _
              obtain ⟨Z3, hZ3⟩ : ∃ Z, encT x.ret = Z := ⟨_, rfl⟩
              have lZ3 : Z3.length ≤ 18 := by rw [← hZ3]; exact encT_len (by omega) (by omega)
              have E3 := Lib.hid hZ3
              rw [hZ3] at E3p
              clear hZ3
              have E4cp : 0 < (bytesOf (x.code.length : Int).toNat).length := by exact bytesOf_pos _
              obtain ⟨Z4c, hZ4c⟩ : ∃ Z, bytesOf (x.code.length : Int).toNat = Z := ⟨_, rfl⟩
              have lZ4c : Z4c.length ≤ 9 := by rw [← hZ4c]; exact bytesOf_len9 (by omega)
              have E4c := Lib.hid hZ4c
              rw [hZ4c] at E4cp
              clear hZ4c
              have E6p : 0 < (bytesOf x.depth.toNat).length := by exact bytesOf_pos _
              obtain ⟨Z6, hZ6⟩ : ∃ Z, bytesOf x.depth.toNat = Z := ⟨_, rfl⟩
              have lZ6 : Z6.length ≤ 9 := by rw [← hZ6]; exact bytesOf_len9 (by omega)
              have E6 := Lib.hid hZ6
              rw [hZ6] at E6p
              clear hZ6
              have E7p : 0 < (bytesOf x.pot.toNat).length := by exact bytesOf_pos _
              obtain ⟨Z7, hZ7⟩ : ∃ Z, bytesOf x.pot.toNat = Z := ⟨_, rfl⟩
              have lZ7 : Z7.length ≤ 9 := by rw [← hZ7]; exact bytesOf_len9 (by omega)
              have E7 := Lib.hid hZ7
              rw [hZ7] at E7p
              clear hZ7
              have E8p : 0 < (encNs x.phi).length := by unfold encNs; rw [List.length_append]; have := bytesOf_pos x.phi.length; omega
              obtain ⟨Z8, hZ8⟩ : ∃ Z, encNs x.phi = Z := ⟨_, rfl⟩
              have lZ8 : Z8.length ≤ 700 := by rw [← hZ8]; have := encNs_len (l := x.phi) (fun t ht => by have := HF.out.pt t ht; omega) (by omega); omega
              have E8 := Lib.hid hZ8
              rw [hZ8] at E8p
              clear hZ8
              have EM : Hid (encM x = Z1 ++ (Z2 ++ (Z3 ++ (Z4c ++ (x.code.flatMap encI1 ++ (Z6 ++ (Z7 ++ Z8))))))) := Lib.hid (by unfold encM; rw [E1.out, E2.out, E3.out, ← E4c.out, E6.out, E7.out, E8.out, Int.toNat_natCast])
              have lK : ((m.methods.take k).flatMap encM).length ≤ 18000 := by
                have := flat_len (f := encM) (c := 1500) (m.methods.take k) fun x hx => encM_len (HFI.out.mt x (List.mem_of_mem_take hx))
                rw [List.length_take] at this
                omega
              generalize hT : (m.methods.take k).flatMap encM = T at *
              obtain ⟨P0, hP0⟩ : ∃ P, Y ++ T = P := ⟨_, rfl⟩
              have lP0 : P0.length ≤ 21000 ∧ 4 ≤ P0.length := by rw [← hP0]; simp only [List.length_append]; omega
              rw [hP0] at HO
              have HP0 := Lib.hid hP0
              clear hP0
              obtain ⟨g, cg, rfl, _, _, _, hgl, _⟩ := own_bytes HO.out (by omega)
              have HG : Hid (¬ g = wr.heap.size) := Lib.hid (by omega)
              have hA : Below wr.heap.size wr (wr.alloc (.cells #[.slice A0 x.args.length k0, .slice A1 x.locals.length k1, .int .i64 x.ret.1, .int .i64 x.ret.2, .slice A4 x.code.length k4, .int .i64 x.depth, .int .i64 x.pot, .slice A7 x.phi.length k7] 45)) := (Below.refl _ _).alloc (Nat.le_refl _) _
              have HO := Lib.hid (own_below HO.out hA (own_block_lt HO.out))
              have HX := Lib.hid (HX.out.trans (hA.mono HX.out.size))
              have HBW := Lib.hid (cells_new wr [.slice A0 x.args.length k0, .slice A1 x.locals.length k1, .int .i64 x.ret.1, .int .i64 x.ret.2, .slice A4 x.code.length k4, .int .i64 x.depth, .int .i64 x.pot, .slice A7 x.phi.length k7] 45)
              have HN2 : Hid (wr.heap.size < (wr.alloc (.cells #[.slice A0 x.args.length k0, .slice A1 x.locals.length k1, .int .i64 x.ret.1, .int .i64 x.ret.2, .slice A4 x.code.length k4, .int .i64 x.depth, .int .i64 x.pot, .slice A7 x.phi.length k7] 45)).heap.size) := Lib.hid (by simp)
              clear hA hgl hP
              go_upto_region 19 with fail
              generalize wr.alloc (.cells #[.slice A0 x.args.length k0, .slice A1 x.locals.length k1, .int .i64 x.ret.1, .int .i64 x.ret.2, .slice A4 x.code.length k4, .int .i64 x.depth, .int .i64 x.pot, .slice A7 x.phi.length k7] 45) = w2 at *
              generalize wr.heap.size = N at *
              clear s0 s1 s2 s3 s4 s5 s6 s7
              have HO : Hid (w2.drew.ownsRow (w.alloc (imgO h m)).heap.size 5 1 (.slice (some ⟨g, 0, none⟩) (P0.length) cg) (P0.length) ((P0).map (Value.int .u8))) := HO
              have HX : Hid (Below (w.alloc (imgO h m)).heap.size (w.alloc (imgO h m)) w2.drew) := Lib.hid HX.out.drew
              have HBW : Hid (Cells w2.drew N [.slice A0 x.args.length k0, .slice A1 x.locals.length k1, .int .i64 x.ret.1, .int .i64 x.ret.2, .slice A4 x.code.length k4, .int .i64 x.depth, .int .i64 x.pot, .slice A7 x.phi.length k7]) := HBW
              have HN2 : Hid (N < w2.drew.heap.size) := HN2
              have r0 := HBW.out 0 _ rfl
              have r1 := HBW.out 1 _ rfl
              have r2 := HBW.out 2 _ rfl
              have r3 := HBW.out 3 _ rfl
              have r4 := HBW.out 4 _ rfl
              have r5 := HBW.out 5 _ rfl
              have r6 := HBW.out 6 _ rfl
              have r7 := HBW.out 7 _ rfl
              refine wp_region_noPanic ?_
              refine wp_region_held_drew (S := (fun w' => w'.cell? ⟨N, 0, none⟩ = some (.slice A0 x.args.length k0) ∧ w'.cell? ⟨N, 1, none⟩ = some (.slice A1 x.locals.length k1) ∧ w'.cell? ⟨N, 2, none⟩ = some (.int .i64 x.ret.1) ∧ w'.cell? ⟨N, 3, none⟩ = some (.int .i64 x.ret.2) ∧ w'.cell? ⟨N, 4, none⟩ = some (.slice A4 x.code.length k4) ∧ w'.cell? ⟨N, 5, none⟩ = some (.int .i64 x.depth) ∧ w'.cell? ⟨N, 6, none⟩ = some (.int .i64 x.pot) ∧ w'.cell? ⟨N, 7, none⟩ = some (.slice A7 x.phi.length k7))) (by kernel_rfl) ⟨r0, r1, r2, r3, r4, r5, r6, r7⟩ (fun hHeld => ?_)
              refine wpAnyH_take (i := 0) (oi := _) (v := ?_) rfl (by kernel_rfl) (by kernel_rfl) (by kernel_rfl) (fun _ _ _ h => h) (Or.inl ⟨by rfl, ?_⟩) (by assumption) ?_
              rotate_left
              · (intro w hSw; (try dsimp only at hSw); go_simp <;> with_reducible rfl)
              try simp only [List.getElem_toArray, List.getElem_cons_succ, List.getElem_cons_zero, Act.put, List.setIfInBounds_toArray, List.set_cons_zero, List.set_cons_succ]
              refine wpAnyH_take (i := 1) (oi := _) (v := ?_) rfl (by kernel_rfl) (by kernel_rfl) (by kernel_rfl) (fun _ _ _ h => h) (Or.inl ⟨by rfl, ?_⟩) (by assumption) ?_
              rotate_left
              · (intro w hSw; (try dsimp only at hSw); go_simp <;> with_reducible rfl)
              try simp only [List.getElem_toArray, List.getElem_cons_succ, List.getElem_cons_zero, Act.put, List.setIfInBounds_toArray, List.set_cons_zero, List.set_cons_succ]
              refine wpAnyH_take (i := 2) (oi := _) (v := ?_) rfl (by kernel_rfl) (by kernel_rfl) (by kernel_rfl) (fun _ _ _ h => h) (Or.inl ⟨by rfl, ?_⟩) (by assumption) ?_
              rotate_left
              · (intro w hSw; (try dsimp only at hSw); go_simp <;> with_reducible rfl)
              try simp only [List.getElem_toArray, List.getElem_cons_succ, List.getElem_cons_zero, Act.put, List.setIfInBounds_toArray, List.set_cons_zero, List.set_cons_succ]
              refine wpAnyH_take (i := 5) (oi := _) (v := ?_) rfl (by kernel_rfl) (by kernel_rfl) (by kernel_rfl) (fun _ _ _ h => h) (Or.inl ⟨by rfl, ?_⟩) (by assumption) ?_
              rotate_left
              · (intro w hSw; (try dsimp only at hSw); go_simp <;> with_reducible rfl)
              try simp only [List.getElem_toArray, List.getElem_cons_succ, List.getElem_cons_zero, Act.put, List.setIfInBounds_toArray, List.set_cons_zero, List.set_cons_succ]
              refine wpAnyH_take (i := 6) (oi := _) (v := ?_) rfl (by kernel_rfl) (by kernel_rfl) (by kernel_rfl) (fun _ _ _ h => h) (Or.inl ⟨by rfl, ?_⟩) (by assumption) ?_
              rotate_left
              · (intro w hSw; (try dsimp only at hSw); go_simp <;> with_reducible rfl)
              try simp only [List.getElem_toArray, List.getElem_cons_succ, List.getElem_cons_zero, Act.put, List.setIfInBounds_toArray, List.set_cons_zero, List.set_cons_succ]
              refine wpAnyH_take (i := 9) (oi := _) (v := ?_) rfl (by kernel_rfl) (by kernel_rfl) (by kernel_rfl) (fun _ _ _ h => h) (Or.inl ⟨by rfl, ?_⟩) (by assumption) ?_
              rotate_left
              · (intro w hSw; (try dsimp only at hSw); go_simp <;> with_reducible rfl)
              try simp only [List.getElem_toArray, List.getElem_cons_succ, List.getElem_cons_zero, Act.put, List.setIfInBounds_toArray, List.set_cons_zero, List.set_cons_succ]
              refine wpAnyH_take (i := 10) (oi := _) (v := ?_) rfl (by kernel_rfl) (by kernel_rfl) (by kernel_rfl) (fun _ _ _ h => h) (Or.inl ⟨by rfl, ?_⟩) (by assumption) ?_
              rotate_left
              · (intro w hSw; (try dsimp only at hSw); go_simp <;> with_reducible rfl)
              try simp only [List.getElem_toArray, List.getElem_cons_succ, List.getElem_cons_zero, Act.put, List.setIfInBounds_toArray, List.set_cons_zero, List.set_cons_succ]
              refine wpAnyH_ready (rs := [3]) (by kernel_rfl) (by simp) ?_
              refine AllReadyH.cons (o := _) rfl (fun K hK => ?_) AllReadyH.nil
              go_simp
              (go_at_call 34; (with_reducible refine (rseveral_any x.args A0 k0 B _ (by omega) (fun t ht => by have := HF.out.at_ t ht; omega) (Nat.le_trans HB.out HX.out.size) (HSa.out.below_to TyAt.keeps HX.out HB.out)).mono ?_); rintro e w5 ⟨v5, rfl, ho5, hb⟩; rw [E1.out] at ho5; obtain ⟨g5, c5, rfl, hL5⟩ := own_some ho5 E1p; have HL5 := Lib.hid (lies_addr hL5); clear ho5 hL5; have HO := Lib.hid (own_below HO.out hb (own_block_lt HO.out)); have HX := Lib.hid (HX.out.trans (hb.mono HX.out.size)); have HBW := Lib.hid (HBW.out.keep hb HN2.out); have HN2 := Lib.hid (Nat.lt_of_lt_of_le HN2.out hb.size); have r0 := HBW.out 0 _ rfl; have r1 := HBW.out 1 _ rfl; have r2 := HBW.out 2 _ rfl; have r3 := HBW.out 3 _ rfl; have r4 := HBW.out 4 _ rfl; have r5 := HBW.out 5 _ rfl; have r6 := HBW.out 6 _ rfl; have r7 := HBW.out 7 _ rfl; clear hb)
              refine hK.out _ _ ⟨r0, r1, r2, r3, r4, r5, r6, r7⟩ (fun hHeld => ?_)
              clear hK K
              try simp only [List.getElem_toArray, List.getElem_cons_succ, List.getElem_cons_zero, Act.put, List.setIfInBounds_toArray, List.set_cons_zero, List.set_cons_succ]
              refine wpAnyH_ready (rs := [4]) (by kernel_rfl) (by simp) ?_
              refine AllReadyH.cons (o := _) rfl (fun K hK => ?_) AllReadyH.nil
              (refine step_append_lies _ rfl _ _ 31 rfl (w.alloc (imgO h m)).heap.size 5 i0 (.int .u8 0) 1 1 Try.underlying31 hi hz0 hz1 hz2 rfl (by decide) _ _ _ rfl HO.out ⟨g5, 0, none⟩ _ c5 (Z1.map (Value.int .u8)) rfl (by simp) HL5.out (u8_one _) (by omega) (by (try simp only [List.length_append]); unfold maxLen; omega) (by (try simp only [List.length_append]); omega) HX.out.size _ rfl ?_; intro g6 c6 w6 hown hgrow hor hlt6; obtain ⟨ho6, hb6⟩ := app_more HX.out HO.out HX.out.size hown hgrow; have HBW := Lib.hid (HBW.out.grown hgrow HN2.out HG.out); have HG := Lib.hid (far_of hor HG.out HN2.out); have HN2 := Lib.hid (Nat.lt_of_lt_of_le HN2.out hgrow.size); have HO := Lib.hid ho6; have HX := Lib.hid hb6; have r0 := HBW.out 0 _ rfl; have r1 := HBW.out 1 _ rfl; have r2 := HBW.out 2 _ rfl; have r3 := HBW.out 3 _ rfl; have r4 := HBW.out 4 _ rfl; have r5 := HBW.out 5 _ rfl; have r6 := HBW.out 6 _ rfl; have r7 := HBW.out 7 _ rfl; clear hown hgrow hor hlt6 ho6 hb6)
              refine hK.out _ _ ⟨r0, r1, r2, r3, r4, r5, r6, r7⟩ (fun hHeld => ?_)
              clear hK K
              try simp only [List.getElem_toArray, List.getElem_cons_succ, List.getElem_cons_zero, Act.put, List.setIfInBounds_toArray, List.set_cons_zero, List.set_cons_succ]
              refine wpAnyH_ready (rs := [7]) (by kernel_rfl) (by simp) ?_
              refine AllReadyH.cons (o := _) rfl (fun K hK => ?_) AllReadyH.nil
              go_simp
              (go_at_call 34; (with_reducible refine (rseveral_any x.locals A1 k1 B _ (by omega) (fun t ht => by have := HF.out.lt t ht; omega) (Nat.le_trans HB.out HX.out.size) (HSl.out.below_to TyAt.keeps HX.out HB.out)).mono ?_); rintro e w5 ⟨v5, rfl, ho5, hb⟩; rw [E2.out] at ho5; obtain ⟨g5, c5, rfl, hL5⟩ := own_some ho5 E2p; have HL5 := Lib.hid (lies_addr hL5); clear ho5 hL5; have HO := Lib.hid (own_below HO.out hb (own_block_lt HO.out)); have HX := Lib.hid (HX.out.trans (hb.mono HX.out.size)); have HBW := Lib.hid (HBW.out.keep hb HN2.out); have HN2 := Lib.hid (Nat.lt_of_lt_of_le HN2.out hb.size); have r0 := HBW.out 0 _ rfl; have r1 := HBW.out 1 _ rfl; have r2 := HBW.out 2 _ rfl; have r3 := HBW.out 3 _ rfl; have r4 := HBW.out 4 _ rfl; have r5 := HBW.out 5 _ rfl; have r6 := HBW.out 6 _ rfl; have r7 := HBW.out 7 _ rfl; clear hb)
              refine hK.out _ _ ⟨r0, r1, r2, r3, r4, r5, r6, r7⟩ (fun hHeld => ?_)
              clear hK K
              try simp only [List.getElem_toArray, List.getElem_cons_succ, List.getElem_cons_zero, Act.put, List.setIfInBounds_toArray, List.set_cons_zero, List.set_cons_succ]
              refine wpAnyH_ready (rs := [8]) (by kernel_rfl) (by simp) ?_
              refine AllReadyH.cons (o := _) rfl (fun K hK => ?_) AllReadyH.nil
              (refine step_append_lies _ rfl _ _ 31 rfl (w.alloc (imgO h m)).heap.size 5 i0 (.int .u8 0) 1 1 Try.underlying31 hi hz0 hz1 hz2 rfl (by decide) _ _ _ rfl HO.out ⟨g5, 0, none⟩ _ c5 (Z2.map (Value.int .u8)) rfl (by simp) HL5.out (u8_one _) (by omega) (by (try simp only [List.length_append]); unfold maxLen; omega) (by (try simp only [List.length_append]); omega) HX.out.size _ rfl ?_; intro g6 c6 w6 hown hgrow hor hlt6; obtain ⟨ho6, hb6⟩ := app_more HX.out HO.out HX.out.size hown hgrow; have HBW := Lib.hid (HBW.out.grown hgrow HN2.out HG.out); have HG := Lib.hid (far_of hor HG.out HN2.out); have HN2 := Lib.hid (Nat.lt_of_lt_of_le HN2.out hgrow.size); have HO := Lib.hid ho6; have HX := Lib.hid hb6; have r0 := HBW.out 0 _ rfl; have r1 := HBW.out 1 _ rfl; have r2 := HBW.out 2 _ rfl; have r3 := HBW.out 3 _ rfl; have r4 := HBW.out 4 _ rfl; have r5 := HBW.out 5 _ rfl; have r6 := HBW.out 6 _ rfl; have r7 := HBW.out 7 _ rfl; clear hown hgrow hor hlt6 ho6 hb6)
              refine hK.out _ _ ⟨r0, r1, r2, r3, r4, r5, r6, r7⟩ (fun hHeld => ?_)
              clear hK K
              try simp only [List.getElem_toArray, List.getElem_cons_succ, List.getElem_cons_zero, Act.put, List.setIfInBounds_toArray, List.set_cons_zero, List.set_cons_succ]
              refine wpAnyH_ready (rs := [11]) (by kernel_rfl) (by simp) ?_
              refine AllReadyH.cons (o := _) rfl (fun K hK => ?_) AllReadyH.nil
              go_simp
              (go_at_call 37; (with_reducible refine (rone_any x.ret (by have := HF.out.rt; omega) (by have := HF.out.rt; omega) _).mono ?_); rintro e w5 ⟨v5, rfl, ho5, hb⟩; rw [E3.out] at ho5; obtain ⟨g5, c5, rfl, hL5⟩ := own_some ho5 E3p; have HL5 := Lib.hid (lies_addr hL5); clear ho5 hL5; have HO := Lib.hid (own_below HO.out hb (own_block_lt HO.out)); have HX := Lib.hid (HX.out.trans (hb.mono HX.out.size)); have HBW := Lib.hid (HBW.out.keep hb HN2.out); have HN2 := Lib.hid (Nat.lt_of_lt_of_le HN2.out hb.size); have r0 := HBW.out 0 _ rfl; have r1 := HBW.out 1 _ rfl; have r2 := HBW.out 2 _ rfl; have r3 := HBW.out 3 _ rfl; have r4 := HBW.out 4 _ rfl; have r5 := HBW.out 5 _ rfl; have r6 := HBW.out 6 _ rfl; have r7 := HBW.out 7 _ rfl; clear hb)
              refine hK.out _ _ ⟨r0, r1, r2, r3, r4, r5, r6, r7⟩ (fun hHeld => ?_)
              clear hK K
              try simp only [List.getElem_toArray, List.getElem_cons_succ, List.getElem_cons_zero, Act.put, List.setIfInBounds_toArray, List.set_cons_zero, List.set_cons_succ]
              refine wpAnyH_ready (rs := [12]) (by kernel_rfl) (by simp) ?_
              refine AllReadyH.cons (o := _) rfl (fun K hK => ?_) AllReadyH.nil
              (refine step_append_lies _ rfl _ _ 31 rfl (w.alloc (imgO h m)).heap.size 5 i0 (.int .u8 0) 1 1 Try.underlying31 hi hz0 hz1 hz2 rfl (by decide) _ _ _ rfl HO.out ⟨g5, 0, none⟩ _ c5 (Z3.map (Value.int .u8)) rfl (by simp) HL5.out (u8_one _) (by omega) (by (try simp only [List.length_append]); unfold maxLen; omega) (by (try simp only [List.length_append]); omega) HX.out.size _ rfl ?_; intro g6 c6 w6 hown hgrow hor hlt6; obtain ⟨ho6, hb6⟩ := app_more HX.out HO.out HX.out.size hown hgrow; have HBW := Lib.hid (HBW.out.grown hgrow HN2.out HG.out); have HG := Lib.hid (far_of hor HG.out HN2.out); have HN2 := Lib.hid (Nat.lt_of_lt_of_le HN2.out hgrow.size); have HO := Lib.hid ho6; have HX := Lib.hid hb6; have r0 := HBW.out 0 _ rfl; have r1 := HBW.out 1 _ rfl; have r2 := HBW.out 2 _ rfl; have r3 := HBW.out 3 _ rfl; have r4 := HBW.out 4 _ rfl; have r5 := HBW.out 5 _ rfl; have r6 := HBW.out 6 _ rfl; have r7 := HBW.out 7 _ rfl; clear hown hgrow hor hlt6 ho6 hb6)
              refine hK.out _ _ ⟨r0, r1, r2, r3, r4, r5, r6, r7⟩ (fun hHeld => ?_)
              clear hK K
              try simp only [List.getElem_toArray, List.getElem_cons_succ, List.getElem_cons_zero, Act.put, List.setIfInBounds_toArray, List.set_cons_zero, List.set_cons_succ]
              refine wpAnyH_take (i := 13) (oi := _) (v := ?_) rfl (by kernel_rfl) (by kernel_rfl) (by kernel_rfl) (fun _ _ _ h => h) (Or.inl ⟨by rfl, ?_⟩) (by assumption) ?_
              rotate_left
              · (intro w hSw; (try dsimp only at hSw); go_simp <;> with_reducible rfl)
              try simp only [List.getElem_toArray, List.getElem_cons_succ, List.getElem_cons_zero, Act.put, List.setIfInBounds_toArray, List.set_cons_zero, List.set_cons_succ]
              refine wpAnyH_done (by kernel_rfl) ?_ _
              refine NoPanic.normal ?_
              go_wp2_with (first | (go_at_call 33; (with_reducible refine (rbytes_any (x.code.length : Int) (by omega) _).mono ?_); rintro e w5 ⟨v5, rfl, ho5, hb⟩; rw [E4c.out] at ho5; obtain ⟨g5, c5, rfl, hL5⟩ := own_some ho5 E4cp; have HL5 := Lib.hid (lies_addr hL5); clear ho5 hL5; have HO := Lib.hid (own_below HO.out hb (own_block_lt HO.out)); have HX := Lib.hid (HX.out.trans (hb.mono HX.out.size)); have HBW := Lib.hid (HBW.out.keep hb HN2.out); have HN2 := Lib.hid (Nat.lt_of_lt_of_le HN2.out hb.size); have r0 := HBW.out 0 _ rfl; have r1 := HBW.out 1 _ rfl; have r2 := HBW.out 2 _ rfl; have r3 := HBW.out 3 _ rfl; have r4 := HBW.out 4 _ rfl; have r5 := HBW.out 5 _ rfl; have r6 := HBW.out 6 _ rfl; have r7 := HBW.out 7 _ rfl; clear hb) | (at_builtin; refine wpList_append_lies _ rfl _ _ 31 rfl (w.alloc (imgO h m)).heap.size 5 i0 (.int .u8 0) 1 1 Try.underlying31 hi hz0 hz1 hz2 rfl (by decide) _ _ _ rfl HO.out ⟨g5, 0, none⟩ _ c5 (Z4c.map (Value.int .u8)) rfl (by simp) HL5.out (u8_one _) (by omega) (by (try simp only [List.length_append]); unfold maxLen; omega) (by (try simp only [List.length_append]); omega) HX.out.size _ rfl ?_; intro g6 c6 w6 hown hgrow hor hlt6; obtain ⟨ho6, hb6⟩ := app_more HX.out HO.out HX.out.size hown hgrow; have HBW := Lib.hid (HBW.out.grown hgrow HN2.out HG.out); have HG := Lib.hid (far_of hor HG.out HN2.out); have HN2 := Lib.hid (Nat.lt_of_lt_of_le HN2.out hgrow.size); have HO := Lib.hid ho6; have HX := Lib.hid hb6; have r0 := HBW.out 0 _ rfl; have r1 := HBW.out 1 _ rfl; have r2 := HBW.out 2 _ rfl; have r3 := HBW.out 3 _ rfl; have r4 := HBW.out 4 _ rfl; have r5 := HBW.out 5 _ rfl; have r6 := HBW.out 6 _ rfl; have r7 := HBW.out 7 _ rfl; clear hown hgrow hor hlt6 ho6 hb6))
              obtain ⟨P, hPP⟩ : ∃ P, P0 ++ Z1 ++ Z2 ++ Z3 ++ Z4c = P := ⟨_, rfl⟩
              have lP : P.length ≤ 22000 := by rw [← hPP]; simp only [List.length_append]; omega
              rw [hPP] at HO
              have HPP := Lib.hid hPP
              clear hPP
              go_loopw [3, 8] (fun v i wz => ∃ (j n g cg : Nat), j ≤ x.code.length ∧ i = .int .i64 j ∧ v = .slice (some ⟨g, 0, none⟩) n cg ∧ ¬ g = N ∧ N < wz.heap.size ∧ Hid (wz.ownsRow (w.alloc (imgO h m)).heap.size 5 1 (.slice (some ⟨g, 0, none⟩) n cg) n ((P ++ (x.code.take j).flatMap encI1).map (Value.int .u8))) ∧ Hid (Below (w.alloc (imgO h m)).heap.size (w.alloc (imgO h m)) wz) ∧ Hid (Cells wz N [.slice A0 x.args.length k0, .slice A1 x.locals.length k1, .int .i64 x.ret.1, .int .i64 x.ret.2, .slice A4 x.code.length k4, .int .i64 x.depth, .int .i64 x.pot, .slice A7 x.phi.length k7])) (fun _ i _ => x.code.length - (intOf i).toNat)
              case atStart => exact ⟨0, _, _, _, by omega, rfl, rfl, HG.out, HN2.out, by simpa using HO, HX, HBW⟩
              case round =>
                clear HX HO HG HN2 HBW r0 r1 r2 r3 r4 r5 r6 r7
                obtain ⟨j, n, g, cg, hj, rfl, rfl, hg, hn2, HO, HX, HBW⟩ := hrel
                have lJ : ((x.code.take j).flatMap encI1).length ≤ 320 := by
                  have := flat_len (f := encI1) (c := 5) (x.code.take j) fun i hi => encI1_len (HF.out.ct i (List.mem_of_mem_take hi))
                  rw [List.length_take] at this
                  omega
                have hnl : n ≤ 23000 := by rw [own_n HO.out, List.length_append]; omega
                have HG := Lib.hid hg
                have HN2 := Lib.hid hn2
                have r0 := HBW.out 0 _ rfl
                have r1 := HBW.out 1 _ rfl
                have r2 := HBW.out 2 _ rfl
                have r3 := HBW.out 3 _ rfl
                have r4 := HBW.out 4 _ rfl
                have r5 := HBW.out 5 _ rfl
                have r6 := HBW.out 6 _ rfl
                have r7 := HBW.out 7 _ rfl
                by_cases hltj : j < x.code.length
                · obtain ⟨ad4, rfl, hab4, t0, t1, t2⟩ := HSc.out.row.at_ hltj
                  have HFj := Lib.hid (HF.out.ct _ (List.getElem_mem hltj))
                  have TJ := Lib.hid (flat_take encI1 hltj)
                  generalize x.code[j] = ins at *
                  obtain ⟨op, a, b⟩ := ins
                  have HP4 : Hid ((ad4.add (j * 3)).block < (w.alloc (imgO h m)).heap.size) := Lib.hid (by rw [addr_add_block]; exact Nat.lt_of_lt_of_le hab4 HB.out)
                  have HCI : Hid (At3 (w.alloc (imgO h m)) (ad4.add (j * 3)) (.int .i64 op) (.int .i64 a) (.int .i64 b)) := Lib.hid ⟨t0, t1, t2⟩
                  clear t0 t1 t2 hab4
                  obtain ⟨t0, t1, t2⟩ := HCI.out.keep HX.out HP4.out
                  have HFj2 : instrB op a b = true := HFj.out
                  obtain ⟨ib0, ib1, ib2, ib3, ib4, ib5⟩ := instr_bounds HFj2
                  obtain ⟨nn, hnn⟩ : ∃ nn, argsI op = nn := ⟨_, rfl⟩
                  have hn02 : 0 ≤ nn ∧ nn ≤ 2 := by
                    rw [← hnn]
                    exact ⟨(instr_iff.mp HFj2).1, (args_range op).2⟩
                  have HNn := Lib.hid hnn
                  clear hnn
                  have F0p : 0 < (bytesOf op.toNat).length := by exact bytesOf_pos _
                  obtain ⟨V0, hV0⟩ : ∃ Z, bytesOf op.toNat = Z := ⟨_, rfl⟩
                  have lV0 : V0.length ≤ 9 := by rw [← hV0]; exact bytesOf_len9 (by omega)
                  have F0 := Lib.hid hV0
                  rw [hV0] at F0p
                  clear hV0
                  have F1p : 0 < (bytesOf a.toNat).length := by exact bytesOf_pos _
                  obtain ⟨V1, hV1⟩ : ∃ Z, bytesOf a.toNat = Z := ⟨_, rfl⟩
                  have lV1 : V1.length ≤ 9 := by rw [← hV1]; exact bytesOf_len9 (by omega)
                  have F1 := Lib.hid hV1
                  rw [hV1] at F1p
                  clear hV1
                  have F2p : 0 < (bytesOf b.toNat).length := by exact bytesOf_pos _
                  obtain ⟨V2, hV2⟩ : ∃ Z, bytesOf b.toNat = Z := ⟨_, rfl⟩
                  have lV2 : V2.length ≤ 9 := by rw [← hV2]; exact bytesOf_len9 (by omega)
                  have F2 := Lib.hid hV2
                  rw [hV2] at F2p
                  clear hV2
                  generalize hTJ : (x.code.take j).flatMap encI1 = TT at *
                  have hcs : nn = 0 ∨ nn = 1 ∨ nn = 2 := by omega
                  rcases hcs with rfl | rfl | rfl
                  · have EC := Lib.hid (show encI1 (op, a, b) = V0 by unfold encI1 putI; dsimp only; rw [F0.out, F1.out, F2.out, HNn.out]; simp)
                    go_wp2_with (first | (go_at_call 38; (with_reducible refine (rargs_any op _).mono ?_); rintro e w5 ⟨rfl, hb⟩; rw [HNn.out]; have HO := Lib.hid (own_below HO.out hb (own_block_lt HO.out)); have HX := Lib.hid (HX.out.trans (hb.mono HX.out.size)); have HBW := Lib.hid (HBW.out.keep hb HN2.out); have HN2 := Lib.hid (Nat.lt_of_lt_of_le HN2.out hb.size); have r0 := HBW.out 0 _ rfl; have r1 := HBW.out 1 _ rfl; have r2 := HBW.out 2 _ rfl; have r3 := HBW.out 3 _ rfl; have r4 := HBW.out 4 _ rfl; have r5 := HBW.out 5 _ rfl; have r6 := HBW.out 6 _ rfl; have r7 := HBW.out 7 _ rfl; obtain ⟨t0, t1, t2⟩ := HCI.out.keep HX.out HP4.out; clear hb) | (go_at_call 33; (with_reducible refine (rbytes_any op (by omega) _).mono ?_); rintro e w5 ⟨v5, rfl, ho5, hb⟩; rw [F0.out] at ho5; obtain ⟨g5, c5, rfl, hL5⟩ := own_some ho5 F0p; have HL5 := Lib.hid (lies_addr hL5); clear ho5 hL5; have HO := Lib.hid (own_below HO.out hb (own_block_lt HO.out)); have HX := Lib.hid (HX.out.trans (hb.mono HX.out.size)); have HBW := Lib.hid (HBW.out.keep hb HN2.out); have HN2 := Lib.hid (Nat.lt_of_lt_of_le HN2.out hb.size); have r0 := HBW.out 0 _ rfl; have r1 := HBW.out 1 _ rfl; have r2 := HBW.out 2 _ rfl; have r3 := HBW.out 3 _ rfl; have r4 := HBW.out 4 _ rfl; have r5 := HBW.out 5 _ rfl; have r6 := HBW.out 6 _ rfl; have r7 := HBW.out 7 _ rfl; obtain ⟨t0, t1, t2⟩ := HCI.out.keep HX.out HP4.out; clear hb) | (go_at_call 33; (with_reducible refine (rbytes_any a (by omega) _).mono ?_); rintro e w5 ⟨v5, rfl, ho5, hb⟩; rw [F1.out] at ho5; obtain ⟨g5, c5, rfl, hL5⟩ := own_some ho5 F1p; have HL5 := Lib.hid (lies_addr hL5); clear ho5 hL5; have HO := Lib.hid (own_below HO.out hb (own_block_lt HO.out)); have HX := Lib.hid (HX.out.trans (hb.mono HX.out.size)); have HBW := Lib.hid (HBW.out.keep hb HN2.out); have HN2 := Lib.hid (Nat.lt_of_lt_of_le HN2.out hb.size); have r0 := HBW.out 0 _ rfl; have r1 := HBW.out 1 _ rfl; have r2 := HBW.out 2 _ rfl; have r3 := HBW.out 3 _ rfl; have r4 := HBW.out 4 _ rfl; have r5 := HBW.out 5 _ rfl; have r6 := HBW.out 6 _ rfl; have r7 := HBW.out 7 _ rfl; obtain ⟨t0, t1, t2⟩ := HCI.out.keep HX.out HP4.out; clear hb) | (go_at_call 33; (with_reducible refine (rbytes_any b (by omega) _).mono ?_); rintro e w5 ⟨v5, rfl, ho5, hb⟩; rw [F2.out] at ho5; obtain ⟨g5, c5, rfl, hL5⟩ := own_some ho5 F2p; have HL5 := Lib.hid (lies_addr hL5); clear ho5 hL5; have HO := Lib.hid (own_below HO.out hb (own_block_lt HO.out)); have HX := Lib.hid (HX.out.trans (hb.mono HX.out.size)); have HBW := Lib.hid (HBW.out.keep hb HN2.out); have HN2 := Lib.hid (Nat.lt_of_lt_of_le HN2.out hb.size); have r0 := HBW.out 0 _ rfl; have r1 := HBW.out 1 _ rfl; have r2 := HBW.out 2 _ rfl; have r3 := HBW.out 3 _ rfl; have r4 := HBW.out 4 _ rfl; have r5 := HBW.out 5 _ rfl; have r6 := HBW.out 6 _ rfl; have r7 := HBW.out 7 _ rfl; obtain ⟨t0, t1, t2⟩ := HCI.out.keep HX.out HP4.out; clear hb) | (at_builtin; refine wpList_append_lies _ rfl _ _ 31 rfl (w.alloc (imgO h m)).heap.size 5 i0 (.int .u8 0) 1 1 Try.underlying31 hi hz0 hz1 hz2 rfl (by decide) _ _ _ rfl HO.out ⟨g5, 0, none⟩ _ c5 (V0.map (Value.int .u8)) rfl (by simp) HL5.out (u8_one _) (by omega) (by (try simp only [List.length_append]); unfold maxLen; omega) (by (try simp only [List.length_append]); omega) HX.out.size _ rfl ?_; intro g6 c6 w6 hown hgrow hor hlt6; obtain ⟨ho6, hb6⟩ := app_more HX.out HO.out HX.out.size hown hgrow; have HBW := Lib.hid (HBW.out.grown hgrow HN2.out HG.out); have HG := Lib.hid (far_of hor HG.out HN2.out); have HN2 := Lib.hid (Nat.lt_of_lt_of_le HN2.out hgrow.size); have HO := Lib.hid ho6; have HX := Lib.hid hb6; have r0 := HBW.out 0 _ rfl; have r1 := HBW.out 1 _ rfl; have r2 := HBW.out 2 _ rfl; have r3 := HBW.out 3 _ rfl; have r4 := HBW.out 4 _ rfl; have r5 := HBW.out 5 _ rfl; have r6 := HBW.out 6 _ rfl; have r7 := HBW.out 7 _ rfl; obtain ⟨t0, t1, t2⟩ := HCI.out.keep HX.out HP4.out; clear hown hgrow hor hlt6 ho6 hb6) | (at_builtin; refine wpList_append_lies _ rfl _ _ 31 rfl (w.alloc (imgO h m)).heap.size 5 i0 (.int .u8 0) 1 1 Try.underlying31 hi hz0 hz1 hz2 rfl (by decide) _ _ _ rfl HO.out ⟨g5, 0, none⟩ _ c5 (V1.map (Value.int .u8)) rfl (by simp) HL5.out (u8_one _) (by omega) (by (try simp only [List.length_append]); unfold maxLen; omega) (by (try simp only [List.length_append]); omega) HX.out.size _ rfl ?_; intro g6 c6 w6 hown hgrow hor hlt6; obtain ⟨ho6, hb6⟩ := app_more HX.out HO.out HX.out.size hown hgrow; have HBW := Lib.hid (HBW.out.grown hgrow HN2.out HG.out); have HG := Lib.hid (far_of hor HG.out HN2.out); have HN2 := Lib.hid (Nat.lt_of_lt_of_le HN2.out hgrow.size); have HO := Lib.hid ho6; have HX := Lib.hid hb6; have r0 := HBW.out 0 _ rfl; have r1 := HBW.out 1 _ rfl; have r2 := HBW.out 2 _ rfl; have r3 := HBW.out 3 _ rfl; have r4 := HBW.out 4 _ rfl; have r5 := HBW.out 5 _ rfl; have r6 := HBW.out 6 _ rfl; have r7 := HBW.out 7 _ rfl; obtain ⟨t0, t1, t2⟩ := HCI.out.keep HX.out HP4.out; clear hown hgrow hor hlt6 ho6 hb6) | (at_builtin; refine wpList_append_lies _ rfl _ _ 31 rfl (w.alloc (imgO h m)).heap.size 5 i0 (.int .u8 0) 1 1 Try.underlying31 hi hz0 hz1 hz2 rfl (by decide) _ _ _ rfl HO.out ⟨g5, 0, none⟩ _ c5 (V2.map (Value.int .u8)) rfl (by simp) HL5.out (u8_one _) (by omega) (by (try simp only [List.length_append]); unfold maxLen; omega) (by (try simp only [List.length_append]); omega) HX.out.size _ rfl ?_; intro g6 c6 w6 hown hgrow hor hlt6; obtain ⟨ho6, hb6⟩ := app_more HX.out HO.out HX.out.size hown hgrow; have HBW := Lib.hid (HBW.out.grown hgrow HN2.out HG.out); have HG := Lib.hid (far_of hor HG.out HN2.out); have HN2 := Lib.hid (Nat.lt_of_lt_of_le HN2.out hgrow.size); have HO := Lib.hid ho6; have HX := Lib.hid hb6; have r0 := HBW.out 0 _ rfl; have r1 := HBW.out 1 _ rfl; have r2 := HBW.out 2 _ rfl; have r3 := HBW.out 3 _ rfl; have r4 := HBW.out 4 _ rfl; have r5 := HBW.out 5 _ rfl; have r6 := HBW.out 6 _ rfl; have r7 := HBW.out 7 _ rfl; obtain ⟨t0, t1, t2⟩ := HCI.out.keep HX.out HP4.out; clear hown hgrow hor hlt6 ho6 hb6))
                    go_roundw
                    case rel => exact ⟨j + 1, _, _, _, by omega, by go_num, rfl, HG.out, HN2.out, by rw [TJ.out, EC.out]; simpa only [List.append_assoc] using HO, HX, HBW⟩
                    case measure => simp [intOf]; omega
                  · have EC := Lib.hid (show encI1 (op, a, b) = V0 ++ V1 by unfold encI1 putI; dsimp only; rw [F0.out, F1.out, F2.out, HNn.out]; simp)
                    go_wp2_with (first | (go_at_call 38; (with_reducible refine (rargs_any op _).mono ?_); rintro e w5 ⟨rfl, hb⟩; rw [HNn.out]; have HO := Lib.hid (own_below HO.out hb (own_block_lt HO.out)); have HX := Lib.hid (HX.out.trans (hb.mono HX.out.size)); have HBW := Lib.hid (HBW.out.keep hb HN2.out); have HN2 := Lib.hid (Nat.lt_of_lt_of_le HN2.out hb.size); have r0 := HBW.out 0 _ rfl; have r1 := HBW.out 1 _ rfl; have r2 := HBW.out 2 _ rfl; have r3 := HBW.out 3 _ rfl; have r4 := HBW.out 4 _ rfl; have r5 := HBW.out 5 _ rfl; have r6 := HBW.out 6 _ rfl; have r7 := HBW.out 7 _ rfl; obtain ⟨t0, t1, t2⟩ := HCI.out.keep HX.out HP4.out; clear hb) | (go_at_call 33; (with_reducible refine (rbytes_any op (by omega) _).mono ?_); rintro e w5 ⟨v5, rfl, ho5, hb⟩; rw [F0.out] at ho5; obtain ⟨g5, c5, rfl, hL5⟩ := own_some ho5 F0p; have HL5 := Lib.hid (lies_addr hL5); clear ho5 hL5; have HO := Lib.hid (own_below HO.out hb (own_block_lt HO.out)); have HX := Lib.hid (HX.out.trans (hb.mono HX.out.size)); have HBW := Lib.hid (HBW.out.keep hb HN2.out); have HN2 := Lib.hid (Nat.lt_of_lt_of_le HN2.out hb.size); have r0 := HBW.out 0 _ rfl; have r1 := HBW.out 1 _ rfl; have r2 := HBW.out 2 _ rfl; have r3 := HBW.out 3 _ rfl; have r4 := HBW.out 4 _ rfl; have r5 := HBW.out 5 _ rfl; have r6 := HBW.out 6 _ rfl; have r7 := HBW.out 7 _ rfl; obtain ⟨t0, t1, t2⟩ := HCI.out.keep HX.out HP4.out; clear hb) | (go_at_call 33; (with_reducible refine (rbytes_any a (by omega) _).mono ?_); rintro e w5 ⟨v5, rfl, ho5, hb⟩; rw [F1.out] at ho5; obtain ⟨g5, c5, rfl, hL5⟩ := own_some ho5 F1p; have HL5 := Lib.hid (lies_addr hL5); clear ho5 hL5; have HO := Lib.hid (own_below HO.out hb (own_block_lt HO.out)); have HX := Lib.hid (HX.out.trans (hb.mono HX.out.size)); have HBW := Lib.hid (HBW.out.keep hb HN2.out); have HN2 := Lib.hid (Nat.lt_of_lt_of_le HN2.out hb.size); have r0 := HBW.out 0 _ rfl; have r1 := HBW.out 1 _ rfl; have r2 := HBW.out 2 _ rfl; have r3 := HBW.out 3 _ rfl; have r4 := HBW.out 4 _ rfl; have r5 := HBW.out 5 _ rfl; have r6 := HBW.out 6 _ rfl; have r7 := HBW.out 7 _ rfl; obtain ⟨t0, t1, t2⟩ := HCI.out.keep HX.out HP4.out; clear hb) | (go_at_call 33; (with_reducible refine (rbytes_any b (by omega) _).mono ?_); rintro e w5 ⟨v5, rfl, ho5, hb⟩; rw [F2.out] at ho5; obtain ⟨g5, c5, rfl, hL5⟩ := own_some ho5 F2p; have HL5 := Lib.hid (lies_addr hL5); clear ho5 hL5; have HO := Lib.hid (own_below HO.out hb (own_block_lt HO.out)); have HX := Lib.hid (HX.out.trans (hb.mono HX.out.size)); have HBW := Lib.hid (HBW.out.keep hb HN2.out); have HN2 := Lib.hid (Nat.lt_of_lt_of_le HN2.out hb.size); have r0 := HBW.out 0 _ rfl; have r1 := HBW.out 1 _ rfl; have r2 := HBW.out 2 _ rfl; have r3 := HBW.out 3 _ rfl; have r4 := HBW.out 4 _ rfl; have r5 := HBW.out 5 _ rfl; have r6 := HBW.out 6 _ rfl; have r7 := HBW.out 7 _ rfl; obtain ⟨t0, t1, t2⟩ := HCI.out.keep HX.out HP4.out; clear hb) | (at_builtin; refine wpList_append_lies _ rfl _ _ 31 rfl (w.alloc (imgO h m)).heap.size 5 i0 (.int .u8 0) 1 1 Try.underlying31 hi hz0 hz1 hz2 rfl (by decide) _ _ _ rfl HO.out ⟨g5, 0, none⟩ _ c5 (V0.map (Value.int .u8)) rfl (by simp) HL5.out (u8_one _) (by omega) (by (try simp only [List.length_append]); unfold maxLen; omega) (by (try simp only [List.length_append]); omega) HX.out.size _ rfl ?_; intro g6 c6 w6 hown hgrow hor hlt6; obtain ⟨ho6, hb6⟩ := app_more HX.out HO.out HX.out.size hown hgrow; have HBW := Lib.hid (HBW.out.grown hgrow HN2.out HG.out); have HG := Lib.hid (far_of hor HG.out HN2.out); have HN2 := Lib.hid (Nat.lt_of_lt_of_le HN2.out hgrow.size); have HO := Lib.hid ho6; have HX := Lib.hid hb6; have r0 := HBW.out 0 _ rfl; have r1 := HBW.out 1 _ rfl; have r2 := HBW.out 2 _ rfl; have r3 := HBW.out 3 _ rfl; have r4 := HBW.out 4 _ rfl; have r5 := HBW.out 5 _ rfl; have r6 := HBW.out 6 _ rfl; have r7 := HBW.out 7 _ rfl; obtain ⟨t0, t1, t2⟩ := HCI.out.keep HX.out HP4.out; clear hown hgrow hor hlt6 ho6 hb6) | (at_builtin; refine wpList_append_lies _ rfl _ _ 31 rfl (w.alloc (imgO h m)).heap.size 5 i0 (.int .u8 0) 1 1 Try.underlying31 hi hz0 hz1 hz2 rfl (by decide) _ _ _ rfl HO.out ⟨g5, 0, none⟩ _ c5 (V1.map (Value.int .u8)) rfl (by simp) HL5.out (u8_one _) (by omega) (by (try simp only [List.length_append]); unfold maxLen; omega) (by (try simp only [List.length_append]); omega) HX.out.size _ rfl ?_; intro g6 c6 w6 hown hgrow hor hlt6; obtain ⟨ho6, hb6⟩ := app_more HX.out HO.out HX.out.size hown hgrow; have HBW := Lib.hid (HBW.out.grown hgrow HN2.out HG.out); have HG := Lib.hid (far_of hor HG.out HN2.out); have HN2 := Lib.hid (Nat.lt_of_lt_of_le HN2.out hgrow.size); have HO := Lib.hid ho6; have HX := Lib.hid hb6; have r0 := HBW.out 0 _ rfl; have r1 := HBW.out 1 _ rfl; have r2 := HBW.out 2 _ rfl; have r3 := HBW.out 3 _ rfl; have r4 := HBW.out 4 _ rfl; have r5 := HBW.out 5 _ rfl; have r6 := HBW.out 6 _ rfl; have r7 := HBW.out 7 _ rfl; obtain ⟨t0, t1, t2⟩ := HCI.out.keep HX.out HP4.out; clear hown hgrow hor hlt6 ho6 hb6) | (at_builtin; refine wpList_append_lies _ rfl _ _ 31 rfl (w.alloc (imgO h m)).heap.size 5 i0 (.int .u8 0) 1 1 Try.underlying31 hi hz0 hz1 hz2 rfl (by decide) _ _ _ rfl HO.out ⟨g5, 0, none⟩ _ c5 (V2.map (Value.int .u8)) rfl (by simp) HL5.out (u8_one _) (by omega) (by (try simp only [List.length_append]); unfold maxLen; omega) (by (try simp only [List.length_append]); omega) HX.out.size _ rfl ?_; intro g6 c6 w6 hown hgrow hor hlt6; obtain ⟨ho6, hb6⟩ := app_more HX.out HO.out HX.out.size hown hgrow; have HBW := Lib.hid (HBW.out.grown hgrow HN2.out HG.out); have HG := Lib.hid (far_of hor HG.out HN2.out); have HN2 := Lib.hid (Nat.lt_of_lt_of_le HN2.out hgrow.size); have HO := Lib.hid ho6; have HX := Lib.hid hb6; have r0 := HBW.out 0 _ rfl; have r1 := HBW.out 1 _ rfl; have r2 := HBW.out 2 _ rfl; have r3 := HBW.out 3 _ rfl; have r4 := HBW.out 4 _ rfl; have r5 := HBW.out 5 _ rfl; have r6 := HBW.out 6 _ rfl; have r7 := HBW.out 7 _ rfl; obtain ⟨t0, t1, t2⟩ := HCI.out.keep HX.out HP4.out; clear hown hgrow hor hlt6 ho6 hb6))
                    go_roundw
                    case rel => exact ⟨j + 1, _, _, _, by omega, by go_num, rfl, HG.out, HN2.out, by rw [TJ.out, EC.out]; simpa only [List.append_assoc] using HO, HX, HBW⟩
                    case measure => simp [intOf]; omega
                  · have EC := Lib.hid (show encI1 (op, a, b) = V0 ++ V1 ++ V2 by unfold encI1 putI; dsimp only; rw [F0.out, F1.out, F2.out, HNn.out]; simp)
                    go_wp2_with (first | (go_at_call 38; (with_reducible refine (rargs_any op _).mono ?_); rintro e w5 ⟨rfl, hb⟩; rw [HNn.out]; have HO := Lib.hid (own_below HO.out hb (own_block_lt HO.out)); have HX := Lib.hid (HX.out.trans (hb.mono HX.out.size)); have HBW := Lib.hid (HBW.out.keep hb HN2.out); have HN2 := Lib.hid (Nat.lt_of_lt_of_le HN2.out hb.size); have r0 := HBW.out 0 _ rfl; have r1 := HBW.out 1 _ rfl; have r2 := HBW.out 2 _ rfl; have r3 := HBW.out 3 _ rfl; have r4 := HBW.out 4 _ rfl; have r5 := HBW.out 5 _ rfl; have r6 := HBW.out 6 _ rfl; have r7 := HBW.out 7 _ rfl; obtain ⟨t0, t1, t2⟩ := HCI.out.keep HX.out HP4.out; clear hb) | (go_at_call 33; (with_reducible refine (rbytes_any op (by omega) _).mono ?_); rintro e w5 ⟨v5, rfl, ho5, hb⟩; rw [F0.out] at ho5; obtain ⟨g5, c5, rfl, hL5⟩ := own_some ho5 F0p; have HL5 := Lib.hid (lies_addr hL5); clear ho5 hL5; have HO := Lib.hid (own_below HO.out hb (own_block_lt HO.out)); have HX := Lib.hid (HX.out.trans (hb.mono HX.out.size)); have HBW := Lib.hid (HBW.out.keep hb HN2.out); have HN2 := Lib.hid (Nat.lt_of_lt_of_le HN2.out hb.size); have r0 := HBW.out 0 _ rfl; have r1 := HBW.out 1 _ rfl; have r2 := HBW.out 2 _ rfl; have r3 := HBW.out 3 _ rfl; have r4 := HBW.out 4 _ rfl; have r5 := HBW.out 5 _ rfl; have r6 := HBW.out 6 _ rfl; have r7 := HBW.out 7 _ rfl; obtain ⟨t0, t1, t2⟩ := HCI.out.keep HX.out HP4.out; clear hb) | (go_at_call 33; (with_reducible refine (rbytes_any a (by omega) _).mono ?_); rintro e w5 ⟨v5, rfl, ho5, hb⟩; rw [F1.out] at ho5; obtain ⟨g5, c5, rfl, hL5⟩ := own_some ho5 F1p; have HL5 := Lib.hid (lies_addr hL5); clear ho5 hL5; have HO := Lib.hid (own_below HO.out hb (own_block_lt HO.out)); have HX := Lib.hid (HX.out.trans (hb.mono HX.out.size)); have HBW := Lib.hid (HBW.out.keep hb HN2.out); have HN2 := Lib.hid (Nat.lt_of_lt_of_le HN2.out hb.size); have r0 := HBW.out 0 _ rfl; have r1 := HBW.out 1 _ rfl; have r2 := HBW.out 2 _ rfl; have r3 := HBW.out 3 _ rfl; have r4 := HBW.out 4 _ rfl; have r5 := HBW.out 5 _ rfl; have r6 := HBW.out 6 _ rfl; have r7 := HBW.out 7 _ rfl; obtain ⟨t0, t1, t2⟩ := HCI.out.keep HX.out HP4.out; clear hb) | (go_at_call 33; (with_reducible refine (rbytes_any b (by omega) _).mono ?_); rintro e w5 ⟨v5, rfl, ho5, hb⟩; rw [F2.out] at ho5; obtain ⟨g5, c5, rfl, hL5⟩ := own_some ho5 F2p; have HL5 := Lib.hid (lies_addr hL5); clear ho5 hL5; have HO := Lib.hid (own_below HO.out hb (own_block_lt HO.out)); have HX := Lib.hid (HX.out.trans (hb.mono HX.out.size)); have HBW := Lib.hid (HBW.out.keep hb HN2.out); have HN2 := Lib.hid (Nat.lt_of_lt_of_le HN2.out hb.size); have r0 := HBW.out 0 _ rfl; have r1 := HBW.out 1 _ rfl; have r2 := HBW.out 2 _ rfl; have r3 := HBW.out 3 _ rfl; have r4 := HBW.out 4 _ rfl; have r5 := HBW.out 5 _ rfl; have r6 := HBW.out 6 _ rfl; have r7 := HBW.out 7 _ rfl; obtain ⟨t0, t1, t2⟩ := HCI.out.keep HX.out HP4.out; clear hb) | (at_builtin; refine wpList_append_lies _ rfl _ _ 31 rfl (w.alloc (imgO h m)).heap.size 5 i0 (.int .u8 0) 1 1 Try.underlying31 hi hz0 hz1 hz2 rfl (by decide) _ _ _ rfl HO.out ⟨g5, 0, none⟩ _ c5 (V0.map (Value.int .u8)) rfl (by simp) HL5.out (u8_one _) (by omega) (by (try simp only [List.length_append]); unfold maxLen; omega) (by (try simp only [List.length_append]); omega) HX.out.size _ rfl ?_; intro g6 c6 w6 hown hgrow hor hlt6; obtain ⟨ho6, hb6⟩ := app_more HX.out HO.out HX.out.size hown hgrow; have HBW := Lib.hid (HBW.out.grown hgrow HN2.out HG.out); have HG := Lib.hid (far_of hor HG.out HN2.out); have HN2 := Lib.hid (Nat.lt_of_lt_of_le HN2.out hgrow.size); have HO := Lib.hid ho6; have HX := Lib.hid hb6; have r0 := HBW.out 0 _ rfl; have r1 := HBW.out 1 _ rfl; have r2 := HBW.out 2 _ rfl; have r3 := HBW.out 3 _ rfl; have r4 := HBW.out 4 _ rfl; have r5 := HBW.out 5 _ rfl; have r6 := HBW.out 6 _ rfl; have r7 := HBW.out 7 _ rfl; obtain ⟨t0, t1, t2⟩ := HCI.out.keep HX.out HP4.out; clear hown hgrow hor hlt6 ho6 hb6) | (at_builtin; refine wpList_append_lies _ rfl _ _ 31 rfl (w.alloc (imgO h m)).heap.size 5 i0 (.int .u8 0) 1 1 Try.underlying31 hi hz0 hz1 hz2 rfl (by decide) _ _ _ rfl HO.out ⟨g5, 0, none⟩ _ c5 (V1.map (Value.int .u8)) rfl (by simp) HL5.out (u8_one _) (by omega) (by (try simp only [List.length_append]); unfold maxLen; omega) (by (try simp only [List.length_append]); omega) HX.out.size _ rfl ?_; intro g6 c6 w6 hown hgrow hor hlt6; obtain ⟨ho6, hb6⟩ := app_more HX.out HO.out HX.out.size hown hgrow; have HBW := Lib.hid (HBW.out.grown hgrow HN2.out HG.out); have HG := Lib.hid (far_of hor HG.out HN2.out); have HN2 := Lib.hid (Nat.lt_of_lt_of_le HN2.out hgrow.size); have HO := Lib.hid ho6; have HX := Lib.hid hb6; have r0 := HBW.out 0 _ rfl; have r1 := HBW.out 1 _ rfl; have r2 := HBW.out 2 _ rfl; have r3 := HBW.out 3 _ rfl; have r4 := HBW.out 4 _ rfl; have r5 := HBW.out 5 _ rfl; have r6 := HBW.out 6 _ rfl; have r7 := HBW.out 7 _ rfl; obtain ⟨t0, t1, t2⟩ := HCI.out.keep HX.out HP4.out; clear hown hgrow hor hlt6 ho6 hb6) | (at_builtin; refine wpList_append_lies _ rfl _ _ 31 rfl (w.alloc (imgO h m)).heap.size 5 i0 (.int .u8 0) 1 1 Try.underlying31 hi hz0 hz1 hz2 rfl (by decide) _ _ _ rfl HO.out ⟨g5, 0, none⟩ _ c5 (V2.map (Value.int .u8)) rfl (by simp) HL5.out (u8_one _) (by omega) (by (try simp only [List.length_append]); unfold maxLen; omega) (by (try simp only [List.length_append]); omega) HX.out.size _ rfl ?_; intro g6 c6 w6 hown hgrow hor hlt6; obtain ⟨ho6, hb6⟩ := app_more HX.out HO.out HX.out.size hown hgrow; have HBW := Lib.hid (HBW.out.grown hgrow HN2.out HG.out); have HG := Lib.hid (far_of hor HG.out HN2.out); have HN2 := Lib.hid (Nat.lt_of_lt_of_le HN2.out hgrow.size); have HO := Lib.hid ho6; have HX := Lib.hid hb6; have r0 := HBW.out 0 _ rfl; have r1 := HBW.out 1 _ rfl; have r2 := HBW.out 2 _ rfl; have r3 := HBW.out 3 _ rfl; have r4 := HBW.out 4 _ rfl; have r5 := HBW.out 5 _ rfl; have r6 := HBW.out 6 _ rfl; have r7 := HBW.out 7 _ rfl; obtain ⟨t0, t1, t2⟩ := HCI.out.keep HX.out HP4.out; clear hown hgrow hor hlt6 ho6 hb6))
                    go_roundw
                    case rel => exact ⟨j + 1, _, _, _, by omega, by go_num, rfl, HG.out, HN2.out, by rw [TJ.out, EC.out]; simpa only [List.append_assoc] using HO, HX, HBW⟩
                    case measure => simp [intOf]; omega

                · rw [List.take_of_length_le (show x.code.length ≤ j by omega)] at HO
                  have lJ2 : (x.code.flatMap encI1).length ≤ 320 := by
                    have := flat_len (f := encI1) (c := 5) x.code fun i hi => encI1_len (HF.out.ct i hi)
                    omega
                  go_upto_region 29 with fail
                  have HO : Hid (wr.drew.ownsRow (w.alloc (imgO h m)).heap.size 5 1 (.slice (some ⟨g, 0, none⟩) (n) cg) (n) ((P ++ x.code.flatMap encI1).map (Value.int .u8))) := HO
                  have HX : Hid (Below (w.alloc (imgO h m)).heap.size (w.alloc (imgO h m)) wr.drew) := Lib.hid HX.out.drew
                  have HBW : Hid (Cells wr.drew N [.slice A0 x.args.length k0, .slice A1 x.locals.length k1, .int .i64 x.ret.1, .int .i64 x.ret.2, .slice A4 x.code.length k4, .int .i64 x.depth, .int .i64 x.pot, .slice A7 x.phi.length k7]) := HBW
                  have HN2 : Hid (N < wr.drew.heap.size) := HN2
                  have r0 := HBW.out 0 _ rfl
                  have r1 := HBW.out 1 _ rfl
                  have r2 := HBW.out 2 _ rfl
                  have r3 := HBW.out 3 _ rfl
                  have r4 := HBW.out 4 _ rfl
                  have r5 := HBW.out 5 _ rfl
                  have r6 := HBW.out 6 _ rfl
                  have r7 := HBW.out 7 _ rfl
                  refine wp_region_noPanic ?_
                  refine wp_region_held_drew (S := (fun w' => w'.cell? ⟨N, 0, none⟩ = some (.slice A0 x.args.length k0) ∧ w'.cell? ⟨N, 1, none⟩ = some (.slice A1 x.locals.length k1) ∧ w'.cell? ⟨N, 2, none⟩ = some (.int .i64 x.ret.1) ∧ w'.cell? ⟨N, 3, none⟩ = some (.int .i64 x.ret.2) ∧ w'.cell? ⟨N, 4, none⟩ = some (.slice A4 x.code.length k4) ∧ w'.cell? ⟨N, 5, none⟩ = some (.int .i64 x.depth) ∧ w'.cell? ⟨N, 6, none⟩ = some (.int .i64 x.pot) ∧ w'.cell? ⟨N, 7, none⟩ = some (.slice A7 x.phi.length k7))) (by kernel_rfl) ⟨r0, r1, r2, r3, r4, r5, r6, r7⟩ (fun hHeld => ?_)
                  refine wpAnyH_take (i := 0) (oi := _) (v := ?_) rfl (by kernel_rfl) (by kernel_rfl) (by kernel_rfl) (fun _ _ _ h => h) (Or.inl ⟨by rfl, ?_⟩) (by assumption) ?_
                  rotate_left
                  · (intro w hSw; (try dsimp only at hSw); go_simp <;> with_reducible rfl)
                  try simp only [List.getElem_toArray, List.getElem_cons_succ, List.getElem_cons_zero, Act.put, List.setIfInBounds_toArray, List.set_cons_zero, List.set_cons_succ]
                  refine wpAnyH_take (i := 1) (oi := _) (v := ?_) rfl (by kernel_rfl) (by kernel_rfl) (by kernel_rfl) (fun _ _ _ h => h) (Or.inl ⟨by rfl, ?_⟩) (by assumption) ?_
                  rotate_left
                  · (intro w hSw; (try dsimp only at hSw); go_simp <;> with_reducible rfl)
                  try simp only [List.getElem_toArray, List.getElem_cons_succ, List.getElem_cons_zero, Act.put, List.setIfInBounds_toArray, List.set_cons_zero, List.set_cons_succ]
                  refine wpAnyH_take (i := 2) (oi := _) (v := ?_) rfl (by kernel_rfl) (by kernel_rfl) (by kernel_rfl) (fun _ _ _ h => h) (Or.inl ⟨by rfl, ?_⟩) (by assumption) ?_
                  rotate_left
                  · (intro w hSw; (try dsimp only at hSw); go_simp <;> with_reducible rfl)
                  try simp only [List.getElem_toArray, List.getElem_cons_succ, List.getElem_cons_zero, Act.put, List.setIfInBounds_toArray, List.set_cons_zero, List.set_cons_succ]
                  refine wpAnyH_take (i := 5) (oi := _) (v := ?_) rfl (by kernel_rfl) (by kernel_rfl) (by kernel_rfl) (fun _ _ _ h => h) (Or.inl ⟨by rfl, ?_⟩) (by assumption) ?_
                  rotate_left
                  · (intro w hSw; (try dsimp only at hSw); go_simp <;> with_reducible rfl)
                  try simp only [List.getElem_toArray, List.getElem_cons_succ, List.getElem_cons_zero, Act.put, List.setIfInBounds_toArray, List.set_cons_zero, List.set_cons_succ]
                  refine wpAnyH_take (i := 6) (oi := _) (v := ?_) rfl (by kernel_rfl) (by kernel_rfl) (by kernel_rfl) (fun _ _ _ h => h) (Or.inl ⟨by rfl, ?_⟩) (by assumption) ?_
                  rotate_left
                  · (intro w hSw; (try dsimp only at hSw); go_simp <;> with_reducible rfl)
                  try simp only [List.getElem_toArray, List.getElem_cons_succ, List.getElem_cons_zero, Act.put, List.setIfInBounds_toArray, List.set_cons_zero, List.set_cons_succ]
                  refine wpAnyH_take (i := 9) (oi := _) (v := ?_) rfl (by kernel_rfl) (by kernel_rfl) (by kernel_rfl) (fun _ _ _ h => h) (Or.inl ⟨by rfl, ?_⟩) (by assumption) ?_
                  rotate_left
                  · (intro w hSw; (try dsimp only at hSw); go_simp <;> with_reducible rfl)
                  try simp only [List.getElem_toArray, List.getElem_cons_succ, List.getElem_cons_zero, Act.put, List.setIfInBounds_toArray, List.set_cons_zero, List.set_cons_succ]
                  refine wpAnyH_take (i := 10) (oi := _) (v := ?_) rfl (by kernel_rfl) (by kernel_rfl) (by kernel_rfl) (fun _ _ _ h => h) (Or.inl ⟨by rfl, ?_⟩) (by assumption) ?_
                  rotate_left
                  · (intro w hSw; (try dsimp only at hSw); go_simp <;> with_reducible rfl)
                  try simp only [List.getElem_toArray, List.getElem_cons_succ, List.getElem_cons_zero, Act.put, List.setIfInBounds_toArray, List.set_cons_zero, List.set_cons_succ]
                  refine wpAnyH_ready (rs := [3]) (by kernel_rfl) (by simp) ?_
                  refine AllReadyH.cons (o := _) rfl (fun K hK => ?_) AllReadyH.nil
                  go_simp
                  (go_at_call 33; (with_reducible refine (rbytes_any x.depth (by omega) _).mono ?_); rintro e w5 ⟨v5, rfl, ho5, hb⟩; rw [E6.out] at ho5; obtain ⟨g5, c5, rfl, hL5⟩ := own_some ho5 E6p; have HL5 := Lib.hid (lies_addr hL5); clear ho5 hL5; have HO := Lib.hid (own_below HO.out hb (own_block_lt HO.out)); have HX := Lib.hid (HX.out.trans (hb.mono HX.out.size)); have HBW := Lib.hid (HBW.out.keep hb HN2.out); have HN2 := Lib.hid (Nat.lt_of_lt_of_le HN2.out hb.size); have r0 := HBW.out 0 _ rfl; have r1 := HBW.out 1 _ rfl; have r2 := HBW.out 2 _ rfl; have r3 := HBW.out 3 _ rfl; have r4 := HBW.out 4 _ rfl; have r5 := HBW.out 5 _ rfl; have r6 := HBW.out 6 _ rfl; have r7 := HBW.out 7 _ rfl; clear hb)
                  refine hK.out _ _ ⟨r0, r1, r2, r3, r4, r5, r6, r7⟩ (fun hHeld => ?_)
                  clear hK K
                  try simp only [List.getElem_toArray, List.getElem_cons_succ, List.getElem_cons_zero, Act.put, List.setIfInBounds_toArray, List.set_cons_zero, List.set_cons_succ]
                  refine wpAnyH_ready (rs := [4]) (by kernel_rfl) (by simp) ?_
                  refine AllReadyH.cons (o := _) rfl (fun K hK => ?_) AllReadyH.nil
                  (refine step_append_lies _ rfl _ _ 31 rfl (w.alloc (imgO h m)).heap.size 5 i0 (.int .u8 0) 1 1 Try.underlying31 hi hz0 hz1 hz2 rfl (by decide) _ _ _ rfl HO.out ⟨g5, 0, none⟩ _ c5 (Z6.map (Value.int .u8)) rfl (by simp) HL5.out (u8_one _) (by omega) (by (try simp only [List.length_append]); unfold maxLen; omega) (by (try simp only [List.length_append]); omega) HX.out.size _ rfl ?_; intro g6 c6 w6 hown hgrow hor hlt6; obtain ⟨ho6, hb6⟩ := app_more HX.out HO.out HX.out.size hown hgrow; have HBW := Lib.hid (HBW.out.grown hgrow HN2.out HG.out); have HG := Lib.hid (far_of hor HG.out HN2.out); have HN2 := Lib.hid (Nat.lt_of_lt_of_le HN2.out hgrow.size); have HO := Lib.hid ho6; have HX := Lib.hid hb6; have r0 := HBW.out 0 _ rfl; have r1 := HBW.out 1 _ rfl; have r2 := HBW.out 2 _ rfl; have r3 := HBW.out 3 _ rfl; have r4 := HBW.out 4 _ rfl; have r5 := HBW.out 5 _ rfl; have r6 := HBW.out 6 _ rfl; have r7 := HBW.out 7 _ rfl; clear hown hgrow hor hlt6 ho6 hb6)
                  refine hK.out _ _ ⟨r0, r1, r2, r3, r4, r5, r6, r7⟩ (fun hHeld => ?_)
                  clear hK K
                  try simp only [List.getElem_toArray, List.getElem_cons_succ, List.getElem_cons_zero, Act.put, List.setIfInBounds_toArray, List.set_cons_zero, List.set_cons_succ]
                  refine wpAnyH_ready (rs := [7]) (by kernel_rfl) (by simp) ?_
                  refine AllReadyH.cons (o := _) rfl (fun K hK => ?_) AllReadyH.nil
                  go_simp
                  (go_at_call 33; (with_reducible refine (rbytes_any x.pot (by omega) _).mono ?_); rintro e w5 ⟨v5, rfl, ho5, hb⟩; rw [E7.out] at ho5; obtain ⟨g5, c5, rfl, hL5⟩ := own_some ho5 E7p; have HL5 := Lib.hid (lies_addr hL5); clear ho5 hL5; have HO := Lib.hid (own_below HO.out hb (own_block_lt HO.out)); have HX := Lib.hid (HX.out.trans (hb.mono HX.out.size)); have HBW := Lib.hid (HBW.out.keep hb HN2.out); have HN2 := Lib.hid (Nat.lt_of_lt_of_le HN2.out hb.size); have r0 := HBW.out 0 _ rfl; have r1 := HBW.out 1 _ rfl; have r2 := HBW.out 2 _ rfl; have r3 := HBW.out 3 _ rfl; have r4 := HBW.out 4 _ rfl; have r5 := HBW.out 5 _ rfl; have r6 := HBW.out 6 _ rfl; have r7 := HBW.out 7 _ rfl; clear hb)
                  refine hK.out _ _ ⟨r0, r1, r2, r3, r4, r5, r6, r7⟩ (fun hHeld => ?_)
                  clear hK K
                  try simp only [List.getElem_toArray, List.getElem_cons_succ, List.getElem_cons_zero, Act.put, List.setIfInBounds_toArray, List.set_cons_zero, List.set_cons_succ]
                  refine wpAnyH_ready (rs := [8]) (by kernel_rfl) (by simp) ?_
                  refine AllReadyH.cons (o := _) rfl (fun K hK => ?_) AllReadyH.nil
                  (refine step_append_lies _ rfl _ _ 31 rfl (w.alloc (imgO h m)).heap.size 5 i0 (.int .u8 0) 1 1 Try.underlying31 hi hz0 hz1 hz2 rfl (by decide) _ _ _ rfl HO.out ⟨g5, 0, none⟩ _ c5 (Z7.map (Value.int .u8)) rfl (by simp) HL5.out (u8_one _) (by omega) (by (try simp only [List.length_append]); unfold maxLen; omega) (by (try simp only [List.length_append]); omega) HX.out.size _ rfl ?_; intro g6 c6 w6 hown hgrow hor hlt6; obtain ⟨ho6, hb6⟩ := app_more HX.out HO.out HX.out.size hown hgrow; have HBW := Lib.hid (HBW.out.grown hgrow HN2.out HG.out); have HG := Lib.hid (far_of hor HG.out HN2.out); have HN2 := Lib.hid (Nat.lt_of_lt_of_le HN2.out hgrow.size); have HO := Lib.hid ho6; have HX := Lib.hid hb6; have r0 := HBW.out 0 _ rfl; have r1 := HBW.out 1 _ rfl; have r2 := HBW.out 2 _ rfl; have r3 := HBW.out 3 _ rfl; have r4 := HBW.out 4 _ rfl; have r5 := HBW.out 5 _ rfl; have r6 := HBW.out 6 _ rfl; have r7 := HBW.out 7 _ rfl; clear hown hgrow hor hlt6 ho6 hb6)
                  refine hK.out _ _ ⟨r0, r1, r2, r3, r4, r5, r6, r7⟩ (fun hHeld => ?_)
                  clear hK K
                  try simp only [List.getElem_toArray, List.getElem_cons_succ, List.getElem_cons_zero, Act.put, List.setIfInBounds_toArray, List.set_cons_zero, List.set_cons_succ]
                  refine wpAnyH_ready (rs := [11]) (by kernel_rfl) (by simp) ?_
                  refine AllReadyH.cons (o := _) rfl (fun K hK => ?_) AllReadyH.nil
                  go_simp
                  (go_at_call 35; (with_reducible refine (rnumbers_any x.phi A7 k7 B _ (by omega) (fun t ht => by have := HF.out.pt t ht; omega) (Nat.le_trans HB.out HX.out.size) (HSp.out.below_to IntAt.keeps HX.out HB.out)).mono ?_); rintro e w5 ⟨v5, rfl, ho5, hb⟩; rw [E8.out] at ho5; obtain ⟨g5, c5, rfl, hL5⟩ := own_some ho5 E8p; have HL5 := Lib.hid (lies_addr hL5); clear ho5 hL5; have HO := Lib.hid (own_below HO.out hb (own_block_lt HO.out)); have HX := Lib.hid (HX.out.trans (hb.mono HX.out.size)); have HBW := Lib.hid (HBW.out.keep hb HN2.out); have HN2 := Lib.hid (Nat.lt_of_lt_of_le HN2.out hb.size); have r0 := HBW.out 0 _ rfl; have r1 := HBW.out 1 _ rfl; have r2 := HBW.out 2 _ rfl; have r3 := HBW.out 3 _ rfl; have r4 := HBW.out 4 _ rfl; have r5 := HBW.out 5 _ rfl; have r6 := HBW.out 6 _ rfl; have r7 := HBW.out 7 _ rfl; clear hb)
                  refine hK.out _ _ ⟨r0, r1, r2, r3, r4, r5, r6, r7⟩ (fun hHeld => ?_)
                  clear hK K
                  try simp only [List.getElem_toArray, List.getElem_cons_succ, List.getElem_cons_zero, Act.put, List.setIfInBounds_toArray, List.set_cons_zero, List.set_cons_succ]
                  refine wpAnyH_ready (rs := [12]) (by kernel_rfl) (by simp) ?_
                  refine AllReadyH.cons (o := _) rfl (fun K hK => ?_) AllReadyH.nil
                  (refine step_append_lies _ rfl _ _ 31 rfl (w.alloc (imgO h m)).heap.size 5 i0 (.int .u8 0) 1 1 Try.underlying31 hi hz0 hz1 hz2 rfl (by decide) _ _ _ rfl HO.out ⟨g5, 0, none⟩ _ c5 (Z8.map (Value.int .u8)) rfl (by simp) HL5.out (u8_one _) (by omega) (by (try simp only [List.length_append]); unfold maxLen; omega) (by (try simp only [List.length_append]); omega) HX.out.size _ rfl ?_; intro g6 c6 w6 hown hgrow hor hlt6; obtain ⟨ho6, hb6⟩ := app_more HX.out HO.out HX.out.size hown hgrow; have HBW := Lib.hid (HBW.out.grown hgrow HN2.out HG.out); have HG := Lib.hid (far_of hor HG.out HN2.out); have HN2 := Lib.hid (Nat.lt_of_lt_of_le HN2.out hgrow.size); have HO := Lib.hid ho6; have HX := Lib.hid hb6; have r0 := HBW.out 0 _ rfl; have r1 := HBW.out 1 _ rfl; have r2 := HBW.out 2 _ rfl; have r3 := HBW.out 3 _ rfl; have r4 := HBW.out 4 _ rfl; have r5 := HBW.out 5 _ rfl; have r6 := HBW.out 6 _ rfl; have r7 := HBW.out 7 _ rfl; clear hown hgrow hor hlt6 ho6 hb6)
                  refine hK.out _ _ ⟨r0, r1, r2, r3, r4, r5, r6, r7⟩ (fun hHeld => ?_)
                  clear hK K
                  try simp only [List.getElem_toArray, List.getElem_cons_succ, List.getElem_cons_zero, Act.put, List.setIfInBounds_toArray, List.set_cons_zero, List.set_cons_succ]
                  refine wpAnyH_take (i := 13) (oi := _) (v := ?_) rfl (by kernel_rfl) (by kernel_rfl) (by kernel_rfl) (fun _ _ _ h => h) (Or.inl ⟨by rfl, ?_⟩) (by assumption) ?_
                  rotate_left
                  · (intro w hSw; (try dsimp only at hSw); go_simp <;> with_reducible rfl)
                  try simp only [List.getElem_toArray, List.getElem_cons_succ, List.getElem_cons_zero, Act.put, List.setIfInBounds_toArray, List.set_cons_zero, List.set_cons_succ]
                  refine wpAnyH_done (by kernel_rfl) ?_ _
                  refine NoPanic.normal ?_
                  go_wp2_with fail
                  go_roundw
                  case rel =>
                    refine ⟨k + 1, by omega, by go_num, Lib.hid (own_relen HO.out ?_), HX⟩
                    rw [T1.out, EM.out, ← HPP.out, ← HP0.out]
                    simp only [List.append_assoc]
                  case measure => simp [intOf]; omega

            · have lM : (m.methods.flatMap encM).length ≤ 18000 := by
                have := flat_len (f := encM) (c := 1500) m.methods fun x hx => encM_len (HFI.out.mt x hx)
                omega
              rw [List.take_of_length_le (show m.methods.length ≤ k by omega)] at HO
              have HSe := Lib.hid HIM.out.entries
              have g0 := HFI.out.k1
              have g1 := HFI.out.h1
              obtain ⟨Za, hZa⟩ : ∃ Z, encNs m.entries = Z := ⟨_, rfl⟩
              have lZa : Za.length ≤ 200 := by rw [← hZa]; have := encNs_len (l := m.entries) (fun t ht => by have := HFI.out.et t ht; omega) (by omega); omega
              have Ea := Lib.hid hZa
              clear hZa
              obtain ⟨Zb, hZb⟩ : ∃ Z, bytesOf m.stack.toNat = Z := ⟨_, rfl⟩
              have lZb : Zb.length ≤ 9 := by rw [← hZb]; exact bytesOf_len9 (by omega)
              have Eb := Lib.hid hZb
              clear hZb
              obtain ⟨Zc, hZc⟩ : ∃ Z, bytesOf m.heap.toNat = Z := ⟨_, rfl⟩
              have lZc : Zc.length ≤ 9 := by rw [← hZc]; exact bytesOf_len9 (by omega)
              have Ec := Lib.hid hZc
              clear hZc
              have EF : Hid (encImg m = Y ++ m.methods.flatMap encM ++ Za ++ Zb ++ Zc) := Lib.hid (by
                rw [← HYE.out, ← HXE.out, ← E0.out, ← E4.out, ← E5.out, ← E9.out, ← Ea.out, ← Eb.out, ← Ec.out]
                unfold encImg
                simp only [Int.toNat_natCast, List.append_assoc])
              generalize m.methods.flatMap encM = TM at *
              go_upto_region 30 with fail
              have HX := Lib.hid HX.out.drew
              have HO := Lib.hid (drew_own HO.out)
              refine wp_region_noPanic ?_
              refine wp_region_held_drew (S := (fun w' => w'.cell? ⟨w.heap.size, 0, none⟩ = some (.slice h.A0 m.classes.length h.c0) ∧ w'.cell? ⟨w.heap.size, 1, none⟩ = some (.slice h.A1 m.statics.length h.c1) ∧ w'.cell? ⟨w.heap.size, 2, none⟩ = some (.slice h.A2 m.ints.length h.c2) ∧ w'.cell? ⟨w.heap.size, 3, none⟩ = some (.slice h.A3 m.methods.length h.c3) ∧ w'.cell? ⟨w.heap.size, 4, none⟩ = some (.slice h.A4 m.entries.length h.c4) ∧ w'.cell? ⟨w.heap.size, 5, none⟩ = some (.int .i64 m.stack) ∧ w'.cell? ⟨w.heap.size, 6, none⟩ = some (.int .i64 m.heap))) (by kernel_rfl) ⟨q0, q1, q2, q3, q4, q5, q6⟩ (fun hHeld => ?_)
              refine wpAnyH_take (i := 0) (oi := _) (v := ?_) rfl (by kernel_rfl) (by kernel_rfl) (by kernel_rfl) (fun _ _ _ h => h) (Or.inl ⟨by rfl, ?_⟩) (by assumption) ?_
              rotate_left
              · (intro w hSw; (try dsimp only at hSw); go_simp <;> with_reducible rfl)
              try simp only [List.getElem_toArray, List.getElem_cons_succ, List.getElem_cons_zero, Act.put, List.setIfInBounds_toArray, List.set_cons_zero, List.set_cons_succ]
              refine wpAnyH_take (i := 1) (oi := _) (v := ?_) rfl (by kernel_rfl) (by kernel_rfl) (by kernel_rfl) (fun _ _ _ h => h) (Or.inl ⟨by rfl, ?_⟩) (by assumption) ?_
              rotate_left
              · (intro w hSw; (try dsimp only at hSw); go_simp <;> with_reducible rfl)
              try simp only [List.getElem_toArray, List.getElem_cons_succ, List.getElem_cons_zero, Act.put, List.setIfInBounds_toArray, List.set_cons_zero, List.set_cons_succ]
              refine wpAnyH_take (i := 2) (oi := _) (v := ?_) rfl (by kernel_rfl) (by kernel_rfl) (by kernel_rfl) (fun _ _ _ h => h) (Or.inl ⟨by rfl, ?_⟩) (by assumption) ?_
              rotate_left
              · (intro w hSw; (try dsimp only at hSw); go_simp <;> with_reducible rfl)
              try simp only [List.getElem_toArray, List.getElem_cons_succ, List.getElem_cons_zero, Act.put, List.setIfInBounds_toArray, List.set_cons_zero, List.set_cons_succ]
              refine wpAnyH_take (i := 5) (oi := _) (v := ?_) rfl (by kernel_rfl) (by kernel_rfl) (by kernel_rfl) (fun _ _ _ h => h) (Or.inl ⟨by rfl, ?_⟩) (by assumption) ?_
              rotate_left
              · (intro w hSw; (try dsimp only at hSw); go_simp <;> with_reducible rfl)
              try simp only [List.getElem_toArray, List.getElem_cons_succ, List.getElem_cons_zero, Act.put, List.setIfInBounds_toArray, List.set_cons_zero, List.set_cons_succ]
              refine wpAnyH_take (i := 6) (oi := _) (v := ?_) rfl (by kernel_rfl) (by kernel_rfl) (by kernel_rfl) (fun _ _ _ h => h) (Or.inl ⟨by rfl, ?_⟩) (by assumption) ?_
              rotate_left
              · (intro w hSw; (try dsimp only at hSw); go_simp <;> with_reducible rfl)
              try simp only [List.getElem_toArray, List.getElem_cons_succ, List.getElem_cons_zero, Act.put, List.setIfInBounds_toArray, List.set_cons_zero, List.set_cons_succ]
              refine wpAnyH_take (i := 9) (oi := _) (v := ?_) rfl (by kernel_rfl) (by kernel_rfl) (by kernel_rfl) (fun _ _ _ h => h) (Or.inl ⟨by rfl, ?_⟩) (by assumption) ?_
              rotate_left
              · (intro w hSw; (try dsimp only at hSw); go_simp <;> with_reducible rfl)
              try simp only [List.getElem_toArray, List.getElem_cons_succ, List.getElem_cons_zero, Act.put, List.setIfInBounds_toArray, List.set_cons_zero, List.set_cons_succ]
              refine wpAnyH_take (i := 10) (oi := _) (v := ?_) rfl (by kernel_rfl) (by kernel_rfl) (by kernel_rfl) (fun _ _ _ h => h) (Or.inl ⟨by rfl, ?_⟩) (by assumption) ?_
              rotate_left
              · (intro w hSw; (try dsimp only at hSw); go_simp <;> with_reducible rfl)
              try simp only [List.getElem_toArray, List.getElem_cons_succ, List.getElem_cons_zero, Act.put, List.setIfInBounds_toArray, List.set_cons_zero, List.set_cons_succ]
              refine wpAnyH_ready (rs := [3]) (by kernel_rfl) (by simp) ?_
              refine AllReadyH.cons (o := _) rfl (fun K hK => ?_) AllReadyH.nil
              go_simp
              (go_at_call 35; (with_reducible refine (rnumbers_any m.entries h.A4 h.c4 B _ (by omega) (fun t ht => by have := HFI.out.et t ht; omega) (Nat.le_trans HB.out HX.out.size) (HSe.out.below_to IntAt.keeps HX.out HB.out)).mono ?_); rintro e w5 ⟨v5, rfl, ho5, hb⟩; rw [Ea.out] at ho5; obtain ⟨A5, c5, rfl, hL5, hA5⟩ := own_slice_nil ho5; have HL5 := Lib.hid hL5; have HA5 := Lib.hid hA5; clear ho5 hL5 hA5; have HO := Lib.hid (own_below HO.out hb (own_block_lt HO.out)); have HX := Lib.hid (HX.out.trans (hb.mono HX.out.size)); obtain ⟨q0, q1, q2, q3, q4, q5, q6⟩ := HBX.out.keep HX.out HZ.out; clear hb)
              refine hK.out _ _ ⟨q0, q1, q2, q3, q4, q5, q6⟩ (fun hHeld => ?_)
              clear hK K
              try simp only [List.getElem_toArray, List.getElem_cons_succ, List.getElem_cons_zero, Act.put, List.setIfInBounds_toArray, List.set_cons_zero, List.set_cons_succ]
              refine wpAnyH_ready (rs := [4]) (by kernel_rfl) (by simp) ?_
              refine AllReadyH.cons (o := _) rfl (fun K hK => ?_) AllReadyH.nil
              (refine step_app rfl _ _ 31 rfl (w.alloc (imgO h m)).heap.size 5 i0 (.int .u8 0) 1 Try.underlying31 hi hz0 hz1 hz2 rfl _ _ _ rfl HO.out A5 _ c5 _ (Za.map (Value.int .u8)) (by simp) rfl HA5.out HL5.out (u8_one _) (by (try simp only [List.length_append]); unfold maxLen; omega) (by (try simp only [List.length_append]); omega) HX.out.size ?_; intro v6 w6 hown hgrow; obtain ⟨ho6, hb6⟩ := app_more HX.out HO.out HX.out.size hown hgrow; rw [← List.length_append] at ho6; have HO := Lib.hid ho6; have HX := Lib.hid hb6; obtain ⟨q0, q1, q2, q3, q4, q5, q6⟩ := HBX.out.keep HX.out HZ.out; clear hown hgrow ho6 hb6)
              refine hK.out _ _ ⟨q0, q1, q2, q3, q4, q5, q6⟩ (fun hHeld => ?_)
              clear hK K
              try simp only [List.getElem_toArray, List.getElem_cons_succ, List.getElem_cons_zero, Act.put, List.setIfInBounds_toArray, List.set_cons_zero, List.set_cons_succ]
              refine wpAnyH_ready (rs := [7]) (by kernel_rfl) (by simp) ?_
              refine AllReadyH.cons (o := _) rfl (fun K hK => ?_) AllReadyH.nil
              go_simp
              (go_at_call 33; (with_reducible refine (rbytes_any m.stack (by omega) _).mono ?_); rintro e w5 ⟨v5, rfl, ho5, hb⟩; rw [Eb.out] at ho5; obtain ⟨A5, c5, rfl, hL5, hA5⟩ := own_slice_nil ho5; have HL5 := Lib.hid hL5; have HA5 := Lib.hid hA5; clear ho5 hL5 hA5; have HO := Lib.hid (own_below HO.out hb (own_block_lt HO.out)); have HX := Lib.hid (HX.out.trans (hb.mono HX.out.size)); obtain ⟨q0, q1, q2, q3, q4, q5, q6⟩ := HBX.out.keep HX.out HZ.out; clear hb)
              refine hK.out _ _ ⟨q0, q1, q2, q3, q4, q5, q6⟩ (fun hHeld => ?_)
              clear hK K
              try simp only [List.getElem_toArray, List.getElem_cons_succ, List.getElem_cons_zero, Act.put, List.setIfInBounds_toArray, List.set_cons_zero, List.set_cons_succ]
              refine wpAnyH_ready (rs := [8]) (by kernel_rfl) (by simp) ?_
              refine AllReadyH.cons (o := _) rfl (fun K hK => ?_) AllReadyH.nil
              (refine step_app rfl _ _ 31 rfl (w.alloc (imgO h m)).heap.size 5 i0 (.int .u8 0) 1 Try.underlying31 hi hz0 hz1 hz2 rfl _ _ _ rfl HO.out A5 _ c5 _ (Zb.map (Value.int .u8)) (by simp) rfl HA5.out HL5.out (u8_one _) (by (try simp only [List.length_append]); unfold maxLen; omega) (by (try simp only [List.length_append]); omega) HX.out.size ?_; intro v6 w6 hown hgrow; obtain ⟨ho6, hb6⟩ := app_more HX.out HO.out HX.out.size hown hgrow; rw [← List.length_append] at ho6; have HO := Lib.hid ho6; have HX := Lib.hid hb6; obtain ⟨q0, q1, q2, q3, q4, q5, q6⟩ := HBX.out.keep HX.out HZ.out; clear hown hgrow ho6 hb6)
              refine hK.out _ _ ⟨q0, q1, q2, q3, q4, q5, q6⟩ (fun hHeld => ?_)
              clear hK K
              try simp only [List.getElem_toArray, List.getElem_cons_succ, List.getElem_cons_zero, Act.put, List.setIfInBounds_toArray, List.set_cons_zero, List.set_cons_succ]
              refine wpAnyH_ready (rs := [11]) (by kernel_rfl) (by simp) ?_
              refine AllReadyH.cons (o := _) rfl (fun K hK => ?_) AllReadyH.nil
              go_simp
              (go_at_call 33; (with_reducible refine (rbytes_any m.heap (by omega) _).mono ?_); rintro e w5 ⟨v5, rfl, ho5, hb⟩; rw [Ec.out] at ho5; obtain ⟨A5, c5, rfl, hL5, hA5⟩ := own_slice_nil ho5; have HL5 := Lib.hid hL5; have HA5 := Lib.hid hA5; clear ho5 hL5 hA5; have HO := Lib.hid (own_below HO.out hb (own_block_lt HO.out)); have HX := Lib.hid (HX.out.trans (hb.mono HX.out.size)); obtain ⟨q0, q1, q2, q3, q4, q5, q6⟩ := HBX.out.keep HX.out HZ.out; clear hb)
              refine hK.out _ _ ⟨q0, q1, q2, q3, q4, q5, q6⟩ (fun hHeld => ?_)
              clear hK K
              try simp only [List.getElem_toArray, List.getElem_cons_succ, List.getElem_cons_zero, Act.put, List.setIfInBounds_toArray, List.set_cons_zero, List.set_cons_succ]
              refine wpAnyH_ready (rs := [12]) (by kernel_rfl) (by simp) ?_
              refine AllReadyH.cons (o := _) rfl (fun K hK => ?_) AllReadyH.nil
              (refine step_app rfl _ _ 31 rfl (w.alloc (imgO h m)).heap.size 5 i0 (.int .u8 0) 1 Try.underlying31 hi hz0 hz1 hz2 rfl _ _ _ rfl HO.out A5 _ c5 _ (Zc.map (Value.int .u8)) (by simp) rfl HA5.out HL5.out (u8_one _) (by (try simp only [List.length_append]); unfold maxLen; omega) (by (try simp only [List.length_append]); omega) HX.out.size ?_; intro v6 w6 hown hgrow; obtain ⟨ho6, hb6⟩ := app_more HX.out HO.out HX.out.size hown hgrow; rw [← List.length_append] at ho6; have HO := Lib.hid ho6; have HX := Lib.hid hb6; obtain ⟨q0, q1, q2, q3, q4, q5, q6⟩ := HBX.out.keep HX.out HZ.out; clear hown hgrow ho6 hb6)
              refine hK.out _ _ ⟨q0, q1, q2, q3, q4, q5, q6⟩ (fun hHeld => ?_)
              clear hK K
              try simp only [List.getElem_toArray, List.getElem_cons_succ, List.getElem_cons_zero, Act.put, List.setIfInBounds_toArray, List.set_cons_zero, List.set_cons_succ]
              refine wpAnyH_take (i := 13) (oi := _) (v := ?_) rfl (by kernel_rfl) (by kernel_rfl) (by kernel_rfl) (fun _ _ _ h => h) (Or.inl ⟨by rfl, ?_⟩) (by assumption) ?_
              rotate_left
              · (intro w hSw; (try dsimp only at hSw); go_simp <;> with_reducible rfl)
              try simp only [List.getElem_toArray, List.getElem_cons_succ, List.getElem_cons_zero, Act.put, List.setIfInBounds_toArray, List.set_cons_zero, List.set_cons_succ]
              refine wpAnyH_done (by kernel_rfl) ?_ _
              refine NoPanic.normal ?_
              go_wp2_with fail
              go_ret
              rw [EF.out]
              exact ⟨_, rfl, own_lower HO.out (Nat.le_of_lt HZ.out), HW.out.trans (HX.out.mono (Nat.le_of_lt HZ.out))⟩

end Go.Proofs.Ytikljohgdgibnaa
