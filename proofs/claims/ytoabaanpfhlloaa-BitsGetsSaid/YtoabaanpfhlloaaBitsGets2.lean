/-
  The statement on getting numbers (BitsGets), walked: it answers true at any bytes and bounds.
-/
import Derived.Test.YtoabaanpfhlloaaBitsGets
namespace Go.Proofs.Ytoabaanpfhlloaa
open Go.ChangeShapes Go.WideShapes Go.ChangeAt Go.RowKit
set_option linter.unusedVariables false
set_option linter.unusedSimpArgs false

set_option maxRecDepth 100000 in
set_option maxHeartbeats 6400000 in
theorem bitsGets_short (z M : List Int) (A A' : Option Addr) (cap cap' : Nat) (w : World) (hl : z.length ≤ cap) (hm : cap ≤ 9223372036854775807) (hl' : M.length ≤ cap') (hm' : cap' ≤ 9223372036854775807)
    (hL : Lies w w.heap.size A (z.map (Value.int .u8))) (hM : Lies w w.heap.size A' (M.map (Value.int .u16))) (rL : ∀ n ∈ z, 0 ≤ n ∧ n ≤ 255) (rM : ∀ n ∈ M, 0 ≤ n ∧ n ≤ 65535) (hA : A = none → cap = 0) (h2 : (z.length : Int) ≤ 200) :
    Calls Try.prog 4 #[.slice A z.length cap, .slice A' M.length cap'] w fun e w' => e = .returned (.bool true) ∧ Below w.heap.size w w' := by
  have HA := Lib.hid hA
  clear hA
  have HM := Lib.hid hM
  have RM := Lib.hid rM
  have hMlen : M.length ≤ 9223372036854775807 := by omega
  have HL : Hid (Lies w w.heap.size A ((z.take 200).map (Value.int .u8))) := Lib.hid (by rw [List.map_take]; exact hL.take_ 200)
  have HR : Hid (∀ b ∈ z.take 200, 0 ≤ b ∧ b ≤ 255) := Lib.hid fun b hb => rL b (List.mem_of_mem_take hb)
  have hZ : (z.take 200).length = z.length := by rw [List.length_take]; omega
  generalize z.take 200 = Z at *
  have HB0 : Hid (w.heap.size ≤ w.heap.size) := Lib.hid (Nat.le_refl _)
  clear hM rM hL rL hl' hm'
  have HZ := Lib.hid hZ
  have H2 : Hid (z.length ≤ 200) := Lib.hid (by omega)
  have hcap : z.length ≤ cap := hl
  clear hZ
  go_enter Try.func4, Try.ntmps4
  go_wp2_with (go_at_call 13; (with_reducible refine (new_len HZ H2 HR HB0 HA HL).mono ?_); rintro e w3 ⟨N, rfl, hN, hr, hb⟩; have HRd := Lib.hid hr; have HX3 := Lib.hid hb; have HN := Lib.hid hN; clear hr hb hN)
  go_loopw [6, 7, 8] (fun a b i wr => ∃ (k at_ : Nat) (bad : Bool), i = .int .i64 k ∧ a = .int .i64 at_ ∧ b = .bool bad ∧ k ≤ M.length ∧ k ≤ 60 ∧ at_ ≤ z.length ∧ Rd wr N (Z.drop at_) bad ∧ Below w.heap.size w wr) (fun _ _ i _ => 60 - (intOf i).toNat)
  case atStart => exact ⟨0, 0, false, rfl, rfl, rfl, by omega, by omega, by omega, HRd.out, HX3.out⟩
  case round =>
    clear HRd HX3
    obtain ⟨k, at_, bad, rfl, rfl, rfl, hk, hk6, hat, hrd, hnx⟩ := hrel
    have HRd := Lib.hid hrd
    have HX3 := Lib.hid hnx
    clear hrd hnx
    have hcs : (k < M.length ∧ k < 60) ∨ (M.length ≤ k ∨ 60 ≤ k) := by omega
    rcases hcs with ⟨h1, h2⟩ | hend
    · obtain ⟨ad, rfl, hab, hc⟩ := (HM.out.below_to HX3.out (Nat.le_refl _)).at_ (k := k) (by simpa using h1)
      have R1 := Lib.hid (RM.out M[k] (List.getElem_mem h1))
      simp only [List.getElem_map] at hc
      generalize M[k] = x at *
      obtain ⟨x0, x1⟩ := R1.out
      have HD : Hid ((Z.drop at_).length = z.length - at_) := Lib.hid (by rw [List.length_drop, HZ.out])
      have H2d : Hid (z.length - at_ ≤ 200) := Lib.hid (by omega)
      have HDl : Hid ((Z.drop at_).length ≤ 1048576) := Lib.hid (by rw [HD.out]; omega)
      have HRd2 : Hid (∀ b ∈ Z.drop at_, 0 ≤ b ∧ b ≤ 255) := Lib.hid fun b hb => HR.out b (List.mem_of_mem_drop hb)
      have HBN : Hid (w.heap.size ≤ N) := HN
      by_cases hq : cap = at_
      · subst hq
        have HLd : Hid (Lies wr w.heap.size A ((Z.drop cap).map (Value.int .u8))) := Lib.hid (by
          rw [List.drop_eq_nil_of_le (by have := HZ.out; omega)]
          exact Lies.nil)
        have hp : nextOf (Z.drop cap) = (0, 0) := by rw [List.drop_eq_nil_of_le (by have := HZ.out; omega)]; rfl
        have HP := Lib.hid hp
        have HV : Hid (((0 : Nat) : Int) = 0) := Lib.hid rfl
        have HD0 : Hid ((Z.drop cap).length = 0) := Lib.hid (by rw [HD.out]; omega)
        have H20 : Hid (0 ≤ 200) := Lib.hid (by decide)
        have hb2 : bad = true ∨ bad = false := by cases bad <;> simp
        by_cases hx : x = 0
        · subst hx
          have G := Lib.hid (getR_no (rest := Z.drop cap) (bad := bad) (most := 4294967295) (.inr (.inl (by rw [hp]))))
          clear hp
          rcases hb2 with rfl | rfl
          all_goals
            have E := Lib.hid (show (!true && (Z.drop cap).isEmpty) = false from rfl)
            go_wp2_with (first | (go_at_call 14; (with_reducible refine (next_len HD0 H20 HRd2 HLd HP HV).mono ?_); rintro e w4 ⟨rfl, rfl⟩) | (go_at_call 15; (with_reducible refine (long_out HRd HBN HDl HRd2 G).mono ?_); rintro e w5 ⟨rfl, hr, hb⟩; have HRe := Lib.hid hr; have HB5 := Lib.hid hb; have HX5 := Lib.hid (HX3.out.trans hb); have hc5 := (hb.cell (p := ad.add k) (by rw [addr_add_block]; exact hab)).trans hc; clear hr hb) | (go_at_call 17; (with_reducible refine (bbad_any N _ _ _ HRe.out).mono ?_); rintro e w6 ⟨rfl, hb⟩; have HRf := Lib.hid (HRe.out.keep hb); have HX6 := Lib.hid (HX5.out.trans (hb.mono HX5.out.size)); clear hb) | (go_at_call 18; (with_reducible refine (end_out HRf E).mono ?_); rintro e w7 ⟨rfl, hb⟩; have HRg := Lib.hid (HRf.out.keep hb); have HX7 := Lib.hid (HX6.out.trans (hb.mono HX6.out.size)); clear hb))
            go_roundw
            case rel => exact ⟨k + 1, cap, true, by go_num, rfl, rfl, by omega, by omega, by omega, HRg.out, HX7.out⟩
            case measure => simp [intOf]; omega
        · have hx0 : ((x == 0) : Bool) = false := beq_eq_false_iff_ne.mpr hx
          have hwx : IntKind.i64.wrap x = x := by rw [IntKind.wrap_i64]; omega
          have G := Lib.hid (getR_no (rest := Z.drop cap) (bad := bad) (most := x) (.inr (.inl (by rw [hp]))))
          clear hp
          rcases hb2 with rfl | rfl
          all_goals
            have E := Lib.hid (show (!true && (Z.drop cap).isEmpty) = false from rfl)
            go_wp2_with (first | (go_at_call 14; (with_reducible refine (next_len HD0 H20 HRd2 HLd HP HV).mono ?_); rintro e w4 ⟨rfl, rfl⟩) | (go_at_call 16; (with_reducible refine (get_out HRd HBN HDl HRd2 G).mono ?_); rintro e w5 ⟨rfl, hr, hb⟩; have HRe := Lib.hid hr; have HB5 := Lib.hid hb; have HX5 := Lib.hid (HX3.out.trans hb); have hc5 := (hb.cell (p := ad.add k) (by rw [addr_add_block]; exact hab)).trans hc; clear hr hb) | (go_at_call 17; (with_reducible refine (bbad_any N _ _ _ HRe.out).mono ?_); rintro e w6 ⟨rfl, hb⟩; have HRf := Lib.hid (HRe.out.keep hb); have HX6 := Lib.hid (HX5.out.trans (hb.mono HX5.out.size)); clear hb) | (go_at_call 18; (with_reducible refine (end_out HRf E).mono ?_); rintro e w7 ⟨rfl, hb⟩; have HRg := Lib.hid (HRf.out.keep hb); have HX7 := Lib.hid (HX6.out.trans (hb.mono HX6.out.size)); clear hb))
            go_roundw
            case rel => exact ⟨k + 1, cap, true, by go_num, rfl, rfl, by omega, by omega, by omega, HRg.out, HX7.out⟩
            case measure => simp [intOf]; omega
      · have hneq : ¬ cap = at_ := hq
        have HLd : Hid (Lies wr w.heap.size (Option.map (fun x => x.add at_) A) ((Z.drop at_).map (Value.int .u8))) := Lib.hid (by
          have h := (HL.out.below_to HX3.out (Nat.le_refl _)).drop_ at_
          rw [← List.map_drop] at h
          exact h)
        obtain ⟨⟨v, s⟩, hp⟩ : ∃ p, nextOf (Z.drop at_) = p := ⟨_, rfl⟩
        have HP := Lib.hid hp
        obtain ⟨V, hV⟩ : ∃ V : Int, (v : Int) = V := ⟨_, rfl⟩
        have HV := Lib.hid hV
        have hV0 : 0 ≤ V := by omega
        clear hp hV
        by_cases hx : x = 0
        · subst hx
          by_cases hok : bad = false ∧ 0 < s ∧ (v : Int) ≤ 4294967295
          · skip
            obtain ⟨rfl, hs0, hv⟩ := hok
            have G0 := getR_ok (rest := Z.drop at_) (most := 4294967295) (by rw [HP.out]; exact hs0) (by rw [HP.out]; exact hv)
            rw [HP.out] at G0
            rw [show (((v, s) : Nat × Nat).1 : Int) = V from HV.out] at G0
            have G := Lib.hid G0
            obtain ⟨b1, b2, b3, b4⟩ := next_back (l := Z.drop at_) HRd2.out (by rw [HP.out]; exact hs0)
            rw [HP.out] at b1 b2 b3 b4
            have hle : at_ + s ≤ z.length := by have := HD.out; omega
            have HT := Lib.hid b3
            have hs0' : (0 : Int) < (s : Int) := by omega
            clear G0 b1 b2 b3 b4
            have hVx : V ≤ 4294967295 := by have := HV.out; omega
            have i0 : (0 : Int) ≤ (at_ : Int) := by omega
            have i1 : (at_ : Int) ≤ (at_ : Int) + (s : Int) := by omega
            have i2 : (at_ : Int) + (s : Int) ≤ (z.length : Int) := by omega
            have i3 : (at_ : Int) + (s : Int) ≤ (cap : Int) := by omega
            have hws : IntKind.i64.wrap ((at_ : Int) + (s : Int)) = (at_ : Int) + (s : Int) := by rw [IntKind.wrap_i64]; omega
            clear hv hs0
            have E : Hid ((!false && ((Z.drop at_).drop s).isEmpty) = decide (at_ + s = z.length)) := Lib.hid (by
              rw [List.drop_drop]
              by_cases h : at_ + s = z.length
              · rw [decide_eq_true h, List.drop_eq_nil_of_le (by have := HZ.out; omega)]; rfl
              · rw [decide_eq_false h]
                have hne : Z.drop (at_ + s) ≠ [] := fun g => by have := congrArg List.length g; rw [List.length_drop, HZ.out] at this; simp at this; omega
                cases e : Z.drop (at_ + s) with
                | nil => exact absurd e hne
                | cons a r => rfl)
            obtain ⟨zr0, zr1⟩ := zag_range hV0 hVx
            go_wp2_with (first | (go_at_call 14; (with_reducible refine (next_len HD H2d HRd2 HLd HP HV).mono ?_); rintro e w4 ⟨rfl, rfl⟩) | (go_at_call 15; (with_reducible refine (long_out HRd HBN HDl HRd2 G).mono ?_); rintro e w5 ⟨rfl, hr, hb⟩; have HRe := Lib.hid hr; have HB5 := Lib.hid hb; have HX5 := Lib.hid (HX3.out.trans hb); have hc5 := (hb.cell (p := ad.add k) (by rw [addr_add_block]; exact hab)).trans hc; clear hr hb))
            have hXl : ((Z.drop at_).take s).length = ((at_ : Int) + (s : Int)).toNat - at_ := by rw [List.length_take, HD.out]; omega
            have LX : Hid (Lies wr w.heap.size (Option.map (fun x => x.add at_) A) (((Z.drop at_).take s).map (Value.int .u8))) := Lib.hid (by rw [List.map_take]; exact HLd.out.take_ s)
            have hBY : bytesOf (zig (zag V)).toNat = (Z.drop at_).take s := by rw [zig_zag hV0, HT.out, ← HV.out]; rfl
            have HBY := Lib.hid hBY
            have hXp : 0 < ((Z.drop at_).take s).length := by rw [hXl]; omega
            clear hBY
            generalize (Z.drop at_).take s = X at *
            have HXL := Lib.hid hXl
            clear hXl
            have M5 : Hid (Lies w5 w.heap.size (Option.map (fun x => x.add at_) A) (X.map (Value.int .u8))) := Lib.hid (LX.out.below_to (show Below w.heap.size wr w5 from HB5.out) (Nat.le_refl _))
            have kk : (convert 22 9 (.slice (Option.map (fun x => x.add at_) A) (((at_ : Int) + (s : Int)).toNat - at_) (cap - at_))).run Try.prog w5.drew = .ok (.string (strOfNums X)) w5.drew := by
              have h := conv_u8 (cap := cap - at_) M5.out.drew
              rw [HXL.out] at h
              exact h
            refine wp_region_noPanic ?_
            refine wp_region_held_drew (S := (fun w' => (convert 22 9 (.slice (Option.map (fun x => x.add at_) A) (((at_ : Int) + (s : Int)).toNat - at_) (cap - at_))).run Try.prog w' = .ok (.string (strOfNums X)) w')) (by kernel_rfl) kk (fun hHeld => ?_)
            refine wpAnyH_take (i := 0) (oi := _) (v := ?_) rfl (by kernel_rfl) (by kernel_rfl) (by kernel_rfl) (fun _ _ _ h => h) (Or.inl ⟨by rfl, ?_⟩) (by assumption) ?_
            rotate_left
            · (intro w hSw; (try dsimp only at hSw); go_simp <;> with_reducible rfl)
            try simp only [List.getElem_toArray, List.getElem_cons_succ, List.getElem_cons_zero, Act.put, List.setIfInBounds_toArray, List.set_cons_zero, List.set_cons_succ]
            refine wpAnyH_take (i := 3) (oi := _) (v := ?_) rfl (by kernel_rfl) (by kernel_rfl) (by kernel_rfl) (fun _ _ _ h => h) (Or.inl ⟨by rfl, ?_⟩) (by assumption) ?_
            rotate_left
            · (intro w hSw; (try dsimp only at hSw); go_simp <;> with_reducible rfl)
            try simp only [List.getElem_toArray, List.getElem_cons_succ, List.getElem_cons_zero, Act.put, List.setIfInBounds_toArray, List.set_cons_zero, List.set_cons_succ]
            refine wpAnyH_take (i := 4) (oi := _) (v := ?_) rfl (by kernel_rfl) (by kernel_rfl) (by kernel_rfl) (fun _ _ _ h => h) (Or.inl ⟨by rfl, ?_⟩) (by assumption) ?_
            rotate_left
            · (intro w hSw; (try dsimp only at hSw); go_simp <;> with_reducible rfl)
            try simp only [List.getElem_toArray, List.getElem_cons_succ, List.getElem_cons_zero, Act.put, List.setIfInBounds_toArray, List.set_cons_zero, List.set_cons_succ]
            refine wpAnyH_take (i := 5) (oi := _) (v := ?_) rfl (by kernel_rfl) (by kernel_rfl) (by kernel_rfl) (fun _ _ _ h => h) (Or.inl ⟨by rfl, ?_⟩) (by assumption) ?_
            rotate_left
            · (intro w hSw; (try dsimp only at hSw); go_simp <;> with_reducible rfl)
            try simp only [List.getElem_toArray, List.getElem_cons_succ, List.getElem_cons_zero, Act.put, List.setIfInBounds_toArray, List.set_cons_zero, List.set_cons_succ]
            refine wpAnyH_take (i := 6) (oi := _) (v := ?_) rfl (by kernel_rfl) (by kernel_rfl) (by kernel_rfl) (fun _ _ _ h => h) (Or.inl ⟨by rfl, ?_⟩) (by assumption) ?_
            rotate_left
            · (intro w hSw; (try dsimp only at hSw); go_simp <;> with_reducible rfl)
            try simp only [List.getElem_toArray, List.getElem_cons_succ, List.getElem_cons_zero, Act.put, List.setIfInBounds_toArray, List.set_cons_zero, List.set_cons_succ]
            refine wpAnyH_take (i := 7) (oi := _) (v := ?_) rfl (by kernel_rfl) (by kernel_rfl) (by kernel_rfl) (fun _ _ _ h => h) (Or.inl ⟨by rfl, ?_⟩) (by assumption) ?_
            rotate_left
            · (intro w hSw; (try dsimp only at hSw); go_simp <;> with_reducible rfl)
            try simp only [List.getElem_toArray, List.getElem_cons_succ, List.getElem_cons_zero, Act.put, List.setIfInBounds_toArray, List.set_cons_zero, List.set_cons_succ]
            refine wpAnyH_take (i := 8) (oi := _) (v := ?_) rfl (by kernel_rfl) (by kernel_rfl) (by kernel_rfl) (fun _ _ _ h => h) (Or.inl ⟨by rfl, ?_⟩) (by assumption) ?_
            rotate_left
            · (intro w hSw; (try dsimp only at hSw); go_simp <;> with_reducible rfl)
            try simp only [List.getElem_toArray, List.getElem_cons_succ, List.getElem_cons_zero, Act.put, List.setIfInBounds_toArray, List.set_cons_zero, List.set_cons_succ]
            refine wpAnyH_take (i := 9) (oi := _) (v := ?_) rfl (by kernel_rfl) (by kernel_rfl) (by kernel_rfl) (fun _ _ _ h => h) (Or.inl ⟨by rfl, ?_⟩) (by assumption) ?_
            rotate_left
            · (intro w hSw; (try dsimp only at hSw); go_simp <;> with_reducible rfl)
            try simp only [List.getElem_toArray, List.getElem_cons_succ, List.getElem_cons_zero, Act.put, List.setIfInBounds_toArray, List.set_cons_zero, List.set_cons_succ]
            refine wpAnyH_ready (rs := [1]) (by kernel_rfl) (by simp) ?_
            refine AllReadyH.cons (o := _) rfl (fun K hK => ?_) AllReadyH.nil
            go_simp
            (go_at_call 12; (with_reducible refine (rsigned_any _ zr0 zr1 _).mono ?_); rintro e w6 ⟨v6, rfl, ho6, hb6⟩; rw [HBY.out] at ho6; obtain ⟨g6, c6, rfl, _, _, _, _, hl6⟩ := own_bytes ho6 hXp; have q6 := conv_u8 (cap := c6) hl6; have q5 : (convert 22 9 (.slice (Option.map (fun x => x.add at_) A) (((at_ : Int) + (s : Int)).toNat - at_) (cap - at_))).run Try.prog w6 = .ok (.string (strOfNums X)) w6 := by { have h := conv_u8 (cap := cap - at_) ((M5.out.drew : Lies w5.drew _ _ _).below_to hb6 HX5.out.size); rw [HXL.out] at h; exact h }; have HRe6 := Lib.hid ((HRe.out.keep (Below.refl _ _).drew).keep hb6); have HX56 := Lib.hid (HX5.out.drew.trans (hb6.mono HX5.out.size)); clear ho6 hb6 hl6)
            refine hK.out _ _ q5 (fun hHeld => ?_)
            clear hK K
            try simp only [List.getElem_toArray, List.getElem_cons_succ, List.getElem_cons_zero, Act.put, List.setIfInBounds_toArray, List.set_cons_zero, List.set_cons_succ]
            refine wpAnyH_ready (rs := [2]) (by kernel_rfl) (by simp) ?_
            refine AllReadyH.cons (o := _) rfl (fun K hK => ?_) AllReadyH.nil
            go_simp
            refine hK.out _ _ q5 (fun hHeld => ?_)
            clear hK K
            try simp only [List.getElem_toArray, List.getElem_cons_succ, List.getElem_cons_zero, Act.put, List.setIfInBounds_toArray, List.set_cons_zero, List.set_cons_succ]
            refine wpAnyH_take (i := 10) (oi := _) (v := ?_) rfl (by kernel_rfl) (by kernel_rfl) (by kernel_rfl) (fun _ _ _ h => h) (Or.inl ⟨by rfl, ?_⟩) (by assumption) ?_
            rotate_left
            · (intro w hSw; (try dsimp only at hSw); go_simp <;> with_reducible rfl)
            try simp only [List.getElem_toArray, List.getElem_cons_succ, List.getElem_cons_zero, Act.put, List.setIfInBounds_toArray, List.set_cons_zero, List.set_cons_succ]
            refine wpAnyH_done (by kernel_rfl) ?_ _
            refine NoPanic.normal ?_
            by_cases he : at_ + s = z.length
            · have E1 := Lib.hid (E.out.trans (decide_eq_true he))
              have e1 : (at_ : Int) + (s : Int) = (z.length : Int) := by omega
              clear E he
              have E := E1
              go_wp2_with (first | (go_at_call 17; (with_reducible refine (bbad_any N _ _ _ HRe6.out).mono ?_); rintro e w6 ⟨rfl, hb⟩; have HRf := Lib.hid (HRe6.out.keep hb); have HX6 := Lib.hid (HX56.out.trans (hb.mono HX56.out.size)); clear hb) | (go_at_call 18; (with_reducible refine (end_out HRf E).mono ?_); rintro e w7 ⟨rfl, hb⟩; have HRg := Lib.hid (HRf.out.keep hb); have HX7 := Lib.hid (HX6.out.trans (hb.mono HX6.out.size)); clear hb))
              go_roundw
              case rel => exact ⟨k + 1, at_ + s, false, by go_num, by go_num, rfl, by omega, by omega, by omega, by rw [← List.drop_drop]; exact HRg.out, HX7.out⟩
              case measure => simp [intOf]; omega
            · have E1 := Lib.hid (E.out.trans (decide_eq_false he))
              have e1 : (at_ : Int) + (s : Int) < (z.length : Int) := by omega
              clear E he
              have E := E1
              go_wp2_with (first | (go_at_call 17; (with_reducible refine (bbad_any N _ _ _ HRe6.out).mono ?_); rintro e w6 ⟨rfl, hb⟩; have HRf := Lib.hid (HRe6.out.keep hb); have HX6 := Lib.hid (HX56.out.trans (hb.mono HX56.out.size)); clear hb) | (go_at_call 18; (with_reducible refine (end_out HRf E).mono ?_); rintro e w7 ⟨rfl, hb⟩; have HRg := Lib.hid (HRf.out.keep hb); have HX7 := Lib.hid (HX6.out.trans (hb.mono HX6.out.size)); clear hb))
              go_roundw
              case rel => exact ⟨k + 1, at_ + s, false, by go_num, by go_num, rfl, by omega, by omega, by omega, by rw [← List.drop_drop]; exact HRg.out, HX7.out⟩
              case measure => simp [intOf]; omega
          · skip
            have hnb : bad = true ∨ (bad = false ∧ s = 0) ∨ (bad = false ∧ 0 < s ∧ (4294967295 : Int) < v) := by
              cases bad
              · rcases Nat.eq_zero_or_pos s with h | h
                · exact .inr (.inl ⟨rfl, h⟩)
                · by_cases hv : (v : Int) ≤ 4294967295
                  · exact absurd ⟨rfl, h, hv⟩ hok
                  · exact .inr (.inr ⟨rfl, h, by omega⟩)
              · exact .inl rfl
            clear hok
            rcases hnb with rfl | ⟨rfl, rfl⟩ | ⟨rfl, hs0, hv⟩
            · have G := Lib.hid (getR_no (rest := Z.drop at_) (bad := true) (most := 4294967295) (.inl rfl))
              have E := Lib.hid (show (!true && (Z.drop at_).isEmpty) = false from rfl)
              go_wp2_with (first | (go_at_call 14; (with_reducible refine (next_len HD H2d HRd2 HLd HP HV).mono ?_); rintro e w4 ⟨rfl, rfl⟩) | (go_at_call 15; (with_reducible refine (long_out HRd HBN HDl HRd2 G).mono ?_); rintro e w5 ⟨rfl, hr, hb⟩; have HRe := Lib.hid hr; have HB5 := Lib.hid hb; have HX5 := Lib.hid (HX3.out.trans hb); have hc5 := (hb.cell (p := ad.add k) (by rw [addr_add_block]; exact hab)).trans hc; clear hr hb) | (go_at_call 17; (with_reducible refine (bbad_any N _ _ _ HRe.out).mono ?_); rintro e w6 ⟨rfl, hb⟩; have HRf := Lib.hid (HRe.out.keep hb); have HX6 := Lib.hid (HX5.out.trans (hb.mono HX5.out.size)); clear hb) | (go_at_call 18; (with_reducible refine (end_out HRf E).mono ?_); rintro e w7 ⟨rfl, hb⟩; have HRg := Lib.hid (HRf.out.keep hb); have HX7 := Lib.hid (HX6.out.trans (hb.mono HX6.out.size)); clear hb))
              go_roundw
              case rel => exact ⟨k + 1, at_, true, by go_num, rfl, rfl, by omega, by omega, by omega, HRg.out, HX7.out⟩
              case measure => simp [intOf]; omega
            · have G := Lib.hid (getR_no (rest := Z.drop at_) (bad := false) (most := 4294967295) (.inr (.inl (by rw [HP.out]))))
              have E := Lib.hid (show (!true && (Z.drop at_).isEmpty) = false from rfl)
              go_wp2_with (first | (go_at_call 14; (with_reducible refine (next_len HD H2d HRd2 HLd HP HV).mono ?_); rintro e w4 ⟨rfl, rfl⟩) | (go_at_call 15; (with_reducible refine (long_out HRd HBN HDl HRd2 G).mono ?_); rintro e w5 ⟨rfl, hr, hb⟩; have HRe := Lib.hid hr; have HB5 := Lib.hid hb; have HX5 := Lib.hid (HX3.out.trans hb); have hc5 := (hb.cell (p := ad.add k) (by rw [addr_add_block]; exact hab)).trans hc; clear hr hb) | (go_at_call 17; (with_reducible refine (bbad_any N _ _ _ HRe.out).mono ?_); rintro e w6 ⟨rfl, hb⟩; have HRf := Lib.hid (HRe.out.keep hb); have HX6 := Lib.hid (HX5.out.trans (hb.mono HX5.out.size)); clear hb) | (go_at_call 18; (with_reducible refine (end_out HRf E).mono ?_); rintro e w7 ⟨rfl, hb⟩; have HRg := Lib.hid (HRf.out.keep hb); have HX7 := Lib.hid (HX6.out.trans (hb.mono HX6.out.size)); clear hb))
              go_roundw
              case rel => exact ⟨k + 1, at_, true, by go_num, rfl, rfl, by omega, by omega, by omega, HRg.out, HX7.out⟩
              case measure => simp [intOf]; omega
            · have G := Lib.hid (getR_no (rest := Z.drop at_) (bad := false) (most := 4294967295) (.inr (.inr (by rw [HP.out]; exact hv))))
              have hs0' : (0 : Int) < (s : Int) := by omega
              have dv : (4294967296 : Int) ≤ V := by have := HV.out; omega
              clear hv hs0
              have E := Lib.hid (show (!true && (Z.drop at_).isEmpty) = false from rfl)
              go_wp2_with (first | (go_at_call 14; (with_reducible refine (next_len HD H2d HRd2 HLd HP HV).mono ?_); rintro e w4 ⟨rfl, rfl⟩) | (go_at_call 15; (with_reducible refine (long_out HRd HBN HDl HRd2 G).mono ?_); rintro e w5 ⟨rfl, hr, hb⟩; have HRe := Lib.hid hr; have HB5 := Lib.hid hb; have HX5 := Lib.hid (HX3.out.trans hb); have hc5 := (hb.cell (p := ad.add k) (by rw [addr_add_block]; exact hab)).trans hc; clear hr hb) | (go_at_call 17; (with_reducible refine (bbad_any N _ _ _ HRe.out).mono ?_); rintro e w6 ⟨rfl, hb⟩; have HRf := Lib.hid (HRe.out.keep hb); have HX6 := Lib.hid (HX5.out.trans (hb.mono HX5.out.size)); clear hb) | (go_at_call 18; (with_reducible refine (end_out HRf E).mono ?_); rintro e w7 ⟨rfl, hb⟩; have HRg := Lib.hid (HRf.out.keep hb); have HX7 := Lib.hid (HX6.out.trans (hb.mono HX6.out.size)); clear hb))
              go_roundw
              case rel => exact ⟨k + 1, at_, true, by go_num, rfl, rfl, by omega, by omega, by omega, HRg.out, HX7.out⟩
              case measure => simp [intOf]; omega
        · have hx0 : ((x == 0) : Bool) = false := beq_eq_false_iff_ne.mpr hx
          have hwx : IntKind.i64.wrap x = x := by rw [IntKind.wrap_i64]; omega
          by_cases hok : bad = false ∧ 0 < s ∧ (v : Int) ≤ x
          · skip
            obtain ⟨rfl, hs0, hv⟩ := hok
            have G0 := getR_ok (rest := Z.drop at_) (most := x) (by rw [HP.out]; exact hs0) (by rw [HP.out]; exact hv)
            rw [HP.out] at G0
            rw [show (((v, s) : Nat × Nat).1 : Int) = V from HV.out] at G0
            have G := Lib.hid G0
            obtain ⟨b1, b2, b3, b4⟩ := next_back (l := Z.drop at_) HRd2.out (by rw [HP.out]; exact hs0)
            rw [HP.out] at b1 b2 b3 b4
            have hle : at_ + s ≤ z.length := by have := HD.out; omega
            have HT := Lib.hid b3
            have hs0' : (0 : Int) < (s : Int) := by omega
            clear G0 b1 b2 b3 b4
            have E : Hid ((!false && ((Z.drop at_).drop s).isEmpty) = decide (at_ + s = z.length)) := Lib.hid (by
              rw [List.drop_drop]
              by_cases h : at_ + s = z.length
              · rw [decide_eq_true h, List.drop_eq_nil_of_le (by have := HZ.out; omega)]; rfl
              · rw [decide_eq_false h]
                have hne : Z.drop (at_ + s) ≠ [] := fun g => by have := congrArg List.length g; rw [List.length_drop, HZ.out] at this; simp at this; omega
                cases e : Z.drop (at_ + s) with
                | nil => exact absurd e hne
                | cons a r => rfl)
            have hVx : V ≤ x := by have := HV.out; omega
            have HVN := Lib.hid HV.out
            clear hv hs0
            by_cases he : at_ + s = z.length
            · have E1 := Lib.hid (E.out.trans (decide_eq_true he))
              have e1 : (at_ : Int) + (s : Int) = (z.length : Int) := by omega
              clear E he
              have E := E1
              go_wp2_with (first | (go_at_call 14; (with_reducible refine (next_len HD H2d HRd2 HLd HP HV).mono ?_); rintro e w4 ⟨rfl, rfl⟩) | (go_at_call 16; (with_reducible refine (get_out HRd HBN HDl HRd2 G).mono ?_); rintro e w5 ⟨rfl, hr, hb⟩; have HRe := Lib.hid hr; have HB5 := Lib.hid hb; have HX5 := Lib.hid (HX3.out.trans hb); have hc5 := (hb.cell (p := ad.add k) (by rw [addr_add_block]; exact hab)).trans hc; clear hr hb) | (go_at_call 17; (with_reducible refine (bbad_any N _ _ _ HRe.out).mono ?_); rintro e w6 ⟨rfl, hb⟩; have HRf := Lib.hid (HRe.out.keep hb); have HX6 := Lib.hid (HX5.out.trans (hb.mono HX5.out.size)); clear hb) | (go_at_call 18; (with_reducible refine (end_out HRf E).mono ?_); rintro e w7 ⟨rfl, hb⟩; have HRg := Lib.hid (HRf.out.keep hb); have HX7 := Lib.hid (HX6.out.trans (hb.mono HX6.out.size)); clear hb))
              go_roundw
              case rel => exact ⟨k + 1, at_ + s, false, by go_num, by go_num, rfl, by omega, by omega, by omega, by rw [← List.drop_drop]; exact HRg.out, HX7.out⟩
              case measure => simp [intOf]; omega
            · have E1 := Lib.hid (E.out.trans (decide_eq_false he))
              have e1 : (at_ : Int) + (s : Int) < (z.length : Int) := by omega
              clear E he
              have E := E1
              go_wp2_with (first | (go_at_call 14; (with_reducible refine (next_len HD H2d HRd2 HLd HP HV).mono ?_); rintro e w4 ⟨rfl, rfl⟩) | (go_at_call 16; (with_reducible refine (get_out HRd HBN HDl HRd2 G).mono ?_); rintro e w5 ⟨rfl, hr, hb⟩; have HRe := Lib.hid hr; have HB5 := Lib.hid hb; have HX5 := Lib.hid (HX3.out.trans hb); have hc5 := (hb.cell (p := ad.add k) (by rw [addr_add_block]; exact hab)).trans hc; clear hr hb) | (go_at_call 17; (with_reducible refine (bbad_any N _ _ _ HRe.out).mono ?_); rintro e w6 ⟨rfl, hb⟩; have HRf := Lib.hid (HRe.out.keep hb); have HX6 := Lib.hid (HX5.out.trans (hb.mono HX5.out.size)); clear hb) | (go_at_call 18; (with_reducible refine (end_out HRf E).mono ?_); rintro e w7 ⟨rfl, hb⟩; have HRg := Lib.hid (HRf.out.keep hb); have HX7 := Lib.hid (HX6.out.trans (hb.mono HX6.out.size)); clear hb))
              go_roundw
              case rel => exact ⟨k + 1, at_ + s, false, by go_num, by go_num, rfl, by omega, by omega, by omega, by rw [← List.drop_drop]; exact HRg.out, HX7.out⟩
              case measure => simp [intOf]; omega
          · skip
            have hnb : bad = true ∨ (bad = false ∧ s = 0) ∨ (bad = false ∧ 0 < s ∧ (x : Int) < v) := by
              cases bad
              · rcases Nat.eq_zero_or_pos s with h | h
                · exact .inr (.inl ⟨rfl, h⟩)
                · by_cases hv : (v : Int) ≤ x
                  · exact absurd ⟨rfl, h, hv⟩ hok
                  · exact .inr (.inr ⟨rfl, h, by omega⟩)
              · exact .inl rfl
            clear hok
            rcases hnb with rfl | ⟨rfl, rfl⟩ | ⟨rfl, hs0, hv⟩
            · have G := Lib.hid (getR_no (rest := Z.drop at_) (bad := true) (most := x) (.inl rfl))
              have E := Lib.hid (show (!true && (Z.drop at_).isEmpty) = false from rfl)
              go_wp2_with (first | (go_at_call 14; (with_reducible refine (next_len HD H2d HRd2 HLd HP HV).mono ?_); rintro e w4 ⟨rfl, rfl⟩) | (go_at_call 16; (with_reducible refine (get_out HRd HBN HDl HRd2 G).mono ?_); rintro e w5 ⟨rfl, hr, hb⟩; have HRe := Lib.hid hr; have HB5 := Lib.hid hb; have HX5 := Lib.hid (HX3.out.trans hb); have hc5 := (hb.cell (p := ad.add k) (by rw [addr_add_block]; exact hab)).trans hc; clear hr hb) | (go_at_call 17; (with_reducible refine (bbad_any N _ _ _ HRe.out).mono ?_); rintro e w6 ⟨rfl, hb⟩; have HRf := Lib.hid (HRe.out.keep hb); have HX6 := Lib.hid (HX5.out.trans (hb.mono HX5.out.size)); clear hb) | (go_at_call 18; (with_reducible refine (end_out HRf E).mono ?_); rintro e w7 ⟨rfl, hb⟩; have HRg := Lib.hid (HRf.out.keep hb); have HX7 := Lib.hid (HX6.out.trans (hb.mono HX6.out.size)); clear hb))
              go_roundw
              case rel => exact ⟨k + 1, at_, true, by go_num, rfl, rfl, by omega, by omega, by omega, HRg.out, HX7.out⟩
              case measure => simp [intOf]; omega
            · have G := Lib.hid (getR_no (rest := Z.drop at_) (bad := false) (most := x) (.inr (.inl (by rw [HP.out]))))
              have E := Lib.hid (show (!true && (Z.drop at_).isEmpty) = false from rfl)
              go_wp2_with (first | (go_at_call 14; (with_reducible refine (next_len HD H2d HRd2 HLd HP HV).mono ?_); rintro e w4 ⟨rfl, rfl⟩) | (go_at_call 16; (with_reducible refine (get_out HRd HBN HDl HRd2 G).mono ?_); rintro e w5 ⟨rfl, hr, hb⟩; have HRe := Lib.hid hr; have HB5 := Lib.hid hb; have HX5 := Lib.hid (HX3.out.trans hb); have hc5 := (hb.cell (p := ad.add k) (by rw [addr_add_block]; exact hab)).trans hc; clear hr hb) | (go_at_call 17; (with_reducible refine (bbad_any N _ _ _ HRe.out).mono ?_); rintro e w6 ⟨rfl, hb⟩; have HRf := Lib.hid (HRe.out.keep hb); have HX6 := Lib.hid (HX5.out.trans (hb.mono HX5.out.size)); clear hb) | (go_at_call 18; (with_reducible refine (end_out HRf E).mono ?_); rintro e w7 ⟨rfl, hb⟩; have HRg := Lib.hid (HRf.out.keep hb); have HX7 := Lib.hid (HX6.out.trans (hb.mono HX6.out.size)); clear hb))
              go_roundw
              case rel => exact ⟨k + 1, at_, true, by go_num, rfl, rfl, by omega, by omega, by omega, HRg.out, HX7.out⟩
              case measure => simp [intOf]; omega
            · have G := Lib.hid (getR_no (rest := Z.drop at_) (bad := false) (most := x) (.inr (.inr (by rw [HP.out]; exact hv))))
              have hs0' : (0 : Int) < (s : Int) := by omega
              have dv : x < V := by have := HV.out; omega
              clear hv hs0
              have E := Lib.hid (show (!true && (Z.drop at_).isEmpty) = false from rfl)
              go_wp2_with (first | (go_at_call 14; (with_reducible refine (next_len HD H2d HRd2 HLd HP HV).mono ?_); rintro e w4 ⟨rfl, rfl⟩) | (go_at_call 16; (with_reducible refine (get_out HRd HBN HDl HRd2 G).mono ?_); rintro e w5 ⟨rfl, hr, hb⟩; have HRe := Lib.hid hr; have HB5 := Lib.hid hb; have HX5 := Lib.hid (HX3.out.trans hb); have hc5 := (hb.cell (p := ad.add k) (by rw [addr_add_block]; exact hab)).trans hc; clear hr hb) | (go_at_call 17; (with_reducible refine (bbad_any N _ _ _ HRe.out).mono ?_); rintro e w6 ⟨rfl, hb⟩; have HRf := Lib.hid (HRe.out.keep hb); have HX6 := Lib.hid (HX5.out.trans (hb.mono HX5.out.size)); clear hb) | (go_at_call 18; (with_reducible refine (end_out HRf E).mono ?_); rintro e w7 ⟨rfl, hb⟩; have HRg := Lib.hid (HRf.out.keep hb); have HX7 := Lib.hid (HX6.out.trans (hb.mono HX6.out.size)); clear hb))
              go_roundw
              case rel => exact ⟨k + 1, at_, true, by go_num, rfl, rfl, by omega, by omega, by omega, HRg.out, HX7.out⟩
              case measure => simp [intOf]; omega
    · go_wp2_with (go_at_call 8; (with_reducible refine (bawake_any _).mono ?_); rintro e w6 ⟨rfl, hb⟩; have HX6 := Lib.hid (HX3.out.trans (hb.mono HX3.out.size)); clear hb)
      all_goals
        go_ret
        exact ⟨rfl, HX6.out⟩
theorem bitsGets_walk (z M : List Int) (A A' : Option Addr) (cap cap' : Nat) (w : World) (hl : z.length ≤ cap) (hm : cap ≤ 9223372036854775807) (hl' : M.length ≤ cap') (hm' : cap' ≤ 9223372036854775807)
    (hL : Lies w w.heap.size A (z.map (Value.int .u8))) (hM : Lies w w.heap.size A' (M.map (Value.int .u16))) (rL : ∀ n ∈ z, 0 ≤ n ∧ n ≤ 255) (rM : ∀ n ∈ M, 0 ≤ n ∧ n ≤ 65535) (hA : A = none → cap = 0) :
    Calls Try.prog 4 #[.slice A z.length cap, .slice A' M.length cap'] w fun e w' => e = .returned (.bool true) ∧ Below w.heap.size w w' := by
  by_cases h2 : (200 : Int) < z.length
  · exact bitsGets_long z M A A' cap cap' w hl hm hl' hm' hL hM rL rM hA h2
  · exact bitsGets_short z M A A' cap cap' w hl hm hl' hm' hL hM rL rM hA (by omega)
end Go.Proofs.Ytoabaanpfhlloaa
