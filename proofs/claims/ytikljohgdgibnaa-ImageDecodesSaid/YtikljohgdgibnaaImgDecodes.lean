/-
  The statement on bytes as images (ImageDecodes), walked: it answers true at any bytes.
-/
import Derived.Test.YtikljohgdgibnaaImgLaws
import Derived.Test.YtikljohgdgibnaaImgWords
import Derived.Deep.Cut
import Derived.Deep.RegionHeld3
namespace Go.Proofs.Ytikljohgdgibnaa
set_option maxRecDepth 100000
open Go.ChangeShapes Go.WideShapes Go.ChangeAt Go.RowKit
set_option linter.unusedVariables false
set_option linter.unusedSimpArgs false

theorem decode_any {w : World} {L : List Int} {A : Option Addr} {c n : Nat} (HN : Hid (L.length = n)) (HL : Hid (L.length ≤ 10000)) (HLi : Hid (Lies w w.heap.size A (L.map (Value.int .u8)))) (HR : Hid (∀ b ∈ L, 0 ≤ b ∧ b ≤ 255)) (HC : Hid (L.length ≤ c ∧ c ≤ 9223372036854775807)) (HA : Hid (A = none → c = 0)) :
    Calls Try.prog 14 #[.slice A n c] w (DecOut L w) := by
  obtain rfl := HN.out
  exact idecode_any L A c w.heap.size w (by have := HL.out; omega) HC.out.1 HC.out.2 HR.out HA.out (Nat.le_refl _) HLi.out
def h00 : Hnd := ⟨none, none, none, none, none, 0, 0, 0, 0, 0⟩
theorem img0_in (w : World) (B : Nat) : ImgIn w B h00 img0 := ⟨slc_none, slc_none, slc_none, slc_none, slc_none⟩
theorem rsame_zero {w : World} {g : Nat} {h : Hnd} (HM : Hid (Boxed w g h img0)) :
    Calls Try.prog 15 #[imgV h img0, .agg #[.slice none 0 0, .slice none 0 0, .slice none 0 0, .slice none 0 0, .slice none 0 0, .int .i64 0, .int .i64 0]] w fun e w' => e = .returned (.bool true) ∧ Below w.heap.size w w' := by
  have H := rsame_any img0 img0 h h00 w.heap.size w (Nat.le_refl _) HM.out.img (img0_in w _)
  rw [decide_eq_true (rfl : img0 = img0)] at H
  exact H

set_option maxRecDepth 100000 in
set_option maxHeartbeats 3200000 in
theorem imgDecodes_any (z : List Int) (A : Option Addr) (cap : Nat) (w : World) (hz : z.length ≤ cap) (hcap : cap ≤ 9223372036854775807) (hA : A = none → cap = 0) (hr : ∀ b ∈ z, 0 ≤ b ∧ b ≤ 255)
    (hL : Lies w w.heap.size A (z.map (Value.int .u8))) :
    Calls Try.prog 4 #[.slice A z.length cap] w fun e w' => e = .returned (.bool true) ∧ Below w.heap.size w w' := by
  have HA := Lib.hid hA
  by_cases h9 : 9000 < z.length
  · obtain ⟨Y, hY⟩ : ∃ Y, z.take 9000 = Y := ⟨_, rfl⟩
    have hY9 : Y.length = 9000 := by rw [← hY, List.length_take]; omega
    have HN := Lib.hid hY9
    have HYl : Hid (Y.length ≤ 10000) := Lib.hid (by omega)
    have HYc : Hid (Y.length ≤ cap ∧ cap ≤ 9223372036854775807) := Lib.hid ⟨by omega, hcap⟩
    have HYR : Hid (∀ b ∈ Y, 0 ≤ b ∧ b ≤ 255) := Lib.hid (by rw [← hY]; exact fun b hb => hr b (List.mem_of_mem_take hb))
    have HY : Hid (Lies w w.heap.size A (Y.map (Value.int .u8))) := Lib.hid (by have := hL.take_ 9000; rwa [← List.map_take, hY] at this)
    have hc9 : 9000 ≤ cap := by omega
    clear hA hL hr hY hY9
    go_enter Try.func4, Try.ntmps4
    go_upto_region 4 with (go_at_call 14; (with_reducible refine (decode_any HN HYl HY HYR HYc HA).mono ?_); rintro e w2 ⟨h, m, er, rfl, hi, hb, hd⟩; have HD := Lib.hid hi; have HDD := Lib.hid hd; have HW := Lib.hid hb; have HY := Lib.hid (lies_now HY.out hb); clear hi hb hd)
    obtain ⟨rfl, rfl⟩ : er = 2 ∧ m = img0 := by
      rcases HDD.out with ⟨_, _, _, g⟩ | ⟨g1, g2, _⟩
      · have := HN.out; omega
      · exact ⟨g1, g2⟩
    clear HDD
    have HM := Lib.hid (Boxed.new HD.out)
    have HY := Lib.hid (lies_now HY.out (below_box (h := h) (m := img0)))
    have HW := Lib.hid (HW.out.trans ((below_box (h := h) (m := img0)).mono HW.out.size))
    generalize hg5 : w2.heap.size = g5 at HM ⊢
    clear HD hg5
    generalize w2.alloc (imgO h img0) = w4 at *
    obtain ⟨q0, q1, q2, q3, q4, q5, q6⟩ := HM.out.box
    go_wp2_with (first | (go_at_call 9; (with_reducible refine (imgAwake_any _).mono ?_); rintro e w2 ⟨rfl, hb⟩; have HM := Lib.hid (HM.out.keep hb); have HW := Lib.hid (HW.out.trans (hb.mono HW.out.size)); obtain ⟨q0, q1, q2, q3, q4, q5, q6⟩ := HM.out.box; clear hb) | (go_at_call 15; (with_reducible refine (rsame_zero HM).mono ?_); rintro e w2 ⟨rfl, hb⟩; have HM := Lib.hid (HM.out.keep hb); have HW := Lib.hid (HW.out.trans (hb.mono HW.out.size)); obtain ⟨q0, q1, q2, q3, q4, q5, q6⟩ := HM.out.box; clear hb))
    go_ret
    exact ⟨rfl, HW.out⟩
  · obtain ⟨Y, hY⟩ : ∃ Y, z = Y := ⟨_, rfl⟩
    subst hY
    have HN : Hid (z.length = z.length) := Lib.hid rfl
    have HYl : Hid (z.length ≤ 10000) := Lib.hid (by omega)
    have HYc : Hid (z.length ≤ cap ∧ cap ≤ 9223372036854775807) := Lib.hid ⟨by omega, hcap⟩
    have HYR := Lib.hid hr
    have HY := Lib.hid hL
    clear hA hL hr
    go_enter Try.func4, Try.ntmps4
    go_upto_region 4 with (go_at_call 14; (with_reducible refine (decode_any (Lib.hid rfl) HYl HY HYR HYc HA).mono ?_); rintro e w2 ⟨h, m, er, rfl, hi, hb, hd⟩; have HD := Lib.hid hi; have HDD := Lib.hid hd; have HW := Lib.hid hb; have HY := Lib.hid (lies_now HY.out hb); clear hi hb hd)
    rcases HDD.out with ⟨rfl, hf, he, hl⟩ | ⟨rfl, rfl, _⟩
    · have HF := Lib.hid hf
      have HE := Lib.hid he
      have HP : Hid (0 < z.length) := Lib.hid (by rw [← he]; have := encImg_pos m; omega)
      clear HDD hf he
      have HM := Lib.hid (Boxed.new HD.out)
      have HY := Lib.hid (lies_now HY.out (below_box (h := h) (m := m)))
      have HW := Lib.hid (HW.out.trans ((below_box (h := h) (m := m)).mono HW.out.size))
      generalize hg5 : w2.heap.size = g5 at HM ⊢
      clear HD hg5
      generalize w2.alloc (imgO h m) = w4 at *
      obtain ⟨q0, q1, q2, q3, q4, q5, q6⟩ := HM.out.box
      have kz := conv_u8 (cap := cap) HY.out
      go_upto_region 6 with fail
      have HM := Lib.hid (HM.out.keep (Below.refl w4.heap.size w4).drew)
      have HW := Lib.hid (HW.out.trans ((Below.refl w4.heap.size w4).drew.mono HW.out.size))
      have HY := Lib.hid (lies_now HY.out (Below.refl w4.heap.size w4).drew)
      obtain ⟨q0, q1, q2, q3, q4, q5, q6⟩ := HM.out.box
      have kz := conv_u8 (cap := cap) HY.out
      refine wp_region_noPanic ?_
      refine wp_region_held_drew (S := (fun w' => w'.cell? ⟨g5, 0, none⟩ = some (.slice h.A0 m.classes.length h.c0) ∧ w'.cell? ⟨g5, 1, none⟩ = some (.slice h.A1 m.statics.length h.c1) ∧ w'.cell? ⟨g5, 2, none⟩ = some (.slice h.A2 m.ints.length h.c2) ∧ w'.cell? ⟨g5, 3, none⟩ = some (.slice h.A3 m.methods.length h.c3) ∧ w'.cell? ⟨g5, 4, none⟩ = some (.slice h.A4 m.entries.length h.c4) ∧ w'.cell? ⟨g5, 5, none⟩ = some (.int .i64 m.stack) ∧ w'.cell? ⟨g5, 6, none⟩ = some (.int .i64 m.heap) ∧ (convert 31 9 (.slice A z.length cap)).run Try.prog w' = .ok (.string (strOfNums z)) w')) (by kernel_rfl) ⟨q0, q1, q2, q3, q4, q5, q6, kz⟩ (fun hHeld => ?_)
      refine wpAnyH_ready (rs := [0]) (by kernel_rfl) (by simp) ?_
      refine AllReadyH.cons (o := _) rfl (fun K hK => ?_) AllReadyH.nil
      go_simp
      (go_at_call 9; (with_reducible refine (imgAwake_any _).mono ?_); rintro e w2 ⟨rfl, hb⟩; have HM := Lib.hid (HM.out.keep hb); have HW := Lib.hid (HW.out.trans (hb.mono HW.out.size)); have HY := Lib.hid (lies_now HY.out hb); have kz := conv_u8 (cap := cap) HY.out; obtain ⟨q0, q1, q2, q3, q4, q5, q6⟩ := HM.out.box; clear hb)
      refine hK.out _ _ ⟨q0, q1, q2, q3, q4, q5, q6, kz⟩ (fun hHeld => ?_)
      clear hK K
      try simp only [List.getElem_toArray, List.getElem_cons_succ, List.getElem_cons_zero, Act.put, List.setIfInBounds_toArray, List.set_cons_zero, List.set_cons_succ]
      refine wpAnyH_take (i := 1) (oi := _) (v := ?_) rfl (by kernel_rfl) (by kernel_rfl) (by kernel_rfl) (fun _ _ _ h => h) (Or.inl ⟨by rfl, ?_⟩) (by assumption) ?_
      rotate_left
      · (intro w hSw; (try dsimp only at hSw); go_simp <;> with_reducible rfl)
      try simp only [List.getElem_toArray, List.getElem_cons_succ, List.getElem_cons_zero, Act.put, List.setIfInBounds_toArray, List.set_cons_zero, List.set_cons_succ]
      refine wpAnyH_take (i := 2) (oi := _) (v := ?_) rfl (by kernel_rfl) (by kernel_rfl) (by kernel_rfl) (fun _ _ _ h => h) (Or.inl ⟨by rfl, ?_⟩) (by assumption) ?_
      rotate_left
      · (intro w hSw; (try dsimp only at hSw); go_simp <;> with_reducible rfl)
      try simp only [List.getElem_toArray, List.getElem_cons_succ, List.getElem_cons_zero, Act.put, List.setIfInBounds_toArray, List.set_cons_zero, List.set_cons_succ]
      refine wpAnyH_ready (rs := [3]) (by kernel_rfl) (by simp) ?_
      refine AllReadyH.cons (o := _) rfl (fun K hK => ?_) AllReadyH.nil
      go_simp
      (go_at_call 11; (with_reducible refine (rfits_is HM HF).mono ?_); rintro e w2 ⟨rfl, hb⟩; have HM := Lib.hid (HM.out.keep hb); have HW := Lib.hid (HW.out.trans (hb.mono HW.out.size)); have HY := Lib.hid (lies_now HY.out hb); have kz := conv_u8 (cap := cap) HY.out; obtain ⟨q0, q1, q2, q3, q4, q5, q6⟩ := HM.out.box; clear hb)
      refine hK.out _ _ ⟨q0, q1, q2, q3, q4, q5, q6, kz⟩ (fun hHeld => ?_)
      clear hK K
      try simp only [List.getElem_toArray, List.getElem_cons_succ, List.getElem_cons_zero, Act.put, List.setIfInBounds_toArray, List.set_cons_zero, List.set_cons_succ]
      refine wpAnyH_take (i := 4) (oi := _) (v := ?_) rfl (by kernel_rfl) (by kernel_rfl) (by kernel_rfl) (fun _ _ _ h => h) (Or.inl ⟨by rfl, ?_⟩) (by assumption) ?_
      rotate_left
      · (intro w hSw; (try dsimp only at hSw); go_simp <;> with_reducible rfl)
      try simp only [List.getElem_toArray, List.getElem_cons_succ, List.getElem_cons_zero, Act.put, List.setIfInBounds_toArray, List.set_cons_zero, List.set_cons_succ]
      refine wpAnyH_take (i := 5) (oi := _) (v := ?_) rfl (by kernel_rfl) (by kernel_rfl) (by kernel_rfl) (fun _ _ _ h => h) (Or.inl ⟨by rfl, ?_⟩) (by assumption) ?_
      rotate_left
      · (intro w hSw; (try dsimp only at hSw); go_simp <;> with_reducible rfl)
      try simp only [List.getElem_toArray, List.getElem_cons_succ, List.getElem_cons_zero, Act.put, List.setIfInBounds_toArray, List.set_cons_zero, List.set_cons_succ]
      refine wpAnyH_take (i := 6) (oi := _) (v := ?_) rfl (by kernel_rfl) (by kernel_rfl) (by kernel_rfl) (fun _ _ _ h => h) (Or.inl ⟨by rfl, ?_⟩) (by assumption) ?_
      rotate_left
      · (intro w hSw; (try dsimp only at hSw); go_simp <;> with_reducible rfl)
      try simp only [List.getElem_toArray, List.getElem_cons_succ, List.getElem_cons_zero, Act.put, List.setIfInBounds_toArray, List.set_cons_zero, List.set_cons_succ]
      refine wpAnyH_take (i := 9) (oi := _) (v := ?_) rfl (by kernel_rfl) (by kernel_rfl) (by kernel_rfl) (fun _ _ _ h => h) (Or.inl ⟨by rfl, ?_⟩) (by assumption) ?_
      rotate_left
      · (intro w hSw; (try dsimp only at hSw); go_simp <;> with_reducible rfl)
      try simp only [List.getElem_toArray, List.getElem_cons_succ, List.getElem_cons_zero, Act.put, List.setIfInBounds_toArray, List.set_cons_zero, List.set_cons_succ]
      refine wpAnyH_take (i := 10) (oi := _) (v := ?_) rfl (by kernel_rfl) (by kernel_rfl) (by kernel_rfl) (fun _ _ _ h => h) (Or.inl ⟨by rfl, ?_⟩) (by assumption) ?_
      rotate_left
      · (intro w hSw; (try dsimp only at hSw); go_simp <;> with_reducible rfl)
      try simp only [List.getElem_toArray, List.getElem_cons_succ, List.getElem_cons_zero, Act.put, List.setIfInBounds_toArray, List.set_cons_zero, List.set_cons_succ]
      refine wpAnyH_ready (rs := [7]) (by kernel_rfl) (by simp) ?_
      refine AllReadyH.cons (o := _) rfl (fun K hK => ?_) AllReadyH.nil
      go_simp
      (go_at_call 13; (with_reducible refine (rencode_ok HM HF HE HP).mono ?_); rintro e w2 ⟨g', c', rfl, hl', hb⟩; have HM := Lib.hid (HM.out.keep hb); have HW := Lib.hid (HW.out.trans (hb.mono HW.out.size)); have k8 := conv_u8 (cap := c') hl'; clear hl'; have HY := Lib.hid (lies_now HY.out hb); have kz := conv_u8 (cap := cap) HY.out; obtain ⟨q0, q1, q2, q3, q4, q5, q6⟩ := HM.out.box; clear hb)
      refine hK.out _ _ ⟨q0, q1, q2, q3, q4, q5, q6, kz⟩ (fun hHeld => ?_)
      clear hK K
      try simp only [List.getElem_toArray, List.getElem_cons_succ, List.getElem_cons_zero, Act.put, List.setIfInBounds_toArray, List.set_cons_zero, List.set_cons_succ]
      refine wpAnyH_ready (rs := [8]) (by kernel_rfl) (by simp) ?_
      refine AllReadyH.cons (o := _) rfl (fun K hK => ?_) AllReadyH.nil
      go_simp
      refine hK.out _ _ ⟨q0, q1, q2, q3, q4, q5, q6, kz⟩ (fun hHeld => ?_)
      clear hK K
      try simp only [List.getElem_toArray, List.getElem_cons_succ, List.getElem_cons_zero, Act.put, List.setIfInBounds_toArray, List.set_cons_zero, List.set_cons_succ]
      refine wpAnyH_take (i := 11) (oi := _) (v := ?_) rfl (by kernel_rfl) (by kernel_rfl) (by kernel_rfl) (fun _ _ _ h => h) (Or.inl ⟨by rfl, ?_⟩) (by assumption) ?_
      rotate_left
      · (intro w hSw; (try dsimp only at hSw); go_simp <;> with_reducible rfl)
      try simp only [List.getElem_toArray, List.getElem_cons_succ, List.getElem_cons_zero, Act.put, List.setIfInBounds_toArray, List.set_cons_zero, List.set_cons_succ]
      refine wpAnyH_take (i := 12) (oi := _) (v := ?_) rfl (by kernel_rfl) (by kernel_rfl) (by kernel_rfl) (fun _ _ _ h => h) (Or.inl ⟨by rfl, ?_⟩) (by assumption) ?_
      rotate_left
      · (intro w hSw; (try dsimp only at hSw); go_simp <;> with_reducible rfl)
      try simp only [List.getElem_toArray, List.getElem_cons_succ, List.getElem_cons_zero, Act.put, List.setIfInBounds_toArray, List.set_cons_zero, List.set_cons_succ]
      refine wpAnyH_take (i := 13) (oi := _) (v := ?_) rfl (by kernel_rfl) (by kernel_rfl) (by kernel_rfl) (fun _ _ _ h => h) (Or.inl ⟨by rfl, ?_⟩) (by assumption) ?_
      rotate_left
      · (intro w hSw; (try dsimp only at hSw); go_simp <;> with_reducible rfl)
      try simp only [List.getElem_toArray, List.getElem_cons_succ, List.getElem_cons_zero, Act.put, List.setIfInBounds_toArray, List.set_cons_zero, List.set_cons_succ]
      refine wpAnyH_take (i := 14) (oi := _) (v := ?_) rfl (by kernel_rfl) (by kernel_rfl) (by kernel_rfl) (fun _ _ _ h => h) (Or.inl ⟨by rfl, ?_⟩) (by assumption) ?_
      rotate_left
      · (intro w hSw; (try dsimp only at hSw); go_simp <;> with_reducible rfl)
      try simp only [List.getElem_toArray, List.getElem_cons_succ, List.getElem_cons_zero, Act.put, List.setIfInBounds_toArray, List.set_cons_zero, List.set_cons_succ]
      refine wpAnyH_take (i := 15) (oi := _) (v := ?_) rfl (by kernel_rfl) (by kernel_rfl) (by kernel_rfl) (fun _ _ _ h => h) (Or.inl ⟨by rfl, ?_⟩) (by assumption) ?_
      rotate_left
      · (intro w hSw; (try dsimp only at hSw); go_simp <;> with_reducible rfl)
      try simp only [List.getElem_toArray, List.getElem_cons_succ, List.getElem_cons_zero, Act.put, List.setIfInBounds_toArray, List.set_cons_zero, List.set_cons_succ]
      refine wpAnyH_take (i := 16) (oi := _) (v := ?_) rfl (by kernel_rfl) (by kernel_rfl) (by kernel_rfl) (fun _ _ _ h => h) (Or.inl ⟨by rfl, ?_⟩) (by assumption) ?_
      rotate_left
      · (intro w hSw; (try dsimp only at hSw); go_simp <;> with_reducible rfl)
      try simp only [List.getElem_toArray, List.getElem_cons_succ, List.getElem_cons_zero, Act.put, List.setIfInBounds_toArray, List.set_cons_zero, List.set_cons_succ]
      refine wpAnyH_take (i := 17) (oi := _) (v := ?_) rfl (by kernel_rfl) (by kernel_rfl) (by kernel_rfl) (fun _ _ _ h => h) (Or.inl ⟨by rfl, ?_⟩) (by assumption) ?_
      rotate_left
      · (intro w hSw; (try dsimp only at hSw); go_simp <;> with_reducible rfl)
      try simp only [List.getElem_toArray, List.getElem_cons_succ, List.getElem_cons_zero, Act.put, List.setIfInBounds_toArray, List.set_cons_zero, List.set_cons_succ]
      refine wpAnyH_take (i := 18) (oi := _) (v := ?_) rfl (by kernel_rfl) (by kernel_rfl) (by kernel_rfl) (fun _ _ _ h => h) (Or.inl ⟨by rfl, ?_⟩) (by assumption) ?_
      rotate_left
      · (intro w hSw; (try dsimp only at hSw); go_simp <;> with_reducible rfl)
      try simp only [List.getElem_toArray, List.getElem_cons_succ, List.getElem_cons_zero, Act.put, List.setIfInBounds_toArray, List.set_cons_zero, List.set_cons_succ]
      refine wpAnyH_done (by kernel_rfl) ?_ _
      refine NoPanic.normal ?_
      go_wp2
      go_ret
      refine ⟨ret_bool ?_, HW.out⟩
      exact decide_eq_true (by omega)
    · clear HDD
      have HM := Lib.hid (Boxed.new HD.out)
      have HY := Lib.hid (lies_now HY.out (below_box (h := h) (m := img0)))
      have HW := Lib.hid (HW.out.trans ((below_box (h := h) (m := img0)).mono HW.out.size))
      generalize hg5 : w2.heap.size = g5 at HM ⊢
      clear HD hg5
      generalize w2.alloc (imgO h img0) = w4 at *
      obtain ⟨q0, q1, q2, q3, q4, q5, q6⟩ := HM.out.box
      go_wp2_with (first | (go_at_call 9; (with_reducible refine (imgAwake_any _).mono ?_); rintro e w2 ⟨rfl, hb⟩; have HM := Lib.hid (HM.out.keep hb); have HW := Lib.hid (HW.out.trans (hb.mono HW.out.size)); obtain ⟨q0, q1, q2, q3, q4, q5, q6⟩ := HM.out.box; clear hb) | (go_at_call 15; (with_reducible refine (rsame_zero HM).mono ?_); rintro e w2 ⟨rfl, hb⟩; have HM := Lib.hid (HM.out.keep hb); have HW := Lib.hid (HW.out.trans (hb.mono HW.out.size)); obtain ⟨q0, q1, q2, q3, q4, q5, q6⟩ := HM.out.box; clear hb))
      go_ret
      exact ⟨rfl, HW.out⟩
end Go.Proofs.Ytikljohgdgibnaa
