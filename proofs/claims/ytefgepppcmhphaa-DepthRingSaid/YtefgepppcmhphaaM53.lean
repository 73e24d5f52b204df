/-
  The statement that methods that call one another take as much (DepthRing), walked: it answers true at any image.
-/
import Derived.Test.YtefgepppcmhphaaM50
import Derived.IntWalk
import Derived.RegionTactic
import Derived.ChangeAlike
import Derived.Deep.RegionHeld3
import Derived.Deep.QuietTactic
import Derived.BigQuiet
namespace Go.Proofs.Ytefgepppcmhphaa
set_option maxRecDepth 100000
set_option linter.unusedVariables false
set_option linter.unusedSimpArgs false
open Go.ChangeShapes Go.WideShapes Go.ChangeAt Go.RowKit
set_option linter.unusedVariables false
set_option linter.unusedSimpArgs false

set_option maxHeartbeats 12800000 in
theorem depthRing_any (m : Img) (h : Hnd) (w : World) (H : ImgIn w w.heap.size h m) :
    Calls Try.prog 5 #[imgV h m] w fun e w' => e = .returned (.bool true) ∧ Below w.heap.size w w' := by
  have HW := Lib.hid (below_box (w := w) (h := h) (m := m))
  have HBX := Lib.hid (img_box w h m)
  have HZ : Hid (w.heap.size < (w.alloc (imgO h m)).heap.size) := Lib.hid (by simp)
  have HI := Lib.hid (H.now HW.out)
  obtain ⟨r, hr⟩ : ∃ r, saneB8 m = r := ⟨_, rfl⟩
  have HR := Lib.hid hr
  have hle := H.methods.le
  have hcap := H.methods.cap
  clear H hr
  go_enter Try.func5, Try.ntmps5
  go_upto_region 1 with fail
  generalize w.alloc (imgO h m) = w1 at *
  obtain ⟨q0, q1, q2, q3, q4, q5, q6⟩ := HBX.out
  have HX : Hid (Below w1.heap.size w1 w1) := Lib.hid (Below.refl _ _)
  cases r
  · go_wp2_with (first | (go_at_call 6; (with_reducible refine (sane13_is HI HX HR).mono ?_); rintro e w7 ⟨rfl, hb⟩; have HX := Lib.hid (HX.out.trans (hb.mono HX.out.size)); clear hb; obtain ⟨q0, q1, q2, q3, q4, q5, q6⟩ := HBX.out.keep HX.out HZ.out) | (go_at_call 7; (with_reducible refine (depthAwake_any _).mono ?_); rintro e w7 ⟨rfl, hb⟩; have HX := Lib.hid (HX.out.trans (hb.mono HX.out.size)); clear hb; obtain ⟨q0, q1, q2, q3, q4, q5, q6⟩ := HBX.out.keep HX.out HZ.out))
    go_ret
    exact ⟨by first | rfl | simp, HW.out.trans (HX.out.mono (Nat.le_of_lt HZ.out))⟩
  have HM := Lib.hid (saneB8_yes HR.out)
  have hml := (saneB8_parts HR.out).1
  go_upto_region 4 with (first | (go_at_call 6; (with_reducible refine (sane13_is HI HX HR).mono ?_); rintro e w7 ⟨rfl, hb⟩; have HX := Lib.hid (HX.out.trans (hb.mono HX.out.size)); clear hb; obtain ⟨q0, q1, q2, q3, q4, q5, q6⟩ := HBX.out.keep HX.out HZ.out) | (go_at_call 8; (with_reducible refine (rall13_is HI HX HM).mono ?_); rintro e w7 ⟨Al, nl, cl, bd, rfl, hb, hyes⟩; have HX := Lib.hid (HX.out.trans (hb.mono HX.out.size)); have HYES := Lib.hid hyes; clear hyes; clear hb; obtain ⟨q0, q1, q2, q3, q4, q5, q6⟩ := HBX.out.keep HX.out HZ.out))
  by_cases hbd : bd < 0
  rotate_left
  · have hge : bd ≥ 0 := by omega
    go_wp2_with (first | (go_at_call 7; (with_reducible refine (depthAwake_any _).mono ?_); rintro e w7 ⟨rfl, hb⟩; have HX := Lib.hid (HX.out.trans (hb.mono HX.out.size)); clear hb; obtain ⟨q0, q1, q2, q3, q4, q5, q6⟩ := HBX.out.keep HX.out HZ.out))
    go_ret
    exact ⟨by first | rfl | simp, HW.out.trans (HX.out.mono (Nat.le_of_lt HZ.out))⟩
  have hge : ¬ bd ≥ 0 := by omega
  obtain ⟨l, hnl, hls⟩ := HYES.out hbd
  have HL := Lib.hid hls
  subst hnl
  clear HYES hls hbd
  obtain ⟨rb, hrb⟩ : ∃ r, ringsB m = r := ⟨_, rfl⟩
  have HRB := Lib.hid hrb
  clear hrb
  obtain ⟨BO, hBO⟩ : ∃ B, boundsOf m l = B := ⟨_, rfl⟩
  have HBO := Lib.hid hBO
  have HBL : Hid (BO.length = m.methods.length) := Lib.hid (by rw [← hBO]; exact bounds_len m l)
  clear hBO
  cases rb
  · go_wp2_with (first | (go_at_call 9; (with_reducible refine (dbound_no HI HX HR HL HRB).mono ?_); rintro e w8 ⟨A8, c8, rfl, hb⟩; have HX := Lib.hid (HX.out.trans (hb.mono HX.out.size)); have HL := Lib.hid (HL.out.up hb); clear hb; obtain ⟨q0, q1, q2, q3, q4, q5, q6⟩ := HBX.out.keep HX.out HZ.out) | (go_at_call 7; (with_reducible refine (depthAwake_any _).mono ?_); rintro e w7 ⟨rfl, hb⟩; have HX := Lib.hid (HX.out.trans (hb.mono HX.out.size)); clear hb; obtain ⟨q0, q1, q2, q3, q4, q5, q6⟩ := HBX.out.keep HX.out HZ.out))
    go_ret
    exact ⟨by first | rfl | simp, HW.out.trans (HX.out.mono (Nat.le_of_lt HZ.out))⟩
  obtain ⟨EL, hEL⟩ : ∃ EL, edgesOf m = EL := ⟨_, rfl⟩
  have HEQ := Lib.hid hEL
  have HEL : Hid (edgesOf m = EL ∧ EL.length = m.methods.length) := Lib.hid ⟨hEL, by rw [← hEL, edges_len]⟩
  have HELN : Hid (EL.length = m.methods.length) := Lib.hid HEL.out.2
  clear hEL
  go_upto_region 12 with (first | (go_at_call 9; (with_reducible refine (dbound_yes HI HX HR HL HRB HBO).mono ?_); rintro e w8 ⟨A8, c8, rfl, hb, hs⟩; have HX := Lib.hid (HX.out.trans (hb.mono HX.out.size)); have HL := Lib.hid (HL.out.up hb); have HA := Lib.hid hs; clear hs; clear hb; obtain ⟨q0, q1, q2, q3, q4, q5, q6⟩ := HBX.out.keep HX.out HZ.out) | (go_at_call 15; (with_reducible refine (redges_is HI HX HR HEL).mono ?_); rintro e w10 ⟨A5, c5, rfl, hs, hb⟩; have HX := Lib.hid (HX.out.trans (hb.mono HX.out.size)); have HE5 := Lib.hid hs; clear hs; have HL := Lib.hid (HL.out.up hb); have HA := Lib.hid (cslcUp IntAt.keeps HA.out hb); clear hb; obtain ⟨q0, q1, q2, q3, q4, q5, q6⟩ := HBX.out.keep HX.out HZ.out) | (go_at_call 14; (with_reducible refine (rways_is HE5 HELN (by omega)).mono ?_); rintro e w11 ⟨gO, G, W, rfl, hb, hq, hg, hw, hgo, hgg⟩; have HX := Lib.hid (HX.out.trans (hb.mono HX.out.size)); have HQ := Lib.hid hq; have HGL := Lib.hid hg; have HWY := Lib.hid hw; clear hq hg hw hgo hgg; have HL := Lib.hid (HL.out.up hb); have HA := Lib.hid (cslcUp IntAt.keeps HA.out hb); clear hb; obtain ⟨q0, q1, q2, q3, q4, q5, q6⟩ := HBX.out.keep HX.out HZ.out))
  have HWB : Hid (∀ i j : Nat, i < m.methods.length → j < m.methods.length → wat W i j = wayB EL m.methods.length i j) := Lib.hid (fun i j hi hj => by
    have h1 := HWY.out.iff hi hj
    rw [← wayB_iff] at h1
    exact Bool.eq_iff_iff.mpr h1)
  have HED : Hid (EdgesIn EL m.methods.length) := Lib.hid (by rw [← HEQ.out]; exact edges_in m)
  have HBF : Hid (∀ k : Nat, k < m.methods.length → BO[k]? = some (boundF EL m.methods.length (costOf m l) k)) := Lib.hid (fun k hk => by rw [bo_at HBO.out hk, HEQ.out])
  have hal := HA.out.le
  have hac := HA.out.cap
  rw [HBL.out] at hal
  have HY : Hid (Below w11.heap.size w11 w11) := Lib.hid (Below.refl _ _)
  clear q0 q1 q2 q3 q4 q5 q6
  go_wp2_with fail
  go_loopw [8] (fun i wr => ∃ k : Nat, k ≤ m.methods.length ∧ i = .int .i64 k ∧ Hid (Below w1.heap.size w1 wr) ∧ Hid (Below w11.heap.size w11 wr)) (fun i _ => m.methods.length - (intOf i).toNat)
  case atStart => exact ⟨0, Nat.zero_le _, rfl, HX, HY⟩
  case round =>
    clear HX HY
    obtain ⟨k, hk, rfl, HX, HY⟩ := hrel
    obtain ⟨q0, q1, q2, q3, q4, q5, q6⟩ := HBX.out.keep HX.out HZ.out
    by_cases hkm : k < m.methods.length
    rotate_left
    · have hki : ¬ (k : Int) < (m.methods.length : Int) := by omega
      go_wp2_with (first | (go_at_call 7; (with_reducible refine (depthAwake_any _).mono ?_); rintro e w7 ⟨rfl, hb⟩; have HX := Lib.hid (HX.out.trans (hb.mono HX.out.size)); clear hb; obtain ⟨q0, q1, q2, q3, q4, q5, q6⟩ := HBX.out.keep HX.out HZ.out))
      go_ret
      exact ⟨by first | rfl | simp, HW.out.trans (HX.out.mono (Nat.le_of_lt HZ.out))⟩
    have hkB : k < BO.length := by rw [HBL.out]; exact hkm
    obtain ⟨adA, eA, habA, a0⟩ := HA.out.row.at_ hkB
    have hva : BO[k] = boundF EL m.methods.length (costOf m l) k := by have := HBF.out k hkm; rw [List.getElem?_eq_getElem hkB] at this; exact Option.some.inj this
    have a0 : w11.cell? (adA.add k) = some (.int .i64 BO[k]) := by have := a0; rw [Nat.mul_one] at this; exact this
    obtain ⟨va, hv⟩ : ∃ v, BO[k] = v := ⟨_, rfl⟩
    rw [hv] at a0 hva
    have HVA := Lib.hid hva
    have HKM := Lib.hid hkm
    have HA0 := Lib.hid a0
    obtain ⟨gk, hgk⟩ : ∃ z, G[k]? = some z := ⟨_, List.getElem?_eq_getElem (by rw [HGL.out]; exact hkm)⟩
    have HGK := Lib.hid hgk
    subst eA
    clear hv hva a0 hgk q0 q1 q2 q3 q4 q5 q6
    go_wp2_with fail
    go_loopw [9] (fun i wr => ∃ g : Nat, g ≤ m.methods.length ∧ i = .int .i64 g ∧ Hid (Below w1.heap.size w1 wr) ∧ Hid (Below w11.heap.size w11 wr)) (fun i _ => m.methods.length - (intOf i).toNat)
    case atStart => exact ⟨0, Nat.zero_le _, rfl, HX, HY⟩
    case round =>
      clear HX HY
      obtain ⟨g, hg, rfl, HX, HY⟩ := hrel
      by_cases hgm : g < m.methods.length
      rotate_left
      · have hgi : ¬ (g : Int) < (m.methods.length : Int) := by omega
        go_wp2_with fail
        go_roundw
        case rel => exact ⟨k + 1, by omega, by go_num, HX, HY⟩
        case measure => simp [intOf]; omega
      have hgB : g < BO.length := by rw [HBL.out]; exact hgm
      obtain ⟨adA', eA, _, b0⟩ := HA.out.row.at_ hgB
      obtain rfl : adA = adA' := by injection eA
      have hvb : BO[g] = boundF EL m.methods.length (costOf m l) g := by have := HBF.out g hgm; rw [List.getElem?_eq_getElem hgB] at this; exact Option.some.inj this
      have b0 : w11.cell? (adA.add g) = some (.int .i64 BO[g]) := by have := b0; rw [Nat.mul_one] at this; exact this
      obtain ⟨vb, hv⟩ : ∃ v, BO[g] = v := ⟨_, rfl⟩
      rw [hv] at b0 hvb
      obtain ⟨gg, hgg⟩ : ∃ z, G[g]? = some z := ⟨_, List.getElem?_eq_getElem (by rw [HGL.out]; exact hgm)⟩
      have HQr := HQ.out.keep HY.out
      have e1 := HQr.row_get HGK.out
      have e2 := HQr.bit_get HGK.out hgm
      have e3 := HQr.row_get hgg
      have e4 := HQr.bit_get hgg HKM.out
      rw [HWB.out k g HKM.out hgm] at e2
      rw [HWB.out g k hgm HKM.out] at e4
      have a0 := (HY.out.cell (p := adA.add k) (by rw [addr_add_block]; exact habA)).trans HA0.out
      have b0 := (HY.out.cell (p := adA.add g) (by rw [addr_add_block]; exact habA)).trans b0
      obtain ⟨b1, hb1⟩ : ∃ b, wayB EL m.methods.length k g = b := ⟨_, rfl⟩
      obtain ⟨b2, hb2⟩ : ∃ b, wayB EL m.methods.length g k = b := ⟨_, rfl⟩
      rw [hb1] at e2
      rw [hb2] at e4
      have hw : b1 = true → vb ≤ va := fun e => by rw [hvb, HVA.out]; exact bound_way HED.out (cost_low HM.out) HKM.out (wayB_iff.mp (by rw [hb1, e]))
      have hq : b1 = true → b2 = true → va = vb := fun e e' => by rw [hvb, HVA.out]; exact bound_ring HED.out HKM.out hgm (wayB_iff.mp (by rw [hb1, e])) (wayB_iff.mp (by rw [hb2, e']))
      clear hv hvb hb1 hb2 hgg HQr
      cases b1
      · clear hw hq
        go_wp2_with fail
        go_quiet (fail)
        go_wp2_with fail
        go_roundw
        case rel => exact ⟨g + 1, by omega, by go_num, Lib.hid (HX.out.trans ⟨rfl, rfl, rfl, Nat.le_refl _, fun _ _ => rfl⟩), Lib.hid (HY.out.trans ⟨rfl, rfl, rfl, Nat.le_refl _, fun _ _ => rfl⟩)⟩
        case measure => simp [intOf]; omega
      have hle2 := hw rfl
      have hd : decide (va < vb) = false := decide_eq_false (by omega)
      cases b2
      · clear hw hq
        go_wp2_with fail
        go_quiet (fail)
        go_wp2_with fail
        go_roundw
        case rel => exact ⟨g + 1, by omega, by go_num, Lib.hid (HX.out.trans ⟨rfl, rfl, rfl, Nat.le_refl _, fun _ _ => rfl⟩), Lib.hid (HY.out.trans ⟨rfl, rfl, rfl, Nat.le_refl _, fun _ _ => rfl⟩)⟩
        case measure => simp [intOf]; omega
      · have hvv := hq rfl rfl
        subst hvv
        clear hw hq
        go_wp2_with fail
        go_quiet (fail)
        go_wp2_with fail
        go_roundw
        case rel => exact ⟨g + 1, by omega, by go_num, Lib.hid (HX.out.trans ⟨rfl, rfl, rfl, Nat.le_refl _, fun _ _ => rfl⟩), Lib.hid (HY.out.trans ⟨rfl, rfl, rfl, Nat.le_refl _, fun _ _ => rfl⟩)⟩
        case measure => simp [intOf]; omega
end Go.Proofs.Ytefgepppcmhphaa
