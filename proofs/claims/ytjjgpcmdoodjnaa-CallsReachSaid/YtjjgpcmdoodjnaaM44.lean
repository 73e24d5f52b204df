/-
  The statement on who comes to whom (CallsReach), walked: it answers true at any image.
-/
import Derived.Test.YtjjgpcmdoodjnaaM40
import Derived.IntWalk
import Derived.RegionTactic
import Derived.ChangeAlike
import Derived.Deep.RegionHeld3
import Derived.Deep.QuietTactic
import Derived.BigQuiet
namespace Go.Proofs.Ytjjgpcmdoodjnaa
set_option maxRecDepth 100000
set_option linter.unusedVariables false
set_option linter.unusedSimpArgs false
open Go.ChangeShapes Go.WideShapes Go.ChangeAt Go.RowKit
set_option linter.unusedVariables false
set_option linter.unusedSimpArgs false

set_option maxHeartbeats 6400000 in
theorem callsReach_any (m : Img) (h : Hnd) (w : World) (H : ImgIn w w.heap.size h m) :
    Calls Try.prog 4 #[imgV h m] w fun e w' => e = .returned (.bool true) ∧ Below w.heap.size w w' := by
  have HW := Lib.hid (below_box (w := w) (h := h) (m := m))
  have HBX := Lib.hid (img_box w h m)
  have HZ : Hid (w.heap.size < (w.alloc (imgO h m)).heap.size) := Lib.hid (by simp)
  have HI := Lib.hid (H.now HW.out)
  obtain ⟨r, hr⟩ : ∃ r, saneB8 m = r := ⟨_, rfl⟩
  have HR := Lib.hid hr
  have hle := H.methods.le
  have hcap := H.methods.cap
  clear H hr
  go_enter Try.func4, Try.ntmps4
  go_upto_region 1 with fail
  generalize w.alloc (imgO h m) = w1 at *
  obtain ⟨q0, q1, q2, q3, q4, q5, q6⟩ := HBX.out
  have HX : Hid (Below w1.heap.size w1 w1) := Lib.hid (Below.refl _ _)
  cases r
  · go_wp2_with (first | (go_at_call 6; (with_reducible refine (sane11_is HI HX HR).mono ?_); rintro e w7 ⟨rfl, hb⟩; have HX := Lib.hid (HX.out.trans (hb.mono HX.out.size)); clear hb; obtain ⟨q0, q1, q2, q3, q4, q5, q6⟩ := HBX.out.keep HX.out HZ.out) | (go_at_call 7; (with_reducible refine (callsAwake_any _).mono ?_); rintro e w7 ⟨rfl, hb⟩; have HX := Lib.hid (HX.out.trans (hb.mono HX.out.size)); clear hb; obtain ⟨q0, q1, q2, q3, q4, q5, q6⟩ := HBX.out.keep HX.out HZ.out))
    go_ret
    exact ⟨by first | rfl | simp, HW.out.trans (HX.out.mono (Nat.le_of_lt HZ.out))⟩
  have hml := (saneB8_parts HR.out).1
  obtain ⟨n, hn⟩ : ∃ n, m.methods.length = n := ⟨_, rfl⟩
  have HN := Lib.hid hn
  obtain ⟨i1, hi1, hz01, hz11, hz21⟩ := info_partsK info_int
  obtain ⟨EL, hEL⟩ : ∃ EL, edgesOf m = EL := ⟨_, rfl⟩
  have HEL : Hid (edgesOf m = EL ∧ EL.length = n) := Lib.hid ⟨hEL, by rw [← hEL, edges_len]; exact hn⟩
  have HEQ : Hid (edgesOf m = EL) := Lib.hid hEL
  clear hEL
  have HLN : Hid (EL.length = n) := Lib.hid HEL.out.2
  have hnl : n ≤ 12 := by omega
  clear hn
  go_upto_region 4 with (first | (go_at_call 6; (with_reducible refine (sane11_is HI HX HR).mono ?_); rintro e w7 ⟨rfl, hb⟩; have HX := Lib.hid (HX.out.trans (hb.mono HX.out.size)); clear hb; obtain ⟨q0, q1, q2, q3, q4, q5, q6⟩ := HBX.out.keep HX.out HZ.out) | (go_at_call 8; (with_reducible refine (redges_is HI HX HR HEL).mono ?_); rintro e w5 ⟨A5, c5, rfl, hs, hb⟩; have HX := Lib.hid (HX.out.trans (hb.mono HX.out.size)); have HE5 := Lib.hid hs; clear hb hs; obtain ⟨q0, q1, q2, q3, q4, q5, q6⟩ := HBX.out.keep HX.out HZ.out) | (go_at_call 12; (with_reducible refine (rways_is HE5 HLN (by omega)).mono ?_); rintro e w6 ⟨gO, G, W, rfl, hb, hq, hg, hw, hgo, hgg⟩; have HX := Lib.hid (HX.out.trans (hb.mono HX.out.size)); have HQ := Lib.hid hq; have HGL := Lib.hid hg; have HWY := Lib.hid hw; clear hb hq hg hw hgo hgg; obtain ⟨q0, q1, q2, q3, q4, q5, q6⟩ := HBX.out.keep HX.out HZ.out))
  have HY : Hid (Below w6.heap.size w6 w6) := Lib.hid (Below.refl _ _)
  clear q0 q1 q2 q3 q4 q5 q6
  go_wp2_with fail
  go_loopw [4] (fun i wr => ∃ k : Nat, k ≤ n ∧ i = .int .i64 k ∧ Hid (Below w1.heap.size w1 wr) ∧ Hid (Below w6.heap.size w6 wr)) (fun i _ => n - (intOf i).toNat)
  case atStart => exact ⟨0, Nat.zero_le _, rfl, HX, HY⟩
  case round =>
    clear HX HY
    obtain ⟨k, hk, rfl, HX, HY⟩ := hrel
    obtain ⟨q0, q1, q2, q3, q4, q5, q6⟩ := HBX.out.keep HX.out HZ.out
    by_cases hlt : k < n
    · have HKM : Hid (k < m.methods.length) := Lib.hid (by have := HN.out; omega)
      have HRE : Hid (reachOf m (k : Int) = pickTo (reachB m k) n) := Lib.hid (by rw [reach_in HKM.out, HN.out])
      have hsz := HX.out.size
      go_wp2_with fail
      go_loopw [5, 6] (fun l j wi => ∃ (g : Nat) (ys : List Int), g ≤ n ∧ j = .int .i64 g ∧ Hid (ys = pickTo (reachB m k) g) ∧ ys.length ≤ g ∧ Hid (wi.ownsRow wr.heap.size 3 1 l ys.length (ys.map (Value.int .i64))) ∧ Hid (Below wr.heap.size wr wi)) (fun _ j _ => n - (intOf j).toNat)
      case atStart => exact ⟨0, [], Nat.zero_le _, rfl, Lib.hid rfl, Nat.le_refl _, Lib.hid (own_empty wr _), Lib.hid ((Below.refl _ _).alloc (Nat.le_refl _) _)⟩
      case round =>
        clear q0 q1 q2 q3 q4 q5 q6
        obtain ⟨g, ys, hg, rfl, HYS, hyl, HOi, HXi⟩ := hrel
        have hszi := HXi.out.size
        have HX2 := Lib.hid (HX.out.trans (HXi.out.mono hsz))
        have HY2 := Lib.hid (HY.out.trans (HXi.out.mono HY.out.size))
        have HQ2 := Lib.hid (HQ.out.keep HY2.out)
        obtain ⟨q0, q1, q2, q3, q4, q5, q6⟩ := HBX.out.keep HX2.out HZ.out
        by_cases hgl : g < n
        · obtain ⟨gk, hgk⟩ : ∃ x, G[k]? = some x := ⟨_, List.getElem?_eq_getElem (by rw [HGL.out]; exact hlt)⟩
          have e0 := HQ2.out.row_get hgk
          have e1 := HQ2.out.bit_get hgk hgl
          have hwb : wat W k g = true ↔ Way (edgesOf m) n k g := by rw [HEQ.out]; exact HWY.out.iff hlt hgl
          have HYY : Hid (g = k ∨ wat W k g = true → ys ++ [(g : Int)] = pickTo (reachB m k) (g + 1)) := Lib.hid (fun q => by
            rw [pickTo_yes (by unfold reachB; rw [Bool.or_eq_true, decide_eq_true_eq, wayB_iff, HN.out]; exact q.imp id hwb.mp), ← HYS.out])
          have HYN : Hid (¬ g = k → wat W k g = false → ys = pickTo (reachB m k) (g + 1)) := Lib.hid (fun q1 q2 => by
            rw [pickTo_no (by unfold reachB; rw [decide_eq_false q1, Bool.false_or, Bool.eq_false_iff, HN.out]; intro z; rw [hwb.mpr (wayB_iff.mp z)] at q2; cases q2)]; exact HYS.out)
          clear hwb hgk
          by_cases hgk : g = k
          · have hge : ((g : Int) == (k : Int)) = true := beq_iff_eq.mpr (by omega)
            have HYE := Lib.hid (HYY.out (.inl hgk))
            clear hgk
            go_wp2_with (at_builtin; refine append_liesK rfl _ _ 26 rfl _ 3 i1 (.int .i64 0) 1 8 Try.underlying26 hi1 hz01 hz11 hz21 rfl (by decide) _ ys.length (ys.map (Value.int .i64)) rfl (HOi.out.alloc _) (some ⟨wr.heap.size, 0, none⟩) 1 1 _ [.int .i64 (g : Int)] rfl rfl (lies_v1 wr _ _) (one_cellv rfl) (by unfold maxLen; omega) (by omega) (by simp; omega) ?_; intro v6 w9 hown hgrow; have HX6 := Lib.hid (appK_more (HXi.out.alloc HXi.out.size _) (HOi.out.alloc _) (by simp; omega) hgrow); have HO6 := Lib.hid hown; clear hown hgrow)
            go_roundw
            case rel => exact ⟨g + 1, ys ++ [(g : Int)], by omega, by go_num, HYE, by simp; omega, Lib.hid (by simpa using HO6.out), HX6⟩
            case measure => simp [intOf]; omega
          · have hge : ((g : Int) == (k : Int)) = false := beq_eq_false_iff_ne.mpr (by omega)
            obtain ⟨b, hb⟩ : ∃ b, wat W k g = b := ⟨_, rfl⟩
            rw [hb] at e1
            cases b
            · have HYE := Lib.hid (HYN.out hgk hb)
              clear hgk hb
              go_wp2_with fail
              go_roundw
              case rel => exact ⟨g + 1, ys, by omega, by go_num, HYE, by omega, HOi, HXi⟩
              case measure => simp [intOf]; omega
            · have HYE := Lib.hid (HYY.out (.inr hb))
              clear hgk hb
              go_wp2_with (at_builtin; refine append_liesK rfl _ _ 26 rfl _ 3 i1 (.int .i64 0) 1 8 Try.underlying26 hi1 hz01 hz11 hz21 rfl (by decide) _ ys.length (ys.map (Value.int .i64)) rfl (HOi.out.alloc _) (some ⟨wr.heap.size, 0, none⟩) 1 1 _ [.int .i64 (g : Int)] rfl rfl (lies_v1 wr _ _) (one_cellv rfl) (by unfold maxLen; omega) (by omega) (by simp; omega) ?_; intro v6 w9 hown hgrow; have HX6 := Lib.hid (appK_more (HXi.out.alloc HXi.out.size _) (HOi.out.alloc _) (by simp; omega) hgrow); have HO6 := Lib.hid hown; clear hown hgrow)
              go_roundw
              case rel => exact ⟨g + 1, ys ++ [(g : Int)], by omega, by go_num, HYE, by simp; omega, Lib.hid (by simpa using HO6.out), HX6⟩
              case measure => simp [intOf]; omega
        · have hgi : ¬ (g : Int) < (n : Int) := by omega
          obtain ⟨Al, cl, rfl, hll, hl1, hl2⟩ := own_ints HOi.out
          have HSL : Hid (SlcIs IntAt 1 wr wr.heap.size Al cl ys) := Lib.hid ⟨hl1, hl2, fun i z hi => by
            obtain ⟨ad, e, hb, hc⟩ := hll i (.int .i64 z) (by rw [List.getElem?_map, hi]; rfl)
            exact ⟨ad, e, hb, by rw [Nat.mul_one]; exact hc⟩⟩
          have HYE : Hid (reachOf m (k : Int) = ys) := Lib.hid (by rw [HRE.out, HYS.out, show g = n by omega])
          clear HX HY HOi hll hl1 hl2
          have HX := HX2
          have HY := HY2
          go_wp2_with (first
            | (go_at_call 11; (with_reducible refine (creach_is HI HX HR HYE (Lib.hid rfl)).mono ?_); rintro e w8 ⟨A8, c8, rfl, hs, hb⟩; have HX := Lib.hid (HX.out.trans (hb.mono HX.out.size)); have HY := Lib.hid (HY.out.trans (hb.mono HY.out.size)); have HS8 := Lib.hid hs; have HSL := Lib.hid (cslcUp IntAt.keeps HSL.out hb); clear hb hs)
            | (go_at_call 9; (with_reducible refine (cints_same HS8 HSL (Lib.hid ⟨rfl, rfl⟩)).mono ?_); rintro e w9 ⟨rfl, hb⟩; have HX := Lib.hid (HX.out.trans (hb.mono HX.out.size)); have HY := Lib.hid (HY.out.trans (hb.mono HY.out.size)); clear hb))
          go_roundw
          case rel => exact ⟨k + 1, by omega, by go_num, HX, HY⟩
          case measure => simp [intOf]; omega
    · have hki : ¬ (k : Int) < (n : Int) := by omega
      go_wp2_with (first | (go_at_call 7; (with_reducible refine (callsAwake_any _).mono ?_); rintro e w7 ⟨rfl, hb⟩; have HX := Lib.hid (HX.out.trans (hb.mono HX.out.size)); clear hb; obtain ⟨q0, q1, q2, q3, q4, q5, q6⟩ := HBX.out.keep HX.out HZ.out))
      go_ret
      exact ⟨by first | rfl | simp, HW.out.trans (HX.out.mono (Nat.le_of_lt HZ.out))⟩
end Go.Proofs.Ytjjgpcmdoodjnaa
