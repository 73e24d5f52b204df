/-
  The statement on images as bytes (ImageEncodes), walked: it answers true at any image.
-/
import Derived.Test.YtikljohgdgibnaaImgLaws
import Derived.Test.YtikljohgdgibnaaImgWords
import Derived.Deep.Cut
import Derived.Deep.RegionHeld3
namespace Go.Proofs.Ytikljohgdgibnaa
set_option maxRecDepth 100000
open Go.ChangeShapes Go.WideShapes Go.ChangeAt Go.RowKit
set_option linter.unusedVariables false
set_option linter.unusedSimpArgs false

set_option maxHeartbeats 3200000 in
theorem imgEncodes_any (m : Img) (h : Hnd) (w : World) (H : ImgIn w w.heap.size h m) :
    Calls Try.prog 3 #[imgV h m] w fun e w' => e = .returned (.bool true) ∧ Below w.heap.size w w' := by
  have HW := Lib.hid (below_box (w := w) (h := h) (m := m))
  have HM := Lib.hid (Boxed.new H)
  clear H
  go_enter Try.func3, Try.ntmps3
  go_upto_region 1 with fail
  generalize w.alloc (imgO h m) = w1 at *
  obtain ⟨q0, q1, q2, q3, q4, q5, q6⟩ := HM.out.box
  obtain ⟨r, hr⟩ : ∃ r, fitsB m = r := ⟨_, rfl⟩
  cases r
  · have HF := Lib.hid hr
    have HR := Lib.hid (encR_not hr)
    clear hr
    go_wp2_with (first | (go_at_call 8; (with_reducible refine (small_is HM).mono ?_); rintro e w2 ⟨b, rfl, hb⟩; have HM := Lib.hid (HM.out.keep hb); have HW := Lib.hid (HW.out.trans (hb.mono HW.out.size)); obtain ⟨q0, q1, q2, q3, q4, q5, q6⟩ := HM.out.box; clear hb) | (go_at_call 9; (with_reducible refine (imgAwake_any _).mono ?_); rintro e w2 ⟨rfl, hb⟩; have HM := Lib.hid (HM.out.keep hb); have HW := Lib.hid (HW.out.trans (hb.mono HW.out.size)); obtain ⟨q0, q1, q2, q3, q4, q5, q6⟩ := HM.out.box; clear hb) | (go_at_call 10; (with_reducible refine (encode_no HM HR).mono ?_); rintro e w2 ⟨A, c, rfl, hb⟩; have HM := Lib.hid (HM.out.keep hb); have HW := Lib.hid (HW.out.trans (hb.mono HW.out.size)); obtain ⟨q0, q1, q2, q3, q4, q5, q6⟩ := HM.out.box; clear hb) | (go_at_call 11; (with_reducible refine (rfits_is HM HF).mono ?_); rintro e w2 ⟨rfl, hb⟩; have HM := Lib.hid (HM.out.keep hb); have HW := Lib.hid (HW.out.trans (hb.mono HW.out.size)); obtain ⟨q0, q1, q2, q3, q4, q5, q6⟩ := HM.out.box; clear hb) | (go_at_call 12; (with_reducible refine (ifits_is HM HF).mono ?_); rintro e w2 ⟨rfl, hb⟩; have HM := Lib.hid (HM.out.keep hb); have HW := Lib.hid (HW.out.trans (hb.mono HW.out.size)); obtain ⟨q0, q1, q2, q3, q4, q5, q6⟩ := HM.out.box; clear hb))
    all_goals
      go_ret
      exact ⟨rfl, HW.out⟩
  · have HF := Lib.hid hr
    have HOK : Hid (OkImg m) := Lib.hid ⟨hr, img_ok HM.out.img⟩
    obtain ⟨L, hL⟩ : ∃ L, encImg m = L := ⟨_, rfl⟩
    have HP : Hid (0 < L.length) := Lib.hid (by rw [← hL]; have := encImg_pos m; omega)
    have HE := Lib.hid hL
    have hL3 := encImg_len HOK.out
    rw [hL] at hL3
    by_cases hlen : 8192 < L.length
    · have HR := Lib.hid (encR_over hr (by rw [hL]; exact hlen))
      clear hr hL
      go_wp2_with (first | (go_at_call 8; (with_reducible refine (small_is HM).mono ?_); rintro e w2 ⟨b, rfl, hb⟩; have HM := Lib.hid (HM.out.keep hb); have HW := Lib.hid (HW.out.trans (hb.mono HW.out.size)); obtain ⟨q0, q1, q2, q3, q4, q5, q6⟩ := HM.out.box; clear hb) | (go_at_call 9; (with_reducible refine (imgAwake_any _).mono ?_); rintro e w2 ⟨rfl, hb⟩; have HM := Lib.hid (HM.out.keep hb); have HW := Lib.hid (HW.out.trans (hb.mono HW.out.size)); obtain ⟨q0, q1, q2, q3, q4, q5, q6⟩ := HM.out.box; clear hb) | (go_at_call 10; (with_reducible refine (encode_no HM HR).mono ?_); rintro e w2 ⟨A, c, rfl, hb⟩; have HM := Lib.hid (HM.out.keep hb); have HW := Lib.hid (HW.out.trans (hb.mono HW.out.size)); obtain ⟨q0, q1, q2, q3, q4, q5, q6⟩ := HM.out.box; clear hb) | (go_at_call 11; (with_reducible refine (rfits_is HM HF).mono ?_); rintro e w2 ⟨rfl, hb⟩; have HM := Lib.hid (HM.out.keep hb); have HW := Lib.hid (HW.out.trans (hb.mono HW.out.size)); obtain ⟨q0, q1, q2, q3, q4, q5, q6⟩ := HM.out.box; clear hb) | (go_at_call 12; (with_reducible refine (ifits_is HM HF).mono ?_); rintro e w2 ⟨rfl, hb⟩; have HM := Lib.hid (HM.out.keep hb); have HW := Lib.hid (HW.out.trans (hb.mono HW.out.size)); obtain ⟨q0, q1, q2, q3, q4, q5, q6⟩ := HM.out.box; clear hb) | (go_at_call 13; (with_reducible refine (rencode_ok HM HF HE HP).mono ?_); rintro e w2 ⟨g', c', rfl, hl', hb⟩; have HM := Lib.hid (HM.out.keep hb); have HW := Lib.hid (HW.out.trans (hb.mono HW.out.size)); clear hl'; obtain ⟨q0, q1, q2, q3, q4, q5, q6⟩ := HM.out.box; clear hb))
      all_goals
        go_ret
        exact ⟨rfl, HW.out⟩
    · have HR := Lib.hid (encR_ok hr (by rw [hL]; exact hlen))
      rw [hL] at HR
      have HLn := Lib.hid hlen
      clear hr hL
      go_upto_region 10 with (first | (go_at_call 8; (with_reducible refine (small_is HM).mono ?_); rintro e w2 ⟨b, rfl, hb⟩; have HM := Lib.hid (HM.out.keep hb); have HW := Lib.hid (HW.out.trans (hb.mono HW.out.size)); obtain ⟨q0, q1, q2, q3, q4, q5, q6⟩ := HM.out.box; clear hb) | (go_at_call 9; (with_reducible refine (imgAwake_any _).mono ?_); rintro e w2 ⟨rfl, hb⟩; have HM := Lib.hid (HM.out.keep hb); have HW := Lib.hid (HW.out.trans (hb.mono HW.out.size)); obtain ⟨q0, q1, q2, q3, q4, q5, q6⟩ := HM.out.box; clear hb) | (go_at_call 10; (with_reducible refine (encode_ok HM HR HP).mono ?_); rintro e w2 ⟨g, c, rfl, ho, hl, hc, hcm, hb⟩; have HM := Lib.hid (HM.out.keep hb); have HW := Lib.hid (HW.out.trans (hb.mono HW.out.size)); have HL := Lib.hid hl; have HC := Lib.hid (And.intro hc hcm); clear ho hl hc hcm; obtain ⟨q0, q1, q2, q3, q4, q5, q6⟩ := HM.out.box; clear hb) | (go_at_call 11; (with_reducible refine (rfits_is HM HF).mono ?_); rintro e w2 ⟨rfl, hb⟩; have HM := Lib.hid (HM.out.keep hb); have HW := Lib.hid (HW.out.trans (hb.mono HW.out.size)); have HL := Lib.hid (lies_now HL.out hb); obtain ⟨q0, q1, q2, q3, q4, q5, q6⟩ := HM.out.box; clear hb) | (go_at_call 12; (with_reducible refine (ifits_is HM HF).mono ?_); rintro e w2 ⟨rfl, hb⟩; have HM := Lib.hid (HM.out.keep hb); have HW := Lib.hid (HW.out.trans (hb.mono HW.out.size)); have HL := Lib.hid (lies_now HL.out hb); obtain ⟨q0, q1, q2, q3, q4, q5, q6⟩ := HM.out.box; clear hb) | (go_at_call 13; (with_reducible refine (rencode_ok HM HF HE HP).mono ?_); rintro e w2 ⟨g', c', rfl, hl', hb⟩; have HM := Lib.hid (HM.out.keep hb); have HW := Lib.hid (HW.out.trans (hb.mono HW.out.size)); have HL' := Lib.hid hl'; have HL := Lib.hid (lies_now HL.out hb); clear hl'; obtain ⟨q0, q1, q2, q3, q4, q5, q6⟩ := HM.out.box; clear hb) | (go_at_call 14; (with_reducible refine (decode_own HOK HE HLn HC HL).mono ?_); rintro e w2 ⟨h', rfl, hi, hb⟩; have HM := Lib.hid (HM.out.keep hb); have HW := Lib.hid (HW.out.trans (hb.mono HW.out.size)); have HD := Lib.hid hi; clear hi; have HL := Lib.hid (lies_now HL.out hb); have HL' := Lib.hid (lies_now HL'.out hb); obtain ⟨q0, q1, q2, q3, q4, q5, q6⟩ := HM.out.box; clear hb))
      rotate_left
      · clear q0 q1 q2 q3 q4 q5 q6
        have HX := Lib.hid (Boxed.new HD.out)
        have HM := Lib.hid (HM.out.keep (below_box (h := h') (m := m)))
        have HL := Lib.hid (lies_now HL.out (below_box (h := h') (m := m)))
        have HL' := Lib.hid (lies_now HL'.out (below_box (h := h') (m := m)))
        have HW := Lib.hid (HW.out.trans ((below_box (h := h') (m := m)).mono HW.out.size))
        generalize w2.heap.size = g5 at HX ⊢
        clear HD
        generalize w2.alloc (imgO h' m) = w4 at *
        obtain ⟨q0, q1, q2, q3, q4, q5, q6⟩ := HM.out.box
        obtain ⟨p0, p1, p2, p3, p4, p5, p6⟩ := HX.out.box
        have k1 := conv_u8 (cap := c) HL.out
        have k2 := conv_u8 (cap := c') HL'.out
        go_wp2_with (first | (go_at_call 9; (with_reducible refine (imgAwake_any _).mono ?_); rintro e w2 ⟨rfl, hb⟩; have HM := Lib.hid (HM.out.keep hb); have HW := Lib.hid (HW.out.trans (hb.mono HW.out.size)); have HL := Lib.hid (lies_now HL.out hb); have HL' := Lib.hid (lies_now HL'.out hb); have HX := Lib.hid (HX.out.keep hb); have k1 := conv_u8 (cap := c) HL.out; have k2 := conv_u8 (cap := c') HL'.out; obtain ⟨p0, p1, p2, p3, p4, p5, p6⟩ := HX.out.box; obtain ⟨q0, q1, q2, q3, q4, q5, q6⟩ := HM.out.box; clear hb) | (go_at_call 12; (with_reducible refine (ifits_is HM HF).mono ?_); rintro e w2 ⟨rfl, hb⟩; have HM := Lib.hid (HM.out.keep hb); have HW := Lib.hid (HW.out.trans (hb.mono HW.out.size)); have HL := Lib.hid (lies_now HL.out hb); have HL' := Lib.hid (lies_now HL'.out hb); have HX := Lib.hid (HX.out.keep hb); have k1 := conv_u8 (cap := c) HL.out; have k2 := conv_u8 (cap := c') HL'.out; obtain ⟨p0, p1, p2, p3, p4, p5, p6⟩ := HX.out.box; obtain ⟨q0, q1, q2, q3, q4, q5, q6⟩ := HM.out.box; clear hb) | (go_at_call 15; (with_reducible refine (rsame_is HX HM (Lib.hid (decide_eq_true rfl))).mono ?_); rintro e w2 ⟨rfl, hb⟩; have HM := Lib.hid (HM.out.keep hb); have HW := Lib.hid (HW.out.trans (hb.mono HW.out.size)); have HL := Lib.hid (lies_now HL.out hb); have HL' := Lib.hid (lies_now HL'.out hb); have HX := Lib.hid (HX.out.keep hb); have k1 := conv_u8 (cap := c) HL.out; have k2 := conv_u8 (cap := c') HL'.out; obtain ⟨p0, p1, p2, p3, p4, p5, p6⟩ := HX.out.box; obtain ⟨q0, q1, q2, q3, q4, q5, q6⟩ := HM.out.box; clear hb))
        go_ret
        exact ⟨rfl, HW.out⟩
      · go_ret
        exact ⟨rfl, HW.out⟩
end Go.Proofs.Ytikljohgdgibnaa
