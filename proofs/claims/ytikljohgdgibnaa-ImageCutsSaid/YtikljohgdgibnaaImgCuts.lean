/-
  The statement on images' bytes that are cut off or added to (ImageCuts), walked: it answers true.
-/
import Derived.Test.YtikljohgdgibnaaImgLaws
import Derived.Test.YtikljohgdgibnaaImgWords
import Derived.Deep.Cut
import Derived.Deep.RegionHeld3
namespace Go.Proofs.Ytikljohgdgibnaa
set_option maxRecDepth 100000
open Go.ChangeShapes Go.WideShapes Go.ChangeAt Go.RowKit
set_option linter.unusedVariables false
set_option linter.unusedSimpArgs false

/-- Bytes cut off, decoded. -/
theorem decode_cut {w : World} {M : Img} {L : List Int} {g c k : Nat} (HM : Hid (OkImg M)) (HE : Hid (encImg M = L)) (HL : Hid (¬ 8192 < L.length)) (HK : Hid (k < L.length)) (HC : Hid (L.length ≤ c ∧ c ≤ 9223372036854775807)) (HLi : Hid (Lies w w.heap.size (some ⟨g, 0, none⟩) (L.map (Value.int .u8)))) :
    Calls Try.prog 14 #[.slice (some ⟨g, 0, none⟩) k c] w (DecNo w) := by
  have hk : (L.take k).length = k := by rw [List.length_take]; exact Nat.min_eq_left (Nat.le_of_lt HK.out)
  have hl := HLi.out.take_ k
  rw [← List.map_take] at hl
  have H := idecode_any (L.take k) (some ⟨g, 0, none⟩) c w.heap.size w (by rw [hk]; have := HL.out; have := HK.out; omega) (by rw [hk]; have := HK.out; have := HC.out; omega) HC.out.2 (fun b hb => encImg_range M b (by rw [HE.out]; exact List.mem_of_mem_take hb)) (fun h => by cases h) (Nat.le_refl _) hl
  rw [hk] at H
  refine H.mono ?_
  rintro e w' ⟨h, m, er, rfl, hi, hb, hd⟩
  rw [← HE.out] at hd
  obtain rfl := dec_cut HM.out (by rw [HE.out]; exact HK.out) (img_ok hi) hd
  exact ⟨h, m, rfl, hi, hb⟩
/-- Bytes with more behind them, decoded. -/
theorem decode_more {w : World} {M : Img} {L Z X : List Int} {g c : Nat} (HM : Hid (OkImg M)) (HE : Hid (encImg M = L)) (HZ : Hid (0 < Z.length)) (HX : Hid (L ++ Z = X)) (HXl : Hid (X.length ≤ 100000)) (HR : Hid (∀ b ∈ Z, 0 ≤ b ∧ b ≤ 255)) (HC : Hid (X.length ≤ c ∧ c ≤ 9223372036854775807)) (HLi : Hid (Lies w w.heap.size (some ⟨g, 0, none⟩) (X.map (Value.int .u8)))) :
    Calls Try.prog 14 #[.slice (some ⟨g, 0, none⟩) X.length c] w (DecNo w) := by
  refine (idecode_any X (some ⟨g, 0, none⟩) c w.heap.size w (by have := HXl.out; omega) HC.out.1 HC.out.2 (fun b hb => by
    rw [← HX.out] at hb
    rcases List.mem_append.mp hb with g | g
    · exact encImg_range M b (by rw [HE.out]; exact g)
    · exact HR.out b g) (fun h => by cases h) (Nat.le_refl _) HLi.out).mono ?_
  rintro e w' ⟨h, m, er, rfl, hi, hb, hd⟩
  rw [← HX.out, ← HE.out] at hd
  obtain rfl := dec_more HM.out HZ.out (img_ok hi) hd
  exact ⟨h, m, rfl, hi, hb⟩

set_option maxHeartbeats 3200000 in
theorem imgCuts_any (m : Img) (h : Hnd) (a : Int) (z : List Int) (A : Option Addr) (cap : Nat) (w : World) (h0 : 0 ≤ a) (h1 : a ≤ 65535) (hz : z.length ≤ cap) (hcap : cap ≤ 9223372036854775807) (hA : A = none → cap = 0) (hr : ∀ b ∈ z, 0 ≤ b ∧ b ≤ 255)
    (hL : Lies w w.heap.size A (z.map (Value.int .u8))) (H : ImgIn w w.heap.size h m) :
    Calls Try.prog 7 #[imgV h m, .int .u16 a, .slice A z.length cap] w fun e w' => e = .returned (.bool true) ∧ Below w.heap.size w w' := by
  have HZ := Lib.hid (lies_now hL (below_box (h := h) (m := m)))
  have HZR := Lib.hid hr
  have HA := Lib.hid hA
  clear hL hr hA
  have HW := Lib.hid (below_box (w := w) (h := h) (m := m))
  have HM := Lib.hid (Boxed.new H)
  clear H
  go_enter Try.func7, Try.ntmps7
  go_upto_region 1 with fail
  generalize w.alloc (imgO h m) = w1 at *
  obtain ⟨q0, q1, q2, q3, q4, q5, q6⟩ := HM.out.box
  obtain ⟨i0, hi, hz0, hz1, hz2⟩ := info_parts info_u8
  by_cases h50 : 50 < z.length
  · go_wp2_with (first | (go_at_call 8; (with_reducible refine (small_is HM).mono ?_); rintro e w2 ⟨b, rfl, hb⟩; have HM := Lib.hid (HM.out.keep hb); have HW := Lib.hid (HW.out.trans (hb.mono HW.out.size)); obtain ⟨q0, q1, q2, q3, q4, q5, q6⟩ := HM.out.box; clear hb) | (go_at_call 9; (with_reducible refine (imgAwake_any _).mono ?_); rintro e w2 ⟨rfl, hb⟩; have HM := Lib.hid (HM.out.keep hb); have HW := Lib.hid (HW.out.trans (hb.mono HW.out.size)); obtain ⟨q0, q1, q2, q3, q4, q5, q6⟩ := HM.out.box; clear hb))
    all_goals
      go_ret
      exact ⟨rfl, HW.out⟩
  · obtain ⟨r, hr⟩ : ∃ r, fitsB m = r := ⟨_, rfl⟩
    cases r
    · have HR := Lib.hid (encR_not hr)
      clear hr
      go_wp2_with (first | (go_at_call 8; (with_reducible refine (small_is HM).mono ?_); rintro e w2 ⟨b, rfl, hb⟩; have HM := Lib.hid (HM.out.keep hb); have HW := Lib.hid (HW.out.trans (hb.mono HW.out.size)); obtain ⟨q0, q1, q2, q3, q4, q5, q6⟩ := HM.out.box; clear hb) | (go_at_call 9; (with_reducible refine (imgAwake_any _).mono ?_); rintro e w2 ⟨rfl, hb⟩; have HM := Lib.hid (HM.out.keep hb); have HW := Lib.hid (HW.out.trans (hb.mono HW.out.size)); obtain ⟨q0, q1, q2, q3, q4, q5, q6⟩ := HM.out.box; clear hb) | (go_at_call 10; (with_reducible refine (encode_no HM HR).mono ?_); rintro e w2 ⟨A, c, rfl, hb⟩; have HM := Lib.hid (HM.out.keep hb); have HW := Lib.hid (HW.out.trans (hb.mono HW.out.size)); obtain ⟨q0, q1, q2, q3, q4, q5, q6⟩ := HM.out.box; clear hb))
      all_goals
        go_ret
        exact ⟨rfl, HW.out⟩
    · obtain ⟨L, hL⟩ : ∃ L, encImg m = L := ⟨_, rfl⟩
      by_cases hlen : 8192 < L.length
      · have HR := Lib.hid (encR_over hr (by rw [hL]; exact hlen))
        clear hr hL
        go_wp2_with (first | (go_at_call 8; (with_reducible refine (small_is HM).mono ?_); rintro e w2 ⟨b, rfl, hb⟩; have HM := Lib.hid (HM.out.keep hb); have HW := Lib.hid (HW.out.trans (hb.mono HW.out.size)); obtain ⟨q0, q1, q2, q3, q4, q5, q6⟩ := HM.out.box; clear hb) | (go_at_call 9; (with_reducible refine (imgAwake_any _).mono ?_); rintro e w2 ⟨rfl, hb⟩; have HM := Lib.hid (HM.out.keep hb); have HW := Lib.hid (HW.out.trans (hb.mono HW.out.size)); obtain ⟨q0, q1, q2, q3, q4, q5, q6⟩ := HM.out.box; clear hb) | (go_at_call 10; (with_reducible refine (encode_no HM HR).mono ?_); rintro e w2 ⟨A, c, rfl, hb⟩; have HM := Lib.hid (HM.out.keep hb); have HW := Lib.hid (HW.out.trans (hb.mono HW.out.size)); obtain ⟨q0, q1, q2, q3, q4, q5, q6⟩ := HM.out.box; clear hb))
        all_goals
          go_ret
          exact ⟨rfl, HW.out⟩
      · have HOK : Hid (OkImg m) := Lib.hid ⟨hr, img_ok HM.out.img⟩
        have hLp : 0 < L.length := by rw [← hL]; have := encImg_pos m; omega
        have HP := Lib.hid hLp
        have HE := Lib.hid hL
        have HR := Lib.hid (encR_ok hr (by rw [hL]; exact hlen))
        rw [hL] at HR
        have HLn := Lib.hid hlen
        clear hr hL
        go_upto_region 6 with (first | (go_at_call 8; (with_reducible refine (small_is HM).mono ?_); rintro e w2 ⟨b, rfl, hb⟩; have HM := Lib.hid (HM.out.keep hb); have HW := Lib.hid (HW.out.trans (hb.mono HW.out.size)); have HZ := Lib.hid (lies_now HZ.out hb); obtain ⟨q0, q1, q2, q3, q4, q5, q6⟩ := HM.out.box; clear hb) | (go_at_call 9; (with_reducible refine (imgAwake_any _).mono ?_); rintro e w2 ⟨rfl, hb⟩; have HM := Lib.hid (HM.out.keep hb); have HW := Lib.hid (HW.out.trans (hb.mono HW.out.size)); obtain ⟨q0, q1, q2, q3, q4, q5, q6⟩ := HM.out.box; clear hb) | (go_at_call 10; (with_reducible refine (encode_ok HM HR HP).mono ?_); rintro e w2 ⟨g, c, rfl, ho, hl, hc, hcm, hb⟩; have HM := Lib.hid (HM.out.keep hb); have HW := Lib.hid (HW.out.trans (hb.mono HW.out.size)); have HL := Lib.hid hl; have HC := Lib.hid (And.intro hc hcm); clear ho hl hc hcm; have HZ := Lib.hid (lies_now HZ.out hb); obtain ⟨q0, q1, q2, q3, q4, q5, q6⟩ := HM.out.box; clear hb))
        all_goals (try (go_ret; exact ⟨rfl, HW.out⟩))
        obtain ⟨k, hk⟩ : ∃ k, a.toNat % L.length = k := ⟨_, rfl⟩
        have hklt : k < L.length := by rw [← hk]; exact Nat.mod_lt _ hLp
        have HK := Lib.hid hklt
        have e1 : a % (L.length : Int) = (k : Int) := by rw [← hk, Int.natCast_emod, Int.toNat_of_nonneg h0]
        have e2 : a.tmod (L.length : Int) = (k : Int) := by rw [Int.tmod_eq_emod_of_nonneg h0]; exact e1
        have e3 : a.tmod 0 = a := by simp
        have e4 : ((L.length : Int) == 0) = false := beq_eq_false_iff_ne.mpr (by omega)
        have hkc : k ≤ c := by have := HC.out; omega
        have hcm : c ≤ 9223372036854775807 := HC.out.2
        clear hk
        obtain ⟨X, hX⟩ : ∃ X, L ++ z = X := ⟨_, rfl⟩
        have hXl : X.length ≤ 100000 := by rw [← hX, List.length_append]; omega
        have hXp : 0 < X.length := by rw [← hX, List.length_append]; omega
        have HX := Lib.hid hX
        have HXl := Lib.hid hXl
        go_upto_region 7 with ((go_at_call 14; (with_reducible refine (decode_cut HOK HE HLn HK HC HL).mono ?_); rintro e w2 ⟨h', m', rfl, hi', hb⟩; have HM := Lib.hid (HM.out.keep hb); have HW := Lib.hid (HW.out.trans (hb.mono HW.out.size)); have HD := Lib.hid hi'; have HZ := Lib.hid (lies_now HZ.out hb); have HL := Lib.hid (lies_now HL.out hb); clear hi'; obtain ⟨q0, q1, q2, q3, q4, q5, q6⟩ := HM.out.box; clear hb))
        have HM := Lib.hid (HM.out.keep (below_box (h := h') (m := m')))
        have HZ := Lib.hid (lies_now HZ.out (below_box (h := h') (m := m')))
        have HL := Lib.hid (lies_now HL.out (below_box (h := h') (m := m')))
        have HW := Lib.hid (HW.out.trans ((below_box (h := h') (m := m')).mono HW.out.size))
        generalize hg5 : w2.heap.size = g5 at HD ⊢
        clear HD q0 q1 q2 q3 q4 q5 q6 hg5
        generalize w2.alloc (imgO h' m') = w4 at *
        obtain ⟨q0, q1, q2, q3, q4, q5, q6⟩ := HM.out.box
        have HOa := Lib.hid (own_empty w4 5)
        have HBa : Hid (Below w4.heap.size w4 (w4.alloc (.cells #[] 5))) := Lib.hid ((Below.refl _ _).alloc (Nat.le_refl _) _)
        have hLm : L.length ≤ 8192 := by omega
        have HWa := Lib.hid (HW.out.trans (HBa.out.mono HW.out.size))
        have hX' := congrArg List.length hX
        rw [List.length_append] at hX'
        by_cases hz0' : z.length = 0
        · have hzz : z = [] := List.eq_nil_of_length_eq_zero hz0'
          have HE' : Hid (encImg m = X) := Lib.hid (by rw [HE.out, ← hX, hzz, List.append_nil])
          have HLn' : Hid (¬ 8192 < X.length) := Lib.hid (by omega)
          have t1 : ¬ 0 < z.length := by omega
          have HXL := Lib.hid hX'
          clear hzz hX hX' hz0'
          go_upto_region 8 with (first | (at_builtin; refine append_lies rfl _ _ 31 rfl w4.heap.size 5 i0 (.int .u8 0) 1 Try.underlying31 hi hz0 hz1 hz2 rfl _ _ _ rfl HOa.out (some ⟨g, 0, none⟩) _ c _ (L.map (Value.int .u8)) (by simp) rfl (fun h => by cases h) (lies_now HL.out HBa.out) (u8_one _) (by unfold maxLen; omega) (by omega) (by simp) ?_; intro v6 w6 hown hgrow; obtain ⟨ho6, hb⟩ := app_out (W := w4) hown hgrow; have HO6 := Lib.hid ho6; have HB6 := Lib.hid hb; have HZ6 := Lib.hid (lies_now HZ.out hb); have HMx := HM; have HWx := HW; clear hown hgrow ho6 hb) | (at_builtin; refine append_lies rfl _ _ 31 rfl w4.heap.size 5 i0 (.int .u8 0) 1 Try.underlying31 hi hz0 hz1 hz2 rfl _ _ _ rfl HO6.out A _ cap _ (z.map (Value.int .u8)) (by simp) rfl HA.out HZ6.out (u8_one _) (by unfold maxLen; omega) (by omega) HB6.out.size ?_; intro v7 w7 hown hgrow; obtain ⟨ho7, hb⟩ := app_more HB6.out HO6.out HB6.out.size hown hgrow; rw [← List.length_append, HX.out] at ho7; obtain ⟨g7, c7, rfl, hc7, hc7', _, _, hl7⟩ := own_bytes ho7 hXp; have HL2 := Lib.hid hl7; have HC2 : Hid (X.length ≤ c7 ∧ c7 ≤ 9223372036854775807) := Lib.hid ⟨by assumption, by first | assumption | (unfold maxLen at *; omega)⟩; have HM := Lib.hid (HMx.out.keep hb); have HW := Lib.hid (HWx.out.trans (hb.mono HWx.out.size)); clear hown hgrow ho7 hl7 hb) | (go_at_call 14; (with_reducible refine (decode_own HOK HE' HLn' HC2 HL2).mono ?_); rintro e w2 ⟨h5, rfl, hi, hb⟩; have HM := Lib.hid (HM.out.keep hb); have HW := Lib.hid (HW.out.trans (hb.mono HW.out.size)); have HD := Lib.hid hi; clear hi; obtain ⟨q0, q1, q2, q3, q4, q5, q6⟩ := HM.out.box; clear hb))
          have HM := Lib.hid (HM.out.keep (below_box (h := h5) (m := m)))
          have HW := Lib.hid (HW.out.trans ((below_box (h := h5) (m := m)).mono HW.out.size))
          clear q0 q1 q2 q3 q4 q5 q6
          obtain ⟨q0, q1, q2, q3, q4, q5, q6⟩ := HM.out.box
          go_wp2_with ((go_at_call 9; (with_reducible refine (imgAwake_any _).mono ?_); rintro e w2 ⟨rfl, hb⟩; have HM := Lib.hid (HM.out.keep hb); have HW := Lib.hid (HW.out.trans (hb.mono HW.out.size)); obtain ⟨q0, q1, q2, q3, q4, q5, q6⟩ := HM.out.box; clear hb))
          go_ret
          exact ⟨rfl, HW.out⟩
        · have HZp : Hid (0 < z.length) := Lib.hid (by omega)
          clear hX hX' hz0'
          go_upto_region 8 with (first | (at_builtin; refine append_lies rfl _ _ 31 rfl w4.heap.size 5 i0 (.int .u8 0) 1 Try.underlying31 hi hz0 hz1 hz2 rfl _ _ _ rfl HOa.out (some ⟨g, 0, none⟩) _ c _ (L.map (Value.int .u8)) (by simp) rfl (fun h => by cases h) (lies_now HL.out HBa.out) (u8_one _) (by unfold maxLen; omega) (by omega) (by simp) ?_; intro v6 w6 hown hgrow; obtain ⟨ho6, hb⟩ := app_out (W := w4) hown hgrow; have HO6 := Lib.hid ho6; have HB6 := Lib.hid hb; have HZ6 := Lib.hid (lies_now HZ.out hb); have HMx := HM; have HWx := HW; clear hown hgrow ho6 hb) | (at_builtin; refine append_lies rfl _ _ 31 rfl w4.heap.size 5 i0 (.int .u8 0) 1 Try.underlying31 hi hz0 hz1 hz2 rfl _ _ _ rfl HO6.out A _ cap _ (z.map (Value.int .u8)) (by simp) rfl HA.out HZ6.out (u8_one _) (by unfold maxLen; omega) (by omega) HB6.out.size ?_; intro v7 w7 hown hgrow; obtain ⟨ho7, hb⟩ := app_more HB6.out HO6.out HB6.out.size hown hgrow; rw [← List.length_append, HX.out] at ho7; obtain ⟨g7, c7, rfl, hc7, hc7', _, _, hl7⟩ := own_bytes ho7 hXp; have HL2 := Lib.hid hl7; have HC2 : Hid (X.length ≤ c7 ∧ c7 ≤ 9223372036854775807) := Lib.hid ⟨by assumption, by first | assumption | (unfold maxLen at *; omega)⟩; have HM := Lib.hid (HMx.out.keep hb); have HW := Lib.hid (HWx.out.trans (hb.mono HWx.out.size)); clear hown hgrow ho7 hl7 hb) | (go_at_call 14; (with_reducible refine (decode_more HOK HE HZp HX HXl HZR HC2 HL2).mono ?_); rintro e w2 ⟨h5, m5, rfl, hi, hb⟩; have HM := Lib.hid (HM.out.keep hb); have HW := Lib.hid (HW.out.trans (hb.mono HW.out.size)); have HD := Lib.hid hi; clear hi; obtain ⟨q0, q1, q2, q3, q4, q5, q6⟩ := HM.out.box; clear hb))
          have t1 := HZp.out
          have HM := Lib.hid (HM.out.keep (below_box (h := h5) (m := m5)))
          have HW := Lib.hid (HW.out.trans ((below_box (h := h5) (m := m5)).mono HW.out.size))
          clear q0 q1 q2 q3 q4 q5 q6
          obtain ⟨q0, q1, q2, q3, q4, q5, q6⟩ := HM.out.box
          go_wp2_with ((go_at_call 9; (with_reducible refine (imgAwake_any _).mono ?_); rintro e w2 ⟨rfl, hb⟩; have HM := Lib.hid (HM.out.keep hb); have HW := Lib.hid (HW.out.trans (hb.mono HW.out.size)); obtain ⟨q0, q1, q2, q3, q4, q5, q6⟩ := HM.out.box; clear hb))
          go_ret
          exact ⟨rfl, HW.out⟩
end Go.Proofs.Ytikljohgdgibnaa
