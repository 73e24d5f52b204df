/-
  The statement on whether an inequality holds (LinHolds), walked: it answers true at any inequality and numbers.
-/
import Derived.Test.YtncbmjpfbkngdaaLinWords
import Derived.Deep.Cut
import Derived.IntWalk
import Derived.RegionTactic
import Derived.ChangeAlike
import Derived.Deep.RegionHeld3
import Derived.Deep.QuietTactic
import Derived.BigQuiet
namespace Go.Proofs.Ytncbmjpfbkngdaa
set_option maxRecDepth 100000
set_option linter.unusedVariables false
set_option linter.unusedSimpArgs false
open Go.ChangeShapes Go.WideShapes Go.ChangeAt Go.RowKit
set_option linter.unusedVariables false
set_option linter.unusedSimpArgs false

set_option maxHeartbeats 6400000 in
theorem linHolds_any (L : List Int) (m : Int) (M : List Int) (A B : Option Addr) (c d : Nat) (w : World) (hl : SlcIs IntAt 1 w w.heap.size A c L) (hm : SlcIs IntAt 1 w w.heap.size B d M) :
    Calls Try.prog 5 #[.agg #[.slice A L.length c, .int .i64 m], .slice B M.length d] w fun e w' => e = .returned (.bool true) ∧ Below w.heap.size w w' := by
  obtain ⟨n, hn⟩ : ∃ n, L.length = n := ⟨_, rfl⟩
  obtain ⟨k, hk⟩ : ∃ n, M.length = n := ⟨_, rfl⟩
  obtain ⟨hc, hb, hz⟩ := one_inq w (.slice A n c) (.int .i64 m)
  have HC := Lib.hid hc
  have HW := Lib.hid hb
  have HZ := Lib.hid hz
  have h1 := hl.le
  have h2 := hl.cap
  have h3 := hm.le
  have h4 := hm.cap
  have H1 := Lib.hid (lslcUp IntAt.keeps hl hb)
  have H2 := Lib.hid (lslcUp IntAt.keeps hm hb)
  have HN : Hid (((L, m) : Inq).1.length = n ∧ M.length = k ∧ ((L, m) : Inq).2 = m) := Lib.hid ⟨hn, hk, rfl⟩
  have HLN := Lib.hid hn
  have HMN := Lib.hid hk
  rw [hn] at h1 ⊢
  rw [hk] at h3 ⊢
  clear hc hb hz hl hm hn hk
  go_enter Try.func5, Try.ntmps5
  go_upto_region 1 with fail
  generalize w.alloc (.cells #[.slice A n c, .int .i64 m] 27) = w1 at *
  have e0 := HC.out 0 _ rfl
  have e1 := HC.out 1 _ rfl
  have HX : Hid (Below w1.heap.size w1 w1) := Lib.hid (Below.refl _ _)
  by_cases hn1 : (n : Int) > 100
  · go_wp2_with (first | (go_at_call 10; (with_reducible refine (linAwake_any _).mono ?_); rintro e w7 ⟨rfl, hb⟩; have HX := Lib.hid (HX.out.trans (hb.mono HX.out.size)); have H1 := Lib.hid (lslcUp IntAt.keeps H1.out hb); have H2 := Lib.hid (lslcUp IntAt.keeps H2.out hb); clear hb; have e0 := (HC.out.keep HX.out HZ.out) 0 _ rfl; have e1 := (HC.out.keep HX.out HZ.out) 1 _ rfl))
    go_ret
    exact ⟨by first | rfl | simp, HW.out.trans (HX.out.mono HW.out.size)⟩
  by_cases hk1 : (k : Int) > 100
  · go_wp2_with (first | (go_at_call 10; (with_reducible refine (linAwake_any _).mono ?_); rintro e w7 ⟨rfl, hb⟩; have HX := Lib.hid (HX.out.trans (hb.mono HX.out.size)); have H1 := Lib.hid (lslcUp IntAt.keeps H1.out hb); have H2 := Lib.hid (lslcUp IntAt.keeps H2.out hb); clear hb; have e0 := (HC.out.keep HX.out HZ.out) 0 _ rfl; have e1 := (HC.out.keep HX.out HZ.out) 1 _ rfl))
    go_ret
    exact ⟨by first | rfl | simp, HW.out.trans (HX.out.mono HW.out.size)⟩
  by_cases hnk : n = k
  rotate_left
  · have hne : ((n : Int) != (k : Int)) = true := bne_iff_ne.mpr (by omega)
    have HHR : Hid (holdsR (L, m) M = none) := Lib.hid (by unfold holdsR; rw [if_neg (by show ¬ L.length = M.length; rw [HLN.out, HMN.out]; exact hnk)])
    go_wp2_with (first | (go_at_call 10; (with_reducible refine (linAwake_any _).mono ?_); rintro e w7 ⟨rfl, hb⟩; have HX := Lib.hid (HX.out.trans (hb.mono HX.out.size)); have H1 := Lib.hid (lslcUp IntAt.keeps H1.out hb); have H2 := Lib.hid (lslcUp IntAt.keeps H2.out hb); clear hb; have e0 := (HC.out.keep HX.out HZ.out) 0 _ rfl; have e1 := (HC.out.keep HX.out HZ.out) 1 _ rfl) | (go_at_call 15; (with_reducible refine (lholds_no (q := (L, m)) H1 H2 HN (by omega) (by omega) HHR).mono ?_); rintro e w7 ⟨rfl, hb⟩; have HX := Lib.hid (HX.out.trans (hb.mono HX.out.size)); have H1 := Lib.hid (lslcUp IntAt.keeps H1.out hb); have H2 := Lib.hid (lslcUp IntAt.keeps H2.out hb); clear hb; have e0 := (HC.out.keep HX.out HZ.out) 0 _ rfl; have e1 := (HC.out.keep HX.out HZ.out) 1 _ rfl))
    go_ret
    exact ⟨by first | rfl | simp, HW.out.trans (HX.out.mono HW.out.size)⟩
  have hne : ((n : Int) != (k : Int)) = false := bne_eq_false_iff_eq.mpr (by omega)
  obtain ⟨D, hD⟩ : ∃ D, dotR L M = D := ⟨_, rfl⟩
  have HDR := Lib.hid hD
  have HHD : Hid (holdsR (L, m) M = D.map (fun x => decide (x ≤ m))) := Lib.hid (by unfold holdsR; rw [if_pos (by show L.length = M.length; rw [HLN.out, HMN.out]; exact hnk), ← hD])
  subst hnk
  have HND : Hid (L.length = n ∧ M.length = n) := Lib.hid ⟨HLN.out, HMN.out⟩
  clear hD
  cases D with
  | none =>
    have HHR : Hid (holdsR (L, m) M = none) := Lib.hid HHD.out
    go_wp2_with (first | (go_at_call 10; (with_reducible refine (linAwake_any _).mono ?_); rintro e w7 ⟨rfl, hb⟩; have HX := Lib.hid (HX.out.trans (hb.mono HX.out.size)); have H1 := Lib.hid (lslcUp IntAt.keeps H1.out hb); have H2 := Lib.hid (lslcUp IntAt.keeps H2.out hb); clear hb; have e0 := (HC.out.keep HX.out HZ.out) 0 _ rfl; have e1 := (HC.out.keep HX.out HZ.out) 1 _ rfl) | (go_at_call 15; (with_reducible refine (lholds_no (q := (L, m)) H1 H2 HN (by omega) (by omega) HHR).mono ?_); rintro e w7 ⟨rfl, hb⟩; have HX := Lib.hid (HX.out.trans (hb.mono HX.out.size)); have H1 := Lib.hid (lslcUp IntAt.keeps H1.out hb); have H2 := Lib.hid (lslcUp IntAt.keeps H2.out hb); clear hb; have e0 := (HC.out.keep HX.out HZ.out) 0 _ rfl; have e1 := (HC.out.keep HX.out HZ.out) 1 _ rfl) | (go_at_call 16; (with_reducible refine (rdot_is H1 H2 HND HDR).mono ?_); rintro e w7 ⟨rfl, hb⟩; have HX := Lib.hid (HX.out.trans (hb.mono HX.out.size)); have H1 := Lib.hid (lslcUp IntAt.keeps H1.out hb); have H2 := Lib.hid (lslcUp IntAt.keeps H2.out hb); clear hb; have e0 := (HC.out.keep HX.out HZ.out) 0 _ rfl; have e1 := (HC.out.keep HX.out HZ.out) 1 _ rfl))
    go_ret
    exact ⟨by first | rfl | simp, HW.out.trans (HX.out.mono HW.out.size)⟩
  | some x =>
    obtain ⟨r, hr⟩ : ∃ r, decide (x ≤ m) = r := ⟨_, rfl⟩
    have HHR : Hid (holdsR (L, m) M = some r) := Lib.hid (by rw [HHD.out, ← hr]; rfl)
    go_wp2_with (first | (go_at_call 10; (with_reducible refine (linAwake_any _).mono ?_); rintro e w7 ⟨rfl, hb⟩; have HX := Lib.hid (HX.out.trans (hb.mono HX.out.size)); have H1 := Lib.hid (lslcUp IntAt.keeps H1.out hb); have H2 := Lib.hid (lslcUp IntAt.keeps H2.out hb); clear hb; have e0 := (HC.out.keep HX.out HZ.out) 0 _ rfl; have e1 := (HC.out.keep HX.out HZ.out) 1 _ rfl) | (go_at_call 15; (with_reducible refine (lholds_yes (q := (L, m)) H1 H2 HN (by omega) (by omega) HHR).mono ?_); rintro e w7 ⟨rfl, hb⟩; have HX := Lib.hid (HX.out.trans (hb.mono HX.out.size)); have H1 := Lib.hid (lslcUp IntAt.keeps H1.out hb); have H2 := Lib.hid (lslcUp IntAt.keeps H2.out hb); clear hb; have e0 := (HC.out.keep HX.out HZ.out) 0 _ rfl; have e1 := (HC.out.keep HX.out HZ.out) 1 _ rfl) | (go_at_call 16; (with_reducible refine (rdot_is H1 H2 HND HDR).mono ?_); rintro e w7 ⟨rfl, hb⟩; have HX := Lib.hid (HX.out.trans (hb.mono HX.out.size)); have H1 := Lib.hid (lslcUp IntAt.keeps H1.out hb); have H2 := Lib.hid (lslcUp IntAt.keeps H2.out hb); clear hb; have e0 := (HC.out.keep HX.out HZ.out) 0 _ rfl; have e1 := (HC.out.keep HX.out HZ.out) 1 _ rfl))
    go_ret
    exact ⟨by first | rfl | simp, HW.out.trans (HX.out.mono HW.out.size)⟩
end Go.Proofs.Ytncbmjpfbkngdaa
