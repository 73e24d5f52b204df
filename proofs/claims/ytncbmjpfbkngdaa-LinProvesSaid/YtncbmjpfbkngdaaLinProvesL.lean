/-
  The statement on whether inequalities say another one (LinProves), walked: it answers true at any inequalities and numbers.
-/
import Derived.Test.YtncbmjpfbkngdaaLinWords2
import Derived.Deep.Cut
import Derived.IntWalk
import Derived.RegionTactic
import Derived.ChangeAlike
import Derived.Deep.RegionHeld3
import Derived.Deep.QuietTactic
import Derived.BigQuiet
namespace Go.Proofs.Ytncbmjpfbkngdaa
set_option maxRecDepth 100000
set_option linter.unusedVariables false
set_option linter.unusedSimpArgs false
open Go.ChangeShapes Go.WideShapes Go.ChangeAt Go.RowKit
set_option linter.unusedVariables false
set_option linter.unusedSimpArgs false

set_option maxHeartbeats 6400000 in
theorem linProves_any (list : List Inq) (times W : List Int) (m : Int) (A B C : Option Addr) (c d ce : Nat) (w : World) (hl : SlcIs IneqAt 2 w w.heap.size A c list) (ht : SlcIs IntAt 1 w w.heap.size B d times) (hw : SlcIs IntAt 1 w w.heap.size C ce W) :
    Calls Try.prog 4 #[.slice A list.length c, .slice B times.length d, .agg #[.slice C W.length ce, .int .i64 m]] w fun e w' => e = .returned (.bool true) ∧ Below w.heap.size w w' := by
  obtain ⟨n, hn⟩ : ∃ n, list.length = n := ⟨_, rfl⟩
  obtain ⟨k, hk⟩ : ∃ n, times.length = n := ⟨_, rfl⟩
  obtain ⟨nw, hnw⟩ : ∃ n, W.length = n := ⟨_, rfl⟩
  obtain ⟨hc, hb, hz⟩ := one_inq w (.slice C nw ce) (.int .i64 m)
  have HCW := Lib.hid hc
  have HW := Lib.hid hb
  have HZ := Lib.hid hz
  have H1 := Lib.hid (lslcUp IneqAt.keeps hl hb)
  have H2 := Lib.hid (lslcUp IntAt.keeps ht hb)
  have HWS := Lib.hid (And.intro (lslcUp IntAt.keeps hw hb) hnw)
  have hw1 := hw.le
  have hw2 := hw.cap
  rw [hnw] at hw1
  have HLN := Lib.hid hn
  have HN : Hid (list.length = n ∧ times.length = k) := Lib.hid ⟨hn, hk⟩
  have HWN := Lib.hid hnw
  rw [hn, hk, hnw]
  obtain ⟨r, hr⟩ : ∃ r, fewQ list = r := ⟨_, rfl⟩
  have HF := Lib.hid hr
  obtain ⟨S, hS⟩ : ∃ S, sumR list times (nw : Int) = S := ⟨_, rfl⟩
  have HS := Lib.hid hS
  have HPV : Hid (provesB list times (W, m) = provesOf S (W, m)) := Lib.hid (proves_eq hnw hS)
  clear hl ht hw hn hk hnw hr hS hc hb hz
  go_enter Try.func4, Try.ntmps4
  go_upto_region 1 with fail
  generalize w.alloc (.cells #[.slice C nw ce, .int .i64 m] 27) = w1 at *
  have e0 := HCW.out 0 _ rfl
  have e1 := HCW.out 1 _ rfl
  have HX : Hid (Below w1.heap.size w1 w1) := Lib.hid (Below.refl _ _)
  cases r
  · go_wp2_with (first | (go_at_call 9; (with_reducible refine (few14_is (Lib.hid (lslcUp IneqAt.keeps H1.out HX.out)) HLN HF).mono ?_); rintro e wf ⟨rfl, he⟩; subst he) | (go_at_call 10; (with_reducible refine (linAwake_any _).mono ?_); rintro e wk ⟨rfl, hb⟩; have HX := Lib.hid (HX.out.trans (hb.mono HX.out.size)); clear hb; have e0 := (HCW.out.keep HX.out HZ.out) 0 _ rfl; have e1 := (HCW.out.keep HX.out HZ.out) 1 _ rfl))
    go_ret
    exact ⟨by first | rfl | simp, HW.out.trans (HX.out.mono HW.out.size)⟩
  by_cases hwl : (nw : Int) > 100
  · go_wp2_with (first | (go_at_call 9; (with_reducible refine (few14_is (Lib.hid (lslcUp IneqAt.keeps H1.out HX.out)) HLN HF).mono ?_); rintro e wf ⟨rfl, he⟩; subst he) | (go_at_call 10; (with_reducible refine (linAwake_any _).mono ?_); rintro e wk ⟨rfl, hb⟩; have HX := Lib.hid (HX.out.trans (hb.mono HX.out.size)); clear hb; have e0 := (HCW.out.keep HX.out HZ.out) 0 _ rfl; have e1 := (HCW.out.keep HX.out HZ.out) 1 _ rfl))
    go_ret
    exact ⟨by first | rfl | simp, HW.out.trans (HX.out.mono HW.out.size)⟩
  cases S with
  | none =>
    have HPR : Hid (provesB list times (W, m) = false) := Lib.hid HPV.out
    go_upto_region 4 with (first | (go_at_call 9; (with_reducible refine (few14_is (Lib.hid (lslcUp IneqAt.keeps H1.out HX.out)) HLN HF).mono ?_); rintro e wf ⟨rfl, he⟩; subst he) | (go_at_call 12; (with_reducible refine (rsum_no H1 H2 HX HN HF HS).mono ?_); rintro e w7 ⟨A7, c7, rfl, hb⟩; have HX := Lib.hid (HX.out.trans (hb.mono HX.out.size)); clear hb))
    have HX : Hid (Below w1.heap.size w1 (w7.alloc (.cells #[.slice A7 0 c7, .int .i64 0] 27))) := Lib.hid (HX.out.alloc HX.out.size _)
    change Code.wp _ _ _ _ (w7.alloc (.cells #[.slice A7 0 c7, .int .i64 0] 27))
    generalize w7.alloc (.cells #[.slice A7 0 c7, .int .i64 0] 27) = w8 at *
    clear e0 e1
    have e0 := (HCW.out.keep HX.out HZ.out) 0 _ rfl
    have e1 := (HCW.out.keep HX.out HZ.out) 1 _ rfl
    go_wp2_with (first | (go_at_call 10; (with_reducible refine (linAwake_any _).mono ?_); rintro e wk ⟨rfl, hb⟩; have HX := Lib.hid (HX.out.trans (hb.mono HX.out.size)); clear hb; have e0 := (HCW.out.keep HX.out HZ.out) 0 _ rfl; have e1 := (HCW.out.keep HX.out HZ.out) 1 _ rfl) | (go_at_call 14; (with_reducible refine (lproves_is H1 H2 HX HN HF HWS HPR (by omega)).mono ?_); rintro e wp ⟨rfl, hb⟩; have HX := Lib.hid (HX.out.trans (hb.mono HX.out.size)); clear hb))
    go_ret
    exact ⟨by first | rfl | simp, HW.out.trans (HX.out.mono HW.out.size)⟩
  | some q =>
    obtain ⟨L, x⟩ := q
    obtain ⟨nl, hnl⟩ : ∃ n, L.length = n := ⟨_, rfl⟩
    have HNL := Lib.hid hnl
    obtain ⟨b1, hb1⟩ : ∃ b, decide (L = W) = b := ⟨_, rfl⟩
    have HSS : Hid (sameB (L, 0) (W, 0) = b1) := Lib.hid (by rw [← hb1]; unfold sameB; simp)
    have HPW : Hid (provesB list times (W, m) = (b1 && decide (x ≤ m))) := Lib.hid (by rw [HPV.out, ← hb1]; rfl)
    clear hnl hb1
    go_upto_region 4 with (first | (go_at_call 9; (with_reducible refine (few14_is (Lib.hid (lslcUp IneqAt.keeps H1.out HX.out)) HLN HF).mono ?_); rintro e wf ⟨rfl, he⟩; subst he) | (go_at_call 12; (with_reducible refine (rsum_yes H1 H2 HX HN HF HS HNL).mono ?_); rintro e w7 ⟨A7, c7, rfl, hb, hs⟩; have HX := Lib.hid (HX.out.trans (hb.mono HX.out.size)); have HS7 := Lib.hid hs; clear hb hs))
    have HC : Hid (Cells (w7.alloc (.cells #[.slice A7 nl c7, .int .i64 x] 27)) w7.heap.size [.slice A7 nl c7, .int .i64 x]) := Lib.hid (cells_new w7 [.slice A7 nl c7, .int .i64 x] 27)
    have HZ7 : Hid (w7.heap.size < (w7.alloc (.cells #[.slice A7 nl c7, .int .i64 x] 27)).heap.size) := Lib.hid (by simp)
    have HS7 : Hid (SlcIs IntAt 1 (w7.alloc (.cells #[.slice A7 nl c7, .int .i64 x] 27)) (w7.alloc (.cells #[.slice A7 nl c7, .int .i64 x] 27)).heap.size A7 c7 L) := Lib.hid (lslcUp IntAt.keeps HS7.out ((Below.refl w7.heap.size w7).alloc (Nat.le_refl _) _))
    have HX : Hid (Below w1.heap.size w1 (w7.alloc (.cells #[.slice A7 nl c7, .int .i64 x] 27))) := Lib.hid (HX.out.alloc HX.out.size _)
    change Code.wp _ _ _ _ (w7.alloc (.cells #[.slice A7 nl c7, .int .i64 x] 27))
    generalize w7.alloc (.cells #[.slice A7 nl c7, .int .i64 x] 27) = w8 at *
    clear e0 e1
    have e0 := (HCW.out.keep HX.out HZ.out) 0 _ rfl
    have e1 := (HCW.out.keep HX.out HZ.out) 1 _ rfl
    have d0 := HC.out 0 _ rfl
    have d1 := HC.out 1 _ rfl
    have HWS8 := Lib.hid (lslcUp IntAt.keeps HWS.out.1 HX.out)
    cases b1
    · have HPR : Hid (provesB list times (W, m) = false) := Lib.hid (by rw [HPW.out, Bool.false_and])
      go_wp2_with (first | (go_at_call 13; (with_reducible refine (rsame14_is HS7 HWS8 (Lib.hid ⟨HNL.out, HWN.out⟩) HSS).mono ?_); rintro e w9 ⟨rfl, hb⟩; have HX := Lib.hid (HX.out.trans (hb.mono HX.out.size)); have HC := Lib.hid (HC.out.keep hb HZ7.out); have d0 := HC.out 0 _ rfl; have d1 := HC.out 1 _ rfl; clear hb; have e0 := (HCW.out.keep HX.out HZ.out) 0 _ rfl; have e1 := (HCW.out.keep HX.out HZ.out) 1 _ rfl) | (go_at_call 10; (with_reducible refine (linAwake_any _).mono ?_); rintro e wk ⟨rfl, hb⟩; have HX := Lib.hid (HX.out.trans (hb.mono HX.out.size)); clear hb; have e0 := (HCW.out.keep HX.out HZ.out) 0 _ rfl; have e1 := (HCW.out.keep HX.out HZ.out) 1 _ rfl) | (go_at_call 14; (with_reducible refine (lproves_is H1 H2 HX HN HF HWS HPR (by omega)).mono ?_); rintro e wp ⟨rfl, hb⟩; have HX := Lib.hid (HX.out.trans (hb.mono HX.out.size)); clear hb))
      go_ret
      exact ⟨by first | rfl | simp, HW.out.trans (HX.out.mono HW.out.size)⟩
    · obtain ⟨b2, hb2⟩ : ∃ b, decide (x ≤ m) = b := ⟨_, rfl⟩
      have HPR : Hid (provesB list times (W, m) = b2) := Lib.hid (by rw [HPW.out, Bool.true_and, hb2])
      go_wp2_with (first | (go_at_call 13; (with_reducible refine (rsame14_is HS7 HWS8 (Lib.hid ⟨HNL.out, HWN.out⟩) HSS).mono ?_); rintro e w9 ⟨rfl, hb⟩; have HX := Lib.hid (HX.out.trans (hb.mono HX.out.size)); have HC := Lib.hid (HC.out.keep hb HZ7.out); have d0 := HC.out 0 _ rfl; have d1 := HC.out 1 _ rfl; clear hb; have e0 := (HCW.out.keep HX.out HZ.out) 0 _ rfl; have e1 := (HCW.out.keep HX.out HZ.out) 1 _ rfl) | (go_at_call 10; (with_reducible refine (linAwake_any _).mono ?_); rintro e wk ⟨rfl, hb⟩; have HX := Lib.hid (HX.out.trans (hb.mono HX.out.size)); clear hb; have e0 := (HCW.out.keep HX.out HZ.out) 0 _ rfl; have e1 := (HCW.out.keep HX.out HZ.out) 1 _ rfl) | (go_at_call 14; (with_reducible refine (lproves_is H1 H2 HX HN HF HWS HPR (by omega)).mono ?_); rintro e wp ⟨rfl, hb⟩; have HX := Lib.hid (HX.out.trans (hb.mono HX.out.size)); clear hb))
      go_ret
      exact ⟨by first | rfl | simp, HW.out.trans (HX.out.mono HW.out.size)⟩
end Go.Proofs.Ytncbmjpfbkngdaa
