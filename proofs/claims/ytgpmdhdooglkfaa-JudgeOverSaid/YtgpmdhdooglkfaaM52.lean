/-
  The statement on types that say no less (JudgeOver), walked: it answers true at any image and types.
-/
import Derived.Test.YtgpmdhdooglkfaaM49
import Derived.IntWalk
import Derived.RegionTactic
import Derived.ChangeAlike
import Derived.Deep.RegionHeld3
import Derived.Deep.QuietTactic
import Derived.BigQuiet
namespace Go.Proofs.Ytgpmdhdooglkfaa
set_option maxRecDepth 100000
set_option linter.unusedVariables false
set_option linter.unusedSimpArgs false
open Go.ChangeShapes Go.WideShapes Go.ChangeAt Go.RowKit
set_option linter.unusedVariables false
set_option linter.unusedSimpArgs false

set_option maxHeartbeats 6400000 in
theorem judgeOver_any (m : Img) (h : Hnd) (a b c : List (List Shp)) (A B C : Option Addr) (ca cb cc : Nat) (w : World) (H : ImgIn w w.heap.size h m) (ha : SlcIs (SlcAt ShpAt 2) 1 w w.heap.size A ca a) (hb : SlcIs (SlcAt ShpAt 2) 1 w w.heap.size B cb b) (hc : SlcIs (SlcAt ShpAt 2) 1 w w.heap.size C cc c)
    (la : a.length ≤ 140737488351232) (za : MapsTo 140737488351232 a) (lb : b.length ≤ 140737488351232) (zb : MapsTo 140737488351232 b) (lc : c.length ≤ 140737488351232) (zc : MapsTo 140737488351232 c) :
    Calls Try.prog 5 #[imgV h m, .slice A a.length ca, .slice B b.length cb, .slice C c.length cc] w fun e w' => e = .returned (.bool true) ∧ Below w.heap.size w w' := by
  have HW := Lib.hid (below_box (w := w) (h := h) (m := m))
  have HBX := Lib.hid (img_box w h m)
  have HZ : Hid (w.heap.size < (w.alloc (imgO h m)).heap.size) := Lib.hid (by simp)
  have HI := Lib.hid (H.now HW.out)
  obtain ⟨r, hr⟩ : ∃ r, saneB8 m = r := ⟨_, rfl⟩
  have HR := Lib.hid hr
  have HOA := Lib.hid (slcUp RowAt.keeps ha HW.out)
  have HZA := Lib.hid (And.intro la za)
  obtain ⟨na, hna⟩ : ∃ n, a.length = n := ⟨_, rfl⟩
  have HNA := Lib.hid hna
  rw [hna] at HZA ⊢
  clear ha la za hna
  have HOB := Lib.hid (slcUp RowAt.keeps hb HW.out)
  have HZB := Lib.hid (And.intro lb zb)
  obtain ⟨nb, hnb⟩ : ∃ n, b.length = n := ⟨_, rfl⟩
  have HNB := Lib.hid hnb
  rw [hnb] at HZB ⊢
  clear hb lb zb hnb
  have HOC := Lib.hid (slcUp RowAt.keeps hc HW.out)
  have HZC := Lib.hid (And.intro lc zc)
  obtain ⟨nc, hnc⟩ : ∃ n, c.length = n := ⟨_, rfl⟩
  have HNC := Lib.hid hnc
  rw [hnc] at HZC ⊢
  clear hc lc zc hnc
  clear H hr
  go_enter Try.func5, Try.ntmps5
  go_upto_region 1 with fail
  generalize w.alloc (imgO h m) = w1 at *
  obtain ⟨q0, q1, q2, q3, q4, q5, q6⟩ := HBX.out
  have HX : Hid (Below w1.heap.size w1 w1) := Lib.hid (Below.refl _ _)
  cases r
  · go_wp2_with (first | (go_at_call 6; (with_reducible refine (sane10_is HI HX HR).mono ?_); rintro e w7 ⟨rfl, hb⟩; have HX := Lib.hid (HX.out.trans (hb.mono HX.out.size)); have HOA := Lib.hid (slcUp RowAt.keeps HOA.out hb); have HOB := Lib.hid (slcUp RowAt.keeps HOB.out hb); have HOC := Lib.hid (slcUp RowAt.keeps HOC.out hb); clear hb; obtain ⟨q0, q1, q2, q3, q4, q5, q6⟩ := HBX.out.keep HX.out HZ.out) | (go_at_call 8; (with_reducible refine (judgeAwake_any _).mono ?_); rintro e w7 ⟨rfl, hb⟩; have HX := Lib.hid (HX.out.trans (hb.mono HX.out.size)); have HOA := Lib.hid (slcUp RowAt.keeps HOA.out hb); have HOB := Lib.hid (slcUp RowAt.keeps HOB.out hb); have HOC := Lib.hid (slcUp RowAt.keeps HOC.out hb); clear hb; obtain ⟨q0, q1, q2, q3, q4, q5, q6⟩ := HBX.out.keep HX.out HZ.out))
    go_ret
    exact ⟨by first | rfl | simp, HW.out.trans (HX.out.mono (Nat.le_of_lt HZ.out))⟩
  have HM := Lib.hid (saneB8_yes HR.out)
  have HFALSE : True := trivial
  go_upto_if 30 with (first | (go_at_call 6; (with_reducible refine (sane10_is HI HX HR).mono ?_); rintro e w7 ⟨rfl, hb⟩; have HX := Lib.hid (HX.out.trans (hb.mono HX.out.size)); have HOA := Lib.hid (slcUp RowAt.keeps HOA.out hb); have HOB := Lib.hid (slcUp RowAt.keeps HOB.out hb); have HOC := Lib.hid (slcUp RowAt.keeps HOC.out hb); clear hb; obtain ⟨q0, q1, q2, q3, q4, q5, q6⟩ := HBX.out.keep HX.out HZ.out) | (go_at_call 7; (with_reducible refine (few10_is HOA HNA HZA).mono ?_); rintro e w7 ⟨ra, rfl, hf, hb⟩; have HFra := Lib.hid hf; have HX := Lib.hid (HX.out.trans (hb.mono HX.out.size)); have HOA := Lib.hid (slcUp RowAt.keeps HOA.out hb); have HOB := Lib.hid (slcUp RowAt.keeps HOB.out hb); have HOC := Lib.hid (slcUp RowAt.keeps HOC.out hb); clear hb hf; obtain ⟨q0, q1, q2, q3, q4, q5, q6⟩ := HBX.out.keep HX.out HZ.out) | (go_at_call 7; (with_reducible refine (few10_is HOB HNB HZB).mono ?_); rintro e w7 ⟨rb, rfl, hf, hb⟩; have HFrb := Lib.hid hf; have HX := Lib.hid (HX.out.trans (hb.mono HX.out.size)); have HOA := Lib.hid (slcUp RowAt.keeps HOA.out hb); have HOB := Lib.hid (slcUp RowAt.keeps HOB.out hb); have HOC := Lib.hid (slcUp RowAt.keeps HOC.out hb); clear hb hf; obtain ⟨q0, q1, q2, q3, q4, q5, q6⟩ := HBX.out.keep HX.out HZ.out) | (go_at_call 7; (with_reducible refine (few10_is HOC HNC HZC).mono ?_); rintro e w7 ⟨rc, rfl, hf, hb⟩; have HFrc := Lib.hid hf; have HX := Lib.hid (HX.out.trans (hb.mono HX.out.size)); have HOA := Lib.hid (slcUp RowAt.keeps HOA.out hb); have HOB := Lib.hid (slcUp RowAt.keeps HOB.out hb); have HOC := Lib.hid (slcUp RowAt.keeps HOC.out hb); clear hb hf; obtain ⟨q0, q1, q2, q3, q4, q5, q6⟩ := HBX.out.keep HX.out HZ.out))
  rotate_left
  · go_wp2_with (first | (go_at_call 8; (with_reducible refine (judgeAwake_any _).mono ?_); rintro e w7 ⟨rfl, hb⟩; have HX := Lib.hid (HX.out.trans (hb.mono HX.out.size)); have HOA := Lib.hid (slcUp RowAt.keeps HOA.out hb); have HOB := Lib.hid (slcUp RowAt.keeps HOB.out hb); have HOC := Lib.hid (slcUp RowAt.keeps HOC.out hb); clear hb; obtain ⟨q0, q1, q2, q3, q4, q5, q6⟩ := HBX.out.keep HX.out HZ.out))
    go_ret
    exact ⟨by first | rfl | simp, HW.out.trans (HX.out.mono (Nat.le_of_lt HZ.out))⟩
  · go_wp2_with (first | (go_at_call 8; (with_reducible refine (judgeAwake_any _).mono ?_); rintro e w7 ⟨rfl, hb⟩; have HX := Lib.hid (HX.out.trans (hb.mono HX.out.size)); have HOA := Lib.hid (slcUp RowAt.keeps HOA.out hb); have HOB := Lib.hid (slcUp RowAt.keeps HOB.out hb); have HOC := Lib.hid (slcUp RowAt.keeps HOC.out hb); clear hb; obtain ⟨q0, q1, q2, q3, q4, q5, q6⟩ := HBX.out.keep HX.out HZ.out))
    go_ret
    exact ⟨by first | rfl | simp, HW.out.trans (HX.out.mono (Nat.le_of_lt HZ.out))⟩
  have hra : ra = true := by assumption
  have hrb : rb = true := by assumption
  cases rc
  · go_wp2_with (first | (go_at_call 8; (with_reducible refine (judgeAwake_any _).mono ?_); rintro e w7 ⟨rfl, hb⟩; have HX := Lib.hid (HX.out.trans (hb.mono HX.out.size)); have HOA := Lib.hid (slcUp RowAt.keeps HOA.out hb); have HOB := Lib.hid (slcUp RowAt.keeps HOB.out hb); have HOC := Lib.hid (slcUp RowAt.keeps HOC.out hb); clear hb; obtain ⟨q0, q1, q2, q3, q4, q5, q6⟩ := HBX.out.keep HX.out HZ.out))
    go_ret
    exact ⟨by first | rfl | simp, HW.out.trans (HX.out.mono (Nat.le_of_lt HZ.out))⟩
  have HMA : Hid (MapsTo 4000 a) := Lib.hid ((HFra.out hra).2.more (by decide))
  have HMB : Hid (MapsTo 4000 b) := Lib.hid ((HFrb.out hrb).2.more (by decide))
  have HMC : Hid (MapsTo 4000 c) := Lib.hid ((HFrc.out (by simp)).2.more (by decide))
  clear HFra HFrb HFrc hra hrb
  obtain ⟨x, hx⟩ : ∃ r, overB (supsOf m.classes) a b = r := ⟨_, rfl⟩
  obtain ⟨y, hy⟩ : ∃ r, overB (supsOf m.classes) b c = r := ⟨_, rfl⟩
  obtain ⟨z, hz⟩ : ∃ r, overB (supsOf m.classes) a c = r := ⟨_, rfl⟩
  have HXX := Lib.hid hx
  have HYY := Lib.hid hy
  have HZZ := Lib.hid hz
  have htr : x = true → y = true → z = true := fun e1 e2 => by
    subst e1 e2
    rw [← hz]
    exact overB_trans hx hy
  clear hx hy hz
  cases x
  · clear htr
    go_upto_region 5 with (first | (go_at_call 11; (with_reducible refine (jover_is HI HX HM HOA HOB HMA HMB HNA HNB HXX).mono ?_); rintro e w7 ⟨rfl, hb⟩; have HX := Lib.hid (HX.out.trans (hb.mono HX.out.size)); have HOA := Lib.hid (slcUp RowAt.keeps HOA.out hb); have HOB := Lib.hid (slcUp RowAt.keeps HOB.out hb); have HOC := Lib.hid (slcUp RowAt.keeps HOC.out hb); clear hb; obtain ⟨q0, q1, q2, q3, q4, q5, q6⟩ := HBX.out.keep HX.out HZ.out))
    go_upto_region 6 with (go_at_call 9; (with_reducible refine (check_is HI HX HM).mono ?_); rintro e w7 ⟨Al, nl, cl, fl, pl, er, rfl, hb, hno, hyes⟩; have HNO := Lib.hid hno; have HYES := Lib.hid hyes; have HX := Lib.hid (HX.out.trans (hb.mono HX.out.size)); have HOA := Lib.hid (slcUp RowAt.keeps HOA.out hb); have HOB := Lib.hid (slcUp RowAt.keeps HOB.out hb); have HOC := Lib.hid (slcUp RowAt.keeps HOC.out hb); clear hb hno hyes; obtain ⟨q0, q1, q2, q3, q4, q5, q6⟩ := HBX.out.keep HX.out HZ.out)
    by_cases her : er = 0
    rotate_left
    · have hne : (er != 0) = true := by simpa using her
      go_wp2_with (first | (go_at_call 8; (with_reducible refine (judgeAwake_any _).mono ?_); rintro e w7 ⟨rfl, hb⟩; have HX := Lib.hid (HX.out.trans (hb.mono HX.out.size)); have HOA := Lib.hid (slcUp RowAt.keeps HOA.out hb); have HOB := Lib.hid (slcUp RowAt.keeps HOB.out hb); have HOC := Lib.hid (slcUp RowAt.keeps HOC.out hb); clear hb; obtain ⟨q0, q1, q2, q3, q4, q5, q6⟩ := HBX.out.keep HX.out HZ.out))
      go_ret
      exact ⟨by first | rfl | simp, HW.out.trans (HX.out.mono (Nat.le_of_lt HZ.out))⟩
    subst her
    obtain ⟨l, hln, hls, hlm, hlb⟩ := HYES.out (by simp)
    have HL := Lib.hid hls
    have HLM := Lib.hid hlm
    have HLN := Lib.hid hln
    have HLO := Lib.hid hlb.self
    clear hln hls hlm hlb HYES HNO
    go_wp2_with (first | (go_at_call 8; (with_reducible refine (judgeAwake_any _).mono ?_); rintro e w7 ⟨rfl, hb⟩; have HX := Lib.hid (HX.out.trans (hb.mono HX.out.size)); have HOA := Lib.hid (slcUp RowAt.keeps HOA.out hb); have HOB := Lib.hid (slcUp RowAt.keeps HOB.out hb); have HOC := Lib.hid (slcUp RowAt.keeps HOC.out hb); have HL := Lib.hid (slcUp RowAt.keeps HL.out hb); clear hb; obtain ⟨q0, q1, q2, q3, q4, q5, q6⟩ := HBX.out.keep HX.out HZ.out) | (go_at_call 11; (with_reducible refine (jover_is HI HX HM HL HL HLM HLM HLN HLN HLO).mono ?_); rintro e w7 ⟨rfl, hb⟩; have HX := Lib.hid (HX.out.trans (hb.mono HX.out.size)); have HOA := Lib.hid (slcUp RowAt.keeps HOA.out hb); have HOB := Lib.hid (slcUp RowAt.keeps HOB.out hb); have HOC := Lib.hid (slcUp RowAt.keeps HOC.out hb); have HL := Lib.hid (slcUp RowAt.keeps HL.out hb); clear hb; obtain ⟨q0, q1, q2, q3, q4, q5, q6⟩ := HBX.out.keep HX.out HZ.out))
    go_ret
    exact ⟨by first | rfl | simp, HW.out.trans (HX.out.mono (Nat.le_of_lt HZ.out))⟩
  cases y
  · clear htr
    go_upto_region 5 with (first | (go_at_call 11; (with_reducible refine (jover_is HI HX HM HOA HOB HMA HMB HNA HNB HXX).mono ?_); rintro e w7 ⟨rfl, hb⟩; have HX := Lib.hid (HX.out.trans (hb.mono HX.out.size)); have HOA := Lib.hid (slcUp RowAt.keeps HOA.out hb); have HOB := Lib.hid (slcUp RowAt.keeps HOB.out hb); have HOC := Lib.hid (slcUp RowAt.keeps HOC.out hb); clear hb; obtain ⟨q0, q1, q2, q3, q4, q5, q6⟩ := HBX.out.keep HX.out HZ.out) | (go_at_call 11; (with_reducible refine (jover_is HI HX HM HOB HOC HMB HMC HNB HNC HYY).mono ?_); rintro e w7 ⟨rfl, hb⟩; have HX := Lib.hid (HX.out.trans (hb.mono HX.out.size)); have HOA := Lib.hid (slcUp RowAt.keeps HOA.out hb); have HOB := Lib.hid (slcUp RowAt.keeps HOB.out hb); have HOC := Lib.hid (slcUp RowAt.keeps HOC.out hb); clear hb; obtain ⟨q0, q1, q2, q3, q4, q5, q6⟩ := HBX.out.keep HX.out HZ.out))
    go_upto_region 6 with (go_at_call 9; (with_reducible refine (check_is HI HX HM).mono ?_); rintro e w7 ⟨Al, nl, cl, fl, pl, er, rfl, hb, hno, hyes⟩; have HNO := Lib.hid hno; have HYES := Lib.hid hyes; have HX := Lib.hid (HX.out.trans (hb.mono HX.out.size)); have HOA := Lib.hid (slcUp RowAt.keeps HOA.out hb); have HOB := Lib.hid (slcUp RowAt.keeps HOB.out hb); have HOC := Lib.hid (slcUp RowAt.keeps HOC.out hb); clear hb hno hyes; obtain ⟨q0, q1, q2, q3, q4, q5, q6⟩ := HBX.out.keep HX.out HZ.out)
    by_cases her : er = 0
    rotate_left
    · have hne : (er != 0) = true := by simpa using her
      go_wp2_with (first | (go_at_call 8; (with_reducible refine (judgeAwake_any _).mono ?_); rintro e w7 ⟨rfl, hb⟩; have HX := Lib.hid (HX.out.trans (hb.mono HX.out.size)); have HOA := Lib.hid (slcUp RowAt.keeps HOA.out hb); have HOB := Lib.hid (slcUp RowAt.keeps HOB.out hb); have HOC := Lib.hid (slcUp RowAt.keeps HOC.out hb); clear hb; obtain ⟨q0, q1, q2, q3, q4, q5, q6⟩ := HBX.out.keep HX.out HZ.out))
      go_ret
      exact ⟨by first | rfl | simp, HW.out.trans (HX.out.mono (Nat.le_of_lt HZ.out))⟩
    subst her
    obtain ⟨l, hln, hls, hlm, hlb⟩ := HYES.out (by simp)
    have HL := Lib.hid hls
    have HLM := Lib.hid hlm
    have HLN := Lib.hid hln
    have HLO := Lib.hid hlb.self
    clear hln hls hlm hlb HYES HNO
    go_wp2_with (first | (go_at_call 8; (with_reducible refine (judgeAwake_any _).mono ?_); rintro e w7 ⟨rfl, hb⟩; have HX := Lib.hid (HX.out.trans (hb.mono HX.out.size)); have HOA := Lib.hid (slcUp RowAt.keeps HOA.out hb); have HOB := Lib.hid (slcUp RowAt.keeps HOB.out hb); have HOC := Lib.hid (slcUp RowAt.keeps HOC.out hb); have HL := Lib.hid (slcUp RowAt.keeps HL.out hb); clear hb; obtain ⟨q0, q1, q2, q3, q4, q5, q6⟩ := HBX.out.keep HX.out HZ.out) | (go_at_call 11; (with_reducible refine (jover_is HI HX HM HL HL HLM HLM HLN HLN HLO).mono ?_); rintro e w7 ⟨rfl, hb⟩; have HX := Lib.hid (HX.out.trans (hb.mono HX.out.size)); have HOA := Lib.hid (slcUp RowAt.keeps HOA.out hb); have HOB := Lib.hid (slcUp RowAt.keeps HOB.out hb); have HOC := Lib.hid (slcUp RowAt.keeps HOC.out hb); have HL := Lib.hid (slcUp RowAt.keeps HL.out hb); clear hb; obtain ⟨q0, q1, q2, q3, q4, q5, q6⟩ := HBX.out.keep HX.out HZ.out))
    go_ret
    exact ⟨by first | rfl | simp, HW.out.trans (HX.out.mono (Nat.le_of_lt HZ.out))⟩
  obtain rfl := htr rfl rfl
  clear htr
  go_upto_region 5 with (first | (go_at_call 11; (with_reducible refine (jover_is HI HX HM HOA HOB HMA HMB HNA HNB HXX).mono ?_); rintro e w7 ⟨rfl, hb⟩; have HX := Lib.hid (HX.out.trans (hb.mono HX.out.size)); have HOA := Lib.hid (slcUp RowAt.keeps HOA.out hb); have HOB := Lib.hid (slcUp RowAt.keeps HOB.out hb); have HOC := Lib.hid (slcUp RowAt.keeps HOC.out hb); clear hb; obtain ⟨q0, q1, q2, q3, q4, q5, q6⟩ := HBX.out.keep HX.out HZ.out) | (go_at_call 11; (with_reducible refine (jover_is HI HX HM HOB HOC HMB HMC HNB HNC HYY).mono ?_); rintro e w7 ⟨rfl, hb⟩; have HX := Lib.hid (HX.out.trans (hb.mono HX.out.size)); have HOA := Lib.hid (slcUp RowAt.keeps HOA.out hb); have HOB := Lib.hid (slcUp RowAt.keeps HOB.out hb); have HOC := Lib.hid (slcUp RowAt.keeps HOC.out hb); clear hb; obtain ⟨q0, q1, q2, q3, q4, q5, q6⟩ := HBX.out.keep HX.out HZ.out) | (go_at_call 11; (with_reducible refine (jover_is HI HX HM HOA HOC HMA HMC HNA HNC HZZ).mono ?_); rintro e w7 ⟨rfl, hb⟩; have HX := Lib.hid (HX.out.trans (hb.mono HX.out.size)); have HOA := Lib.hid (slcUp RowAt.keeps HOA.out hb); have HOB := Lib.hid (slcUp RowAt.keeps HOB.out hb); have HOC := Lib.hid (slcUp RowAt.keeps HOC.out hb); clear hb; obtain ⟨q0, q1, q2, q3, q4, q5, q6⟩ := HBX.out.keep HX.out HZ.out))
  go_upto_region 6 with (go_at_call 9; (with_reducible refine (check_is HI HX HM).mono ?_); rintro e w7 ⟨Al, nl, cl, fl, pl, er, rfl, hb, hno, hyes⟩; have HNO := Lib.hid hno; have HYES := Lib.hid hyes; have HX := Lib.hid (HX.out.trans (hb.mono HX.out.size)); have HOA := Lib.hid (slcUp RowAt.keeps HOA.out hb); have HOB := Lib.hid (slcUp RowAt.keeps HOB.out hb); have HOC := Lib.hid (slcUp RowAt.keeps HOC.out hb); clear hb hno hyes; obtain ⟨q0, q1, q2, q3, q4, q5, q6⟩ := HBX.out.keep HX.out HZ.out)
  by_cases her : er = 0
  rotate_left
  · have hne : (er != 0) = true := by simpa using her
    go_wp2_with (first | (go_at_call 8; (with_reducible refine (judgeAwake_any _).mono ?_); rintro e w7 ⟨rfl, hb⟩; have HX := Lib.hid (HX.out.trans (hb.mono HX.out.size)); have HOA := Lib.hid (slcUp RowAt.keeps HOA.out hb); have HOB := Lib.hid (slcUp RowAt.keeps HOB.out hb); have HOC := Lib.hid (slcUp RowAt.keeps HOC.out hb); clear hb; obtain ⟨q0, q1, q2, q3, q4, q5, q6⟩ := HBX.out.keep HX.out HZ.out))
    go_ret
    exact ⟨by first | rfl | simp, HW.out.trans (HX.out.mono (Nat.le_of_lt HZ.out))⟩
  subst her
  obtain ⟨l, hln, hls, hlm, hlb⟩ := HYES.out (by simp)
  have HL := Lib.hid hls
  have HLM := Lib.hid hlm
  have HLN := Lib.hid hln
  have HLO := Lib.hid hlb.self
  clear hln hls hlm hlb HYES HNO
  go_wp2_with (first | (go_at_call 8; (with_reducible refine (judgeAwake_any _).mono ?_); rintro e w7 ⟨rfl, hb⟩; have HX := Lib.hid (HX.out.trans (hb.mono HX.out.size)); have HOA := Lib.hid (slcUp RowAt.keeps HOA.out hb); have HOB := Lib.hid (slcUp RowAt.keeps HOB.out hb); have HOC := Lib.hid (slcUp RowAt.keeps HOC.out hb); have HL := Lib.hid (slcUp RowAt.keeps HL.out hb); clear hb; obtain ⟨q0, q1, q2, q3, q4, q5, q6⟩ := HBX.out.keep HX.out HZ.out) | (go_at_call 11; (with_reducible refine (jover_is HI HX HM HL HL HLM HLM HLN HLN HLO).mono ?_); rintro e w7 ⟨rfl, hb⟩; have HX := Lib.hid (HX.out.trans (hb.mono HX.out.size)); have HOA := Lib.hid (slcUp RowAt.keeps HOA.out hb); have HOB := Lib.hid (slcUp RowAt.keeps HOB.out hb); have HOC := Lib.hid (slcUp RowAt.keeps HOC.out hb); have HL := Lib.hid (slcUp RowAt.keeps HL.out hb); clear hb; obtain ⟨q0, q1, q2, q3, q4, q5, q6⟩ := HBX.out.keep HX.out HZ.out))
  go_ret
  exact ⟨by first | rfl | simp, HW.out.trans (HX.out.mono (Nat.le_of_lt HZ.out))⟩
end Go.Proofs.Ytgpmdhdooglkfaa
