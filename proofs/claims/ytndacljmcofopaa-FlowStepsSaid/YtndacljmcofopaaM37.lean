/-
  Which images the laws of a step speak of (sane).
  What the document's own step (Step) comes to: outside.
-/
import Derived.Test.YtndacljmcofopaaM36
import Derived.Test.YtndacljmcofopaaM23
import Derived.RegionTactic
import Derived.ChangeAlike
import Derived.Deep.RegionHeld3
import Derived.Deep.QuietTactic
import Derived.BigQuiet
import Derived.IntWalk
namespace Go.Proofs.Ytndacljmcofopaa
set_option maxRecDepth 100000
set_option linter.unusedVariables false
set_option linter.unusedSimpArgs false
open Go.ChangeShapes Go.WideShapes Go.ChangeAt Go.RowKit

def saneB8 (m : Img) : Bool := decide (m.methods.length ≤ 12) && (decide (m.classes.length ≤ 8) && (decide (m.ints.length ≤ 16) && decide (saneR m = 0)))
theorem saneB8_yes {m : Img} (h : saneB8 m = true) : SaneI m := by
  unfold saneB8 at h
  simp only [Bool.and_eq_true, decide_eq_true_eq] at h
  exact saneI h.2.2.2

set_option maxHeartbeats 1600000 in
theorem sane8_any (m : Img) (h : Hnd) (w : World) (H : ImgIn w w.heap.size h m) :
    Calls Try.prog 7 #[imgV h m] w fun e w' => e = .returned (.bool (saneB8 m)) ∧ Below w.heap.size w w' := by
  have HW := Lib.hid ((Below.refl w.heap.size w).alloc (Nat.le_refl _) (imgO h m))
  have HIM := Lib.hid (H.now HW.out)
  have HBX := Lib.hid (img_box w h m)
  have l0 := H.classes.le
  have l0c := H.classes.cap
  have l2 := H.ints.le
  have l2c := H.ints.cap
  have l3 := H.methods.le
  have l3c := H.methods.cap
  obtain ⟨r, hr⟩ : ∃ r, saneR m = r := ⟨_, rfl⟩
  have HR := Lib.hid hr
  have HE := Lib.hid (show saneB8 m = (decide (m.methods.length ≤ 12) && (decide (m.classes.length ≤ 8) && (decide (m.ints.length ≤ 16) && decide (r = 0)))) by rw [← hr]; rfl)
  clear H hr
  go_enter Try.func7, Try.ntmps7
  go_upto_region 1 with fail
  generalize w.alloc (imgO h m) = w1 at *
  obtain ⟨q0, q1, q2, q3, q4, q5, q6⟩ := HBX.out
  by_cases h3 : m.methods.length ≤ 12
  rotate_left
  · have i3 : ¬ (m.methods.length : Int) ≤ 12 := by omega
    go_wp2_with fail
    go_ret
    exact ⟨by rw [HE.out, decide_eq_false h3]; rfl, HW.out⟩
  have i3 : (m.methods.length : Int) ≤ 12 := by omega
  by_cases h0 : m.classes.length ≤ 8
  rotate_left
  · have i0 : ¬ (m.classes.length : Int) ≤ 8 := by omega
    go_wp2_with fail
    go_ret
    exact ⟨by rw [HE.out, decide_eq_false h0, Bool.false_and, Bool.and_false]; rfl, HW.out⟩
  have i0 : (m.classes.length : Int) ≤ 8 := by omega
  by_cases h2 : m.ints.length ≤ 16
  rotate_left
  · have i2 : ¬ (m.ints.length : Int) ≤ 16 := by omega
    go_wp2_with fail
    go_ret
    exact ⟨by rw [HE.out, decide_eq_false h2, Bool.false_and, Bool.and_false, Bool.and_false]; rfl, HW.out⟩
  have i2 : (m.ints.length : Int) ≤ 16 := by omega
  have HD := Lib.hid (show saneB8 m = decide (r = 0) by rw [HE.out, decide_eq_true h3, decide_eq_true h0, decide_eq_true h2, Bool.true_and, Bool.true_and, Bool.true_and])
  clear h3 h0 h2
  go_wp2_with (first | (go_at_call 16; (with_reducible refine (rsane_any m h w1 HIM.out).mono ?_); rintro e w' ⟨rfl, hb⟩; rw [HR.out]; have HX := Lib.hid (HW.out.trans (hb.mono HW.out.size)); clear hb))
  go_ret
  exact ⟨by rw [HD.out]; rfl, HX.out⟩
theorem sane8_is {m : Img} {h : Hnd} {w0 w : World} {r : Bool} (HI : Hid (ImgIn w0 w0.heap.size h m)) (HX : Hid (Below w0.heap.size w0 w)) (HR : Hid (saneB8 m = r)) :
    Calls Try.prog 7 #[imgV h m] w fun e w' => e = .returned (.bool r) ∧ Below w.heap.size w w' := by
  have H := sane8_any m h w (HI.out.now HX.out)
  rw [HR.out] at H
  exact H
end Go.Proofs.Ytndacljmcofopaa
namespace Go.Proofs.Ytndacljmcofopaa
set_option maxRecDepth 100000
set_option linter.unusedVariables false
set_option linter.unusedSimpArgs false
open Go.ChangeShapes Go.WideShapes Go.ChangeAt Go.RowKit

theorem rstep_out1 (m : Img) (f pc : Int) (st : List (Int × Int)) (A : Option Addr) (cap : Nat) (h : Hnd) (w : World) (H : ImgIn w w.heap.size h m) (hf : f < 0) :
    Calls Try.prog 10 #[imgV h m, .int .i64 f, .int .i64 pc, .slice A st.length cap] w (StepIs (stepOf m f pc st) w) := by
  have e0 : stepOf m f pc st = badStep 1 := by unfold stepOf; rw [if_neg (by omega)]
  rw [e0]
  clear e0
  have hle := H.methods.le
  have hcap := H.methods.cap
  have HW := Lib.hid (((Below.refl w.heap.size w).alloc (Nat.le_refl _) (imgO h m)))
  have HIM := Lib.hid (H.now HW.out)
  have HBX := Lib.hid (img_box w h m)
  have HZ : Hid (w.heap.size < (w.alloc (imgO h m)).heap.size) := Lib.hid (by simp)
  clear H
  go_enter Try.func10, Try.ntmps10
  go_upto_region 1 with fail
  generalize w.alloc (imgO h m) = w1 at *
  obtain ⟨q0, q1, q2, q3, q4, q5, q6⟩ := HBX.out
  go_wp2_with fail
  go_ret3
  exact step_bad 1 HW.out

theorem rstep_out2 (m : Img) (f pc : Int) (st : List (Int × Int)) (A : Option Addr) (cap : Nat) (h : Hnd) (w : World) (H : ImgIn w w.heap.size h m) (hf0 : 0 ≤ f) (hf : (m.methods.length : Int) ≤ f) :
    Calls Try.prog 10 #[imgV h m, .int .i64 f, .int .i64 pc, .slice A st.length cap] w (StepIs (stepOf m f pc st) w) := by
  have e0 : stepOf m f pc st = badStep 1 := by unfold stepOf; rw [if_neg (by omega)]
  rw [e0]
  clear e0
  have hle := H.methods.le
  have hcap := H.methods.cap
  have HW := Lib.hid (((Below.refl w.heap.size w).alloc (Nat.le_refl _) (imgO h m)))
  have HIM := Lib.hid (H.now HW.out)
  have HBX := Lib.hid (img_box w h m)
  have HZ : Hid (w.heap.size < (w.alloc (imgO h m)).heap.size) := Lib.hid (by simp)
  clear H
  go_enter Try.func10, Try.ntmps10
  go_upto_region 1 with fail
  generalize w.alloc (imgO h m) = w1 at *
  obtain ⟨q0, q1, q2, q3, q4, q5, q6⟩ := HBX.out
  have g0 : ¬ f < 0 := by omega
  go_wp2_with fail
  go_ret3
  exact step_bad 1 HW.out

theorem rstep_out3 (m : Img) (f pc : Int) (st : List (Int × Int)) (A : Option Addr) (cap : Nat) (h : Hnd) (w : World) (H : ImgIn w w.heap.size h m) (hf0 : 0 ≤ f) (hf : f < (m.methods.length : Int)) (hp : pc < 0) :
    Calls Try.prog 10 #[imgV h m, .int .i64 f, .int .i64 pc, .slice A st.length cap] w (StepIs (stepOf m f pc st) w) := by
  have e0 : stepOf m f pc st = badStep 1 := by unfold stepOf; rw [if_neg (by omega)]
  rw [e0]
  clear e0
  have hle := H.methods.le
  have hcap := H.methods.cap
  have HW := Lib.hid (((Below.refl w.heap.size w).alloc (Nat.le_refl _) (imgO h m)))
  have HIM := Lib.hid (H.now HW.out)
  have HBX := Lib.hid (img_box w h m)
  have HZ : Hid (w.heap.size < (w.alloc (imgO h m)).heap.size) := Lib.hid (by simp)
  clear H
  go_enter Try.func10, Try.ntmps10
  go_upto_region 1 with fail
  generalize w.alloc (imgO h m) = w1 at *
  obtain ⟨q0, q1, q2, q3, q4, q5, q6⟩ := HBX.out
  have g0 : ¬ f < 0 := by omega
  have g1 : ¬ (m.methods.length : Int) ≤ f := by omega
  go_wp2_with fail
  go_ret3
  exact step_bad 1 HW.out

theorem rstep_out4 (m : Img) (x : Mth) (f : Nat) (pc : Int) (st : List (Int × Int)) (A : Option Addr) (cap : Nat) (h : Hnd) (w : World) (H : ImgIn w w.heap.size h m) (hg : m.methods[f]? = some x) (hp0 : 0 ≤ pc) (hp : (x.code.length : Int) ≤ pc) :
    Calls Try.prog 10 #[imgV h m, .int .i64 f, .int .i64 pc, .slice A st.length cap] w (StepIs (stepOf m f pc st) w) := by
  have hk : f < m.methods.length := (List.getElem?_eq_some_iff.mp hg).1
  have hx : m.methods[f] = x := (List.getElem?_eq_some_iff.mp hg).2
  have e0 : stepOf m f pc st = badStep 1 := by unfold stepOf mthN; rw [Int.toNat_natCast, hg, Option.getD_some, if_neg (by omega)]
  rw [e0]
  clear e0
  have hle := H.methods.le
  have hcap := H.methods.cap
  have HW := Lib.hid (((Below.refl w.heap.size w).alloc (Nat.le_refl _) (imgO h m)))
  have HIM := Lib.hid (H.now HW.out)
  have HBX := Lib.hid (img_box w h m)
  have HZ : Hid (w.heap.size < (w.alloc (imgO h m)).heap.size) := Lib.hid (by simp)
  clear H hg
  go_enter Try.func10, Try.ntmps10
  go_upto_region 1 with fail
  generalize w.alloc (imgO h m) = w1 at *
  obtain ⟨q0, q1, q2, q3, q4, q5, q6⟩ := HBX.out
  obtain ⟨ad, hx', eA, hab, hin, hc⟩ := img_mth HIM.out hk
  rw [hx] at hin hc
  have ccap := hin.code.cap
  have cle := hin.code.le
  have c4 := hc.c4
  rw [eA] at q3
  clear hin hc eA
  have g0 : ¬ (f : Int) < 0 := by omega
  have g1 : ¬ (m.methods.length : Int) ≤ f := by omega
  have g2 : ¬ pc < 0 := by omega
  go_wp2_with fail
  go_ret3
  exact step_bad 1 HW.out

end Go.Proofs.Ytndacljmcofopaa
