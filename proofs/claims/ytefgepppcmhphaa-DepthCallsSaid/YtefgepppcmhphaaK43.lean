/-
  What depth.Frame and depth.Bound come to, as the laws want it.
  Which images the laws of the stack speak of (sane): as with the laws of a step.
  What the document's own answer for the cells of a frame (Frame) comes to.
-/
import Derived.Test.YtefgepppcmhphaaM24
import Derived.Test.YtefgepppcmhphaaM28
import Derived.Test.YtefgepppcmhphaaM42
import Derived.Test.YtefgepppcmhphaaM26
import Derived.Test.YtefgepppcmhphaaM36
import Derived.IntWalk
import Derived.RegionTactic
import Derived.ChangeAlike
import Derived.Deep.RegionHeld3
import Derived.Deep.QuietTactic
import Derived.BigQuiet
namespace Go.Proofs.Ytefgepppcmhphaa
set_option maxRecDepth 100000
set_option linter.unusedVariables false
set_option linter.unusedSimpArgs false
open Go.ChangeShapes Go.WideShapes Go.ChangeAt Go.RowKit

theorem dframe_any (m : Img) (maps : List (List Shp)) (f : Int) (A : Option Addr) (c : Nat) (h : Hnd) (w : World) (H : ImgIn w w.heap.size h m) (hs : saneB8 m = true) (hM : SlcIs (SlcAt ShpAt 2) 1 w w.heap.size A c maps) (hz : MapsTo 4000 maps) (_hl : maps.length = m.methods.length) :
    Calls Try.prog 11 #[imgV h m, .slice A maps.length c, .int .i64 f] w fun e w' => e = .returned (.int .i64 (frameOf m maps f)) ∧ Below w.heap.size w w' :=
  dframe_own m maps f A c h w H (saneB8_yes hs) hM hz
theorem dbound_any (m : Img) (maps : List (List Shp)) (A : Option Addr) (c : Nat) (h : Hnd) (w : World) (H : ImgIn w w.heap.size h m) (hs : saneB8 m = true) (hM : SlcIs (SlcAt ShpAt 2) 1 w w.heap.size A c maps) (hz : MapsTo 4000 maps) (_hl : maps.length = m.methods.length) :
    Calls Try.prog 9 #[imgV h m, .slice A maps.length c] w (DBoundOut m maps w) :=
  dbound_own m maps A c h w H hs hM hz

set_option maxHeartbeats 1600000 in
theorem sane13_any (m : Img) (h : Hnd) (w : World) (H : ImgIn w w.heap.size h m) :
    Calls Try.prog 6 #[imgV h m] w fun e w' => e = .returned (.bool (saneB8 m)) ∧ Below w.heap.size w w' := by
  have HW := Lib.hid ((Below.refl w.heap.size w).alloc (Nat.le_refl _) (imgO h m))
  have HIM := Lib.hid (H.now HW.out)
  have HBX := Lib.hid (img_box w h m)
  have l0 := H.classes.le
  have l0c := H.classes.cap
  have l2 := H.ints.le
  have l2c := H.ints.cap
  have l3 := H.methods.le
  have l3c := H.methods.cap
  obtain ⟨r, hr⟩ : ∃ r, saneR m = r := ⟨_, rfl⟩
  have HR := Lib.hid hr
  have HE := Lib.hid (show saneB8 m = (decide (m.methods.length ≤ 12) && (decide (m.classes.length ≤ 8) && (decide (m.ints.length ≤ 16) && decide (r = 0)))) by rw [← hr]; rfl)
  clear H hr
  go_enter Try.func6, Try.ntmps6
  go_upto_region 1 with fail
  generalize w.alloc (imgO h m) = w1 at *
  obtain ⟨q0, q1, q2, q3, q4, q5, q6⟩ := HBX.out
  by_cases h3 : m.methods.length ≤ 12
  rotate_left
  · have i3 : ¬ (m.methods.length : Int) ≤ 12 := by omega
    go_wp2_with fail
    go_ret
    exact ⟨by rw [HE.out, decide_eq_false h3]; rfl, HW.out⟩
  have i3 : (m.methods.length : Int) ≤ 12 := by omega
  by_cases h0 : m.classes.length ≤ 8
  rotate_left
  · have i0 : ¬ (m.classes.length : Int) ≤ 8 := by omega
    go_wp2_with fail
    go_ret
    exact ⟨by rw [HE.out, decide_eq_false h0, Bool.false_and, Bool.and_false]; rfl, HW.out⟩
  have i0 : (m.classes.length : Int) ≤ 8 := by omega
  by_cases h2 : m.ints.length ≤ 16
  rotate_left
  · have i2 : ¬ (m.ints.length : Int) ≤ 16 := by omega
    go_wp2_with fail
    go_ret
    exact ⟨by rw [HE.out, decide_eq_false h2, Bool.false_and, Bool.and_false, Bool.and_false]; rfl, HW.out⟩
  have i2 : (m.ints.length : Int) ≤ 16 := by omega
  have HD := Lib.hid (show saneB8 m = decide (r = 0) by rw [HE.out, decide_eq_true h3, decide_eq_true h0, decide_eq_true h2, Bool.true_and, Bool.true_and, Bool.true_and])
  clear h3 h0 h2
  go_wp2_with (first | (go_at_call 17; (with_reducible refine (rsane_any m h w1 HIM.out).mono ?_); rintro e w' ⟨rfl, hb⟩; rw [HR.out]; have HX := Lib.hid (HW.out.trans (hb.mono HW.out.size)); clear hb))
  go_ret
  exact ⟨by rw [HD.out]; rfl, HX.out⟩
theorem sane13_is {m : Img} {h : Hnd} {w0 w : World} {r : Bool} (HI : Hid (ImgIn w0 w0.heap.size h m)) (HX : Hid (Below w0.heap.size w0 w)) (HR : Hid (saneB8 m = r)) :
    Calls Try.prog 6 #[imgV h m] w fun e w' => e = .returned (.bool r) ∧ Below w.heap.size w w' := by
  have H := sane13_any m h w (HI.out.now HX.out)
  rw [HR.out] at H
  exact H

end Go.Proofs.Ytefgepppcmhphaa
