/-
  What the statements' own word for images that are not too large (small) comes to: it answers yes or no, and leaves what there is alone.
-/
import Derived.Test.YtjgfoialajgfhaaRefFits2
namespace Go.Proofs.Ytjgfoialajgfhaa
set_option maxRecDepth 100000
set_option linter.unusedVariables false
set_option linter.unusedSimpArgs false
open Go.ChangeShapes Go.WideShapes Go.ChangeAt Go.RowKit
set_option linter.unusedVariables false

def SmallOut (w : World) (e : Ending) (w' : World) : Prop := ∃ b : Bool, e = .returned (.bool b) ∧ Below w.heap.size w w'

set_option maxHeartbeats 1600000 in
theorem small_any (m : Img) (h : Hnd) (B : Nat) (w : World) (hB : B ≤ w.heap.size) (H : ImgIn w B h m) :
    Calls Try.prog 6 #[imgV h m] w (SmallOut w) := by
  have HW := Lib.hid ((Below.refl w.heap.size w).alloc (Nat.le_refl _) (imgO h m))
  have HIM := Lib.hid (H.below_to HW.out hB)
  have HBX := Lib.hid (img_box w h m)
  have HZ : Hid (w.heap.size < (w.alloc (imgO h m)).heap.size) := Lib.hid (by simp)
  have HB : Hid (B ≤ (w.alloc (imgO h m)).heap.size) := Lib.hid (Nat.le_trans hB HW.out.size)
  clear hB H
  go_enter Try.func6, Try.ntmps6
  go_upto_region 1 with fail
  generalize w.alloc (imgO h m) = w1 at *
  obtain ⟨q0, q1, q2, q3, q4, q5, q6⟩ := HBX.out
  go_wp2_with fail
  · go_ret
    exact ⟨_, rfl, HW.out⟩
  · go_loopw [3] (fun i wr => ∃ k : Nat, k ≤ m.methods.length ∧ i = .int .i64 k ∧ Hid (Below w1.heap.size w1 wr)) (fun i _ => m.methods.length - (intOf i).toNat)
    case atStart => exact ⟨0, by omega, rfl, Lib.hid (Below.refl _ _)⟩
    case round =>
      clear q0 q1 q2 q3 q4 q5 q6
      obtain ⟨k, hk, rfl, HX⟩ := hrel
      obtain ⟨q0, q1, q2, q3, q4, q5, q6⟩ := HBX.out.keep HX.out HZ.out
      have l3 := HIM.out.methods.le
      have l3c := HIM.out.methods.cap
      by_cases hlt : k < m.methods.length
      · obtain ⟨ad, e0, hab, hc⟩ := (HIM.out.methods.below_to MthAt.keeps HX.out HB.out).row.at_ hlt
        rw [e0] at q3
        clear e0
        generalize m.methods[k] = x at *
        obtain ⟨⟨A0, k0, s0, hs0⟩, ⟨A1, k1, s1, hs1⟩, s2, s3, ⟨A4, k4, s4, hs4⟩, s5, s6, ⟨A7, k7, s7, hs7⟩⟩ := hc
        clear hs0 hs1 hs4 hs7
        go_wp2_with fail
        · go_ret
          exact ⟨_, rfl, HW.out.trans ((HX.out.alloc HX.out.size _).mono (Nat.le_of_lt HZ.out))⟩
        · go_roundw
          case rel => exact ⟨k + 1, by omega, by go_num, Lib.hid (HX.out.alloc HX.out.size _)⟩
          case measure => simp [intOf]; omega
      · go_wp2_with fail
        go_ret
        exact ⟨_, rfl, HW.out.trans (HX.out.mono (Nat.le_of_lt HZ.out))⟩
end Go.Proofs.Ytjgfoialajgfhaa
