/-
  What the document's own answer for the method in a slot (Slot) comes to.
-/
import Derived.Test.YtjjgpcmdoodjnaaM19
namespace Go.Proofs.Ytjjgpcmdoodjnaa
set_option maxRecDepth 100000
set_option linter.unusedVariables false
set_option linter.unusedSimpArgs false
open Go.ChangeShapes Go.WideShapes Go.ChangeAt Go.RowKit

theorem rslot_any (m : Img) (c n : Int) (h : Hnd) (w : World) (H : ImgIn w w.heap.size h m) :
    Calls Try.prog 37 #[imgV h m, .int .i64 c, .int .i64 n] w (SlotOut (slotOf m.classes c n) w) := by
  have HW := Lib.hid ((Below.refl w.heap.size w).alloc (Nat.le_refl _) (imgO h m))
  have HIM := Lib.hid (H.now HW.out)
  have HBX := Lib.hid (img_box w h m)
  have hle := H.classes.le
  have hcap := H.classes.cap
  have hn63 : m.classes.length ≤ 9223372036854775807 := by omega
  clear H hle hcap
  by_cases hc : 0 ≤ c ∧ c < m.classes.length
  · obtain ⟨c0, c1⟩ := hc
    obtain ⟨i, rfl⟩ := Int.eq_ofNat_of_zero_le c0
    have hi : i < m.classes.length := by omega
    clear c0 c1
    obtain ⟨ad, e0, hab, s0, ⟨A1, k1, s1, hs1⟩, ⟨A2, k2, s2, hs2⟩, _⟩ := HIM.out.classes.row.at_ hi
    have HE := Lib.hid e0
    clear e0
    have l1 := hs2.le
    have l2 := hs2.cap
    have hs63 : m.classes[i].slots.length ≤ 9223372036854775807 := by omega
    have HSL := Lib.hid hs2
    clear hs1 hs2 l1 l2
    by_cases hnn : 0 ≤ n ∧ n < m.classes[i].slots.length
    · obtain ⟨n0, n1⟩ := hnn
      obtain ⟨j, rfl⟩ := Int.eq_ofNat_of_zero_le n0
      have hj : j < m.classes[i].slots.length := by omega
      clear n0 n1
      rw [slotOf_yes hi hj]
      obtain ⟨ad2, rfl, hab2, z0⟩ := HSL.out.row.at_ hj
      clear HSL
      rw [Nat.mul_one] at z0
      generalize m.classes[i].slots[j] = f at *
      generalize m.classes[i] = x at *
      have z0' : (w.alloc (imgO h m)).cell? (ad2.add j) = some (.int .i64 f) := z0
      clear z0
      go_enter Try.func37, Try.ntmps37
      go_upto_region 1 with fail
      generalize w.alloc (imgO h m) = w1 at *
      obtain ⟨q0, q1, q2, q3, q4, q5, q6⟩ := HBX.out
      rw [HE.out] at q0
      go_wp2_with fail
      go_ret2
      exact ⟨rfl, HW.out⟩
    · rw [slotOf_slot hi (by omega)]
      have hno : n < 0 ∨ (m.classes[i].slots.length : Int) ≤ n := by omega
      clear hnn HSL
      generalize m.classes[i] = x at *
      rcases hno with hno | hno
      · go_enter Try.func37, Try.ntmps37
        go_upto_region 1 with fail
        generalize w.alloc (imgO h m) = w1 at *
        obtain ⟨q0, q1, q2, q3, q4, q5, q6⟩ := HBX.out
        rw [HE.out] at q0
        go_wp2_with fail
        go_ret2
        exact ⟨rfl, HW.out⟩
      · have hn0 : 0 ≤ n := by omega
        go_enter Try.func37, Try.ntmps37
        go_upto_region 1 with fail
        generalize w.alloc (imgO h m) = w1 at *
        obtain ⟨q0, q1, q2, q3, q4, q5, q6⟩ := HBX.out
        rw [HE.out] at q0
        go_wp2_with fail
        go_ret2
        exact ⟨rfl, HW.out⟩
  · have hno : c < 0 ∨ (m.classes.length : Int) ≤ c := by omega
    rw [slotOf_class hno]
    clear hc
    rcases hno with hno | hno
    · go_enter Try.func37, Try.ntmps37
      go_upto_region 1 with fail
      generalize w.alloc (imgO h m) = w1 at *
      obtain ⟨q0, q1, q2, q3, q4, q5, q6⟩ := HBX.out
      go_wp2_with fail
      go_ret2
      exact ⟨rfl, HW.out⟩
    · have hn0 : 0 ≤ c := by omega
      go_enter Try.func37, Try.ntmps37
      go_upto_region 1 with fail
      generalize w.alloc (imgO h m) = w1 at *
      obtain ⟨q0, q1, q2, q3, q4, q5, q6⟩ := HBX.out
      go_wp2_with fail
      go_ret2
      exact ⟨rfl, HW.out⟩
theorem rslot_is {m : Img} {h : Hnd} {w0 w : World} {c n : Int} {o : Option Int} (HI : Hid (ImgIn w0 w0.heap.size h m)) (HX : Hid (Below w0.heap.size w0 w)) (HO : Hid (slotOf m.classes c n = o)) :
    Calls Try.prog 37 #[imgV h m, .int .i64 c, .int .i64 n] w (SlotOut o w) := by
  have H := rslot_any m c n h w (HI.out.now HX.out)
  rw [HO.out] at H
  exact H
end Go.Proofs.Ytjjgpcmdoodjnaa
