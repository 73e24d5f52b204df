/-
  The method in a slot of a class (Slot), and how many cells an object takes (Size), by the program and by the document.
-/
import Derived.Test.YtcehkmnneimdeaaClassFields
namespace Go.Proofs.Ytcehkmnneimdeaa
set_option maxRecDepth 100000
set_option linter.unusedVariables false
set_option linter.unusedSimpArgs false
open Go.ChangeShapes Go.WideShapes Go.ChangeAt Go.RowKit

/-- The method in a slot of a class; whether there is one. -/
def slotOf (cl : List Cls) (c n : Int) : Option Int := if 0 ≤ c ∧ 0 ≤ n then cl[c.toNat]?.bind fun x => x.slots[n.toNat]? else none
theorem slotOf_yes {cl : List Cls} {i j : Nat} (hi : i < cl.length) (hj : j < cl[i].slots.length) : slotOf cl i j = some cl[i].slots[j] := by
  unfold slotOf
  rw [if_pos ⟨by omega, by omega⟩, Int.toNat_natCast, List.getElem?_eq_getElem hi, Int.toNat_natCast]
  simp [List.getElem?_eq_getElem hj]
theorem slotOf_class {cl : List Cls} {c n : Int} (h : c < 0 ∨ (cl.length : Int) ≤ c) : slotOf cl c n = none := by
  unfold slotOf
  split
  · rename_i g
    rw [List.getElem?_eq_none (by omega)]
    rfl
  · rfl
theorem slotOf_slot {cl : List Cls} {i : Nat} {n : Int} (hi : i < cl.length) (h : n < 0 ∨ (cl[i].slots.length : Int) ≤ n) : slotOf cl i n = none := by
  unfold slotOf
  split
  · rename_i g
    rw [Int.toNat_natCast, List.getElem?_eq_getElem hi]
    exact List.getElem?_eq_none (by omega)
  · rfl
def SlotOut (o : Option Int) (w : World) (e : Ending) (w' : World) : Prop := e = .returned (.tuple #[.int .i64 (o.getD 0), .bool o.isSome]) ∧ Below w.heap.size w w'

theorem cslot_any (m : Img) (c n : Int) (h : Hnd) (w : World) (H : ImgIn w w.heap.size h m) :
    Calls Try.prog 9 #[imgV h m, .int .i64 c, .int .i64 n] w (SlotOut (slotOf m.classes c n) w) := by
  have HW := Lib.hid ((Below.refl w.heap.size w).alloc (Nat.le_refl _) (imgO h m))
  have HIM := Lib.hid (H.now HW.out)
  have HBX := Lib.hid (img_box w h m)
  have hle := H.classes.le
  have hcap := H.classes.cap
  have hn63 : m.classes.length ≤ 9223372036854775807 := by omega
  clear H hle hcap
  by_cases hc : 0 ≤ c ∧ c < m.classes.length
  · obtain ⟨c0, c1⟩ := hc
    obtain ⟨i, rfl⟩ := Int.eq_ofNat_of_zero_le c0
    have hi : i < m.classes.length := by omega
    obtain ⟨ad, e0, hab, s0, ⟨A1, k1, s1, hs1⟩, ⟨A2, k2, s2, hs2⟩, _⟩ := HIM.out.classes.row.at_ hi
    have HE := Lib.hid e0
    clear e0
    have l1 := hs2.le
    have l2 := hs2.cap
    have hs63 : m.classes[i].slots.length ≤ 9223372036854775807 := by omega
    have HSL := Lib.hid hs2
    clear hs1 hs2
    by_cases hnn : 0 ≤ n ∧ n < m.classes[i].slots.length
    · obtain ⟨n0, n1⟩ := hnn
      obtain ⟨j, rfl⟩ := Int.eq_ofNat_of_zero_le n0
      have hj : j < m.classes[i].slots.length := by omega
      rw [slotOf_yes hi hj]
      obtain ⟨ad2, rfl, hab2, z0⟩ := HSL.out.row.at_ hj
      clear HSL
      rw [Nat.mul_one] at z0
      generalize m.classes[i].slots[j] = f at *
      generalize m.classes[i] = x at *
      go_enter Try.func9, Try.ntmps9
      go_upto_region 1 with fail
      generalize w.alloc (imgO h m) = w1 at *
      obtain ⟨q0, q1, q2, q3, q4, q5, q6⟩ := HBX.out
      rw [HE.out] at q0
      have HZ : Hid (∀ W, Below w1.heap.size w1 W → W.cell? (ad2.add j) = some (.int .i64 f)) := Lib.hid (fun W hW => (hW.cell (p := ad2.add j) (by rw [addr_add_block]; exact hab2)).trans z0)
      go_upto_region 2 with (go_at_call 22; (with_reducible refine (atcls_yes i m.classes.length h.c0 ad _ _ _ _ _ _ _ w1 hi hn63 hab s0 s1 s2).mono ?_); rintro e w2 ⟨rfl, hb⟩; have HB2 := Lib.hid hb; clear hb)
      have z2 := HZ.out _ (HB2.out.alloc HB2.out.size (.cells #[.int .i64 x.sup, .slice A1 x.fields.length k1, .slice (some ad2) x.slots.length k2] 50))
      go_wp2_with (go_at_call 23; (with_reducible refine (atint_yes j x.slots.length k2 ad2 f _ hj hs63 z2).mono ?_); rintro e w3 ⟨rfl, rfl⟩)
      go_ret2
      exact ⟨rfl, HW.out.trans ((HB2.out.alloc HB2.out.size _).mono HW.out.size)⟩
    · rw [slotOf_slot hi (by omega)]
      have hno : n < 0 ∨ (m.classes[i].slots.length : Int) ≤ n := by omega
      clear hnn HSL
      generalize m.classes[i] = x at *
      go_enter Try.func9, Try.ntmps9
      go_upto_region 1 with fail
      generalize w.alloc (imgO h m) = w1 at *
      obtain ⟨q0, q1, q2, q3, q4, q5, q6⟩ := HBX.out
      rw [HE.out] at q0
      go_upto_region 2 with (go_at_call 22; (with_reducible refine (atcls_yes i m.classes.length h.c0 ad _ _ _ _ _ _ _ w1 hi hn63 hab s0 s1 s2).mono ?_); rintro e w2 ⟨rfl, hb⟩; have HB2 := Lib.hid hb; clear hb)
      go_wp2_with (go_at_call 23; (with_reducible refine (atint_no n x.slots.length k2 A2 _ hs63 hno).mono ?_); rintro e w3 ⟨rfl, hb⟩; have HB3 := Lib.hid hb; clear hb)
      go_ret2
      exact ⟨rfl, HW.out.trans (((HB2.out.alloc HB2.out.size _).trans (HB3.out.mono (HB2.out.alloc HB2.out.size _).size)).mono HW.out.size)⟩
  · have hno : c < 0 ∨ (m.classes.length : Int) ≤ c := by omega
    rw [slotOf_class hno]
    have hz : n < 0 ∨ ((0 : Nat) : Int) ≤ n := by omega
    clear hc
    go_enter Try.func9, Try.ntmps9
    go_upto_region 1 with fail
    generalize w.alloc (imgO h m) = w1 at *
    obtain ⟨q0, q1, q2, q3, q4, q5, q6⟩ := HBX.out
    go_upto_region 2 with (go_at_call 22; (with_reducible refine (atcls_no c m.classes.length h.c0 h.A0 w1 hn63 hno).mono ?_); rintro e w2 ⟨rfl, hb⟩; have HB2 := Lib.hid hb; clear hb)
    go_wp2_with (go_at_call 23; (with_reducible refine (atint_no n 0 0 none _ (by omega) hz).mono ?_); rintro e w3 ⟨rfl, hb⟩; have HB3 := Lib.hid hb; clear hb)
    go_ret2
    exact ⟨rfl, HW.out.trans (((HB2.out.alloc HB2.out.size _).trans (HB3.out.mono (HB2.out.alloc HB2.out.size _).size)).mono HW.out.size)⟩
theorem cslot_is {m : Img} {h : Hnd} {w0 w : World} {c n : Int} {o : Option Int} (HI : Hid (ImgIn w0 w0.heap.size h m)) (HX : Hid (Below w0.heap.size w0 w)) (HO : Hid (slotOf m.classes c n = o)) :
    Calls Try.prog 9 #[imgV h m, .int .i64 c, .int .i64 n] w (SlotOut o w) := by
  have H := cslot_any m c n h w (HI.out.now HX.out)
  rw [HO.out] at H
  exact H
end Go.Proofs.Ytcehkmnneimdeaa
