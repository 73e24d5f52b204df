/-
  The statement on classes that a third one is below (ClassTree), walked: it answers true at any image and numbers.
-/
import Derived.Test.YtcehkmnneimdeaaClassLaws
import Derived.Deep.RegionHeld3
import Derived.Deep.QuietTactic
import Derived.BigQuiet
namespace Go.Proofs.Ytcehkmnneimdeaa
set_option maxRecDepth 100000
set_option linter.unusedVariables false
set_option linter.unusedSimpArgs false
open Go.ChangeShapes Go.WideShapes Go.ChangeAt Go.RowKit
set_option linter.unusedVariables false
set_option linter.unusedSimpArgs false

set_option maxHeartbeats 3200000 in
theorem classTree_any (m : Img) (h : Hnd) (a b c : Int) (w : World) (a0 : 0 ≤ a) (a1 : a ≤ 255) (b0 : 0 ≤ b) (b1 : b ≤ 255) (c0 : 0 ≤ c) (c1 : c ≤ 255) (H : ImgIn w w.heap.size h m) (hs : ImgSized m) :
    Calls Try.prog 6 #[imgV h m, .int .u8 a, .int .u8 b, .int .u8 c] w fun e w' => e = .returned (.bool true) ∧ Below w.heap.size w w' := by
  have HW := Lib.hid (below_box (w := w) (h := h) (m := m))
  have HBX := Lib.hid (img_box w h m)
  have HZ : Hid (w.heap.size < (w.alloc (imgO h m)).heap.size) := Lib.hid (by simp)
  have HI := Lib.hid (H.now HW.out)
  have HFZ : Hid (∀ x ∈ m.classes, x.fields.length ≤ 140737488355328) := Lib.hid (fun x hx => by have := (hs.ct x hx).1; omega)
  obtain ⟨r, hr⟩ : ∃ r, fewB m.classes = r := ⟨_, rfl⟩
  have HR := Lib.hid hr
  have hle := H.classes.le
  have hcap := H.classes.cap
  clear H hr hs
  go_enter Try.func6, Try.ntmps6
  go_upto_region 1 with fail
  generalize w.alloc (imgO h m) = w1 at *
  obtain ⟨q0, q1, q2, q3, q4, q5, q6⟩ := HBX.out
  have HX : Hid (Below w1.heap.size w1 w1) := Lib.hid (Below.refl _ _)
  cases r
  · go_wp2_with (first | (go_at_call 7; (with_reducible refine (few_is HI HX HR HFZ).mono ?_); rintro e w7 ⟨rfl, hb⟩; have HX := Lib.hid (HX.out.trans (hb.mono HX.out.size)); obtain ⟨q0, q1, q2, q3, q4, q5, q6⟩ := HBX.out.keep HX.out HZ.out; clear hb) | (go_at_call 8; (with_reducible refine (classAwake_any _).mono ?_); rintro e w7 ⟨rfl, hb⟩; have HX := Lib.hid (HX.out.trans (hb.mono HX.out.size)); obtain ⟨q0, q1, q2, q3, q4, q5, q6⟩ := HBX.out.keep HX.out HZ.out; clear hb))
    go_ret
    exact ⟨by first | rfl | simp, HW.out.trans (HX.out.mono (Nat.le_of_lt HZ.out))⟩
  obtain ⟨hn, hf⟩ := fewB_yes HR.out
  have HF := Lib.hid hf
  clear hf
  by_cases hz : m.classes.length = 0
  · have ht : ((m.classes.length : Int) == 0) = true := beq_iff_eq.mpr (by omega)
    clear hz
    go_wp2_with (first | (go_at_call 7; (with_reducible refine (few_is HI HX HR HFZ).mono ?_); rintro e w7 ⟨rfl, hb⟩; have HX := Lib.hid (HX.out.trans (hb.mono HX.out.size)); obtain ⟨q0, q1, q2, q3, q4, q5, q6⟩ := HBX.out.keep HX.out HZ.out; clear hb) | (go_at_call 8; (with_reducible refine (classAwake_any _).mono ?_); rintro e w7 ⟨rfl, hb⟩; have HX := Lib.hid (HX.out.trans (hb.mono HX.out.size)); obtain ⟨q0, q1, q2, q3, q4, q5, q6⟩ := HBX.out.keep HX.out HZ.out; clear hb))
    go_ret
    exact ⟨by first | rfl | simp, HW.out.trans (HX.out.mono (Nat.le_of_lt HZ.out))⟩
  have hnp : 0 < m.classes.length := by omega
  have ht : ((m.classes.length : Int) == 0) = false := beq_eq_false_iff_ne.mpr (by omega)
  clear hz
  go_wp2_with (first | (go_at_call 7; (with_reducible refine (few_is HI HX HR HFZ).mono ?_); rintro e w7 ⟨rfl, hb⟩; have HX := Lib.hid (HX.out.trans (hb.mono HX.out.size)); obtain ⟨q0, q1, q2, q3, q4, q5, q6⟩ := HBX.out.keep HX.out HZ.out; clear hb))
  obtain ⟨x, hx, e1, e2⟩ := mod_in a0 hnp
  obtain ⟨y, hy, e3, e4⟩ := mod_in b0 hnp
  obtain ⟨z, hz, e5, e6⟩ := mod_in c0 hnp
  go_quiet (fail)
  have HX := Lib.hid (below_drewN' HX.out nq)
  clear q0 q1 q2 q3 q4 q5 q6 e1 e2 e3 e4 e5 e6
  generalize World.drewN _ nq = w2 at *
  obtain ⟨q0, q1, q2, q3, q4, q5, q6⟩ := HBX.out.keep HX.out HZ.out
  obtain ⟨Lx, hLx⟩ : ∃ L, belowOf m.classes (x : Int) = L := ⟨_, rfl⟩
  obtain ⟨Ly, hLy⟩ : ∃ L, belowOf m.classes (y : Int) = L := ⟨_, rfl⟩
  obtain ⟨b1, hb1⟩ : ∃ b, inB Lx (z : Int) = b := ⟨_, rfl⟩
  obtain ⟨b2, hb2⟩ : ∃ b, inB Ly (z : Int) = b := ⟨_, rfl⟩
  obtain ⟨b3, hb3⟩ : ∃ b, inB Lx (y : Int) = b := ⟨_, rfl⟩
  obtain ⟨b4, hb4⟩ : ∃ b, inB Ly (x : Int) = b := ⟨_, rfl⟩
  have HM : Hid (b1 = true → b2 = true → (b3 = true ∨ b4 = true)) := Lib.hid (fun g1 g2 => by
    rw [← hb3, ← hb4, ← hLx, ← hLy]
    exact below_line hx hy hz (by rw [hLx, hb1, g1]) (by rw [hLy, hb2, g2]))
  have HLx := Lib.hid hLx
  have HLy := Lib.hid hLy
  have HB1 := Lib.hid hb1
  have HB2 := Lib.hid hb2
  have HB3 := Lib.hid hb3
  have HB4 := Lib.hid hb4
  clear hLx hLy hb1 hb2 hb3 hb4
  cases b1
  · go_wp2_with (first | (go_at_call 16; (with_reducible refine (cbelow_is HI HX HLx hn).mono ?_); rintro e w7 ⟨v7, rfl, ho, hb⟩; obtain ⟨A7, c7, rfl, hl7, g1, g2⟩ := own_ints ho; have HLL := Lib.hid hl7; have hll : _ ≤ 9223372036854775807 := Nat.le_trans g1 g2; clear ho hl7 g1 g2; have HX := Lib.hid (HX.out.trans (hb.mono HX.out.size)); obtain ⟨q0, q1, q2, q3, q4, q5, q6⟩ := HBX.out.keep HX.out HZ.out; clear hb) | (go_at_call 20; (with_reducible refine (rin_any _ _ _ _ _ _ hll HLL.out).mono ?_); rintro e w7 ⟨he, rfl⟩; (first | rw [HB1.out] at he); subst he) | (go_at_call 8; (with_reducible refine (classAwake_any _).mono ?_); rintro e w7 ⟨rfl, hb⟩; have HX := Lib.hid (HX.out.trans (hb.mono HX.out.size)); obtain ⟨q0, q1, q2, q3, q4, q5, q6⟩ := HBX.out.keep HX.out HZ.out; clear hb))
    go_ret
    exact ⟨by first | rfl | simp, HW.out.trans (HX.out.mono (Nat.le_of_lt HZ.out))⟩
  cases b2
  · go_wp2_with (first | (go_at_call 16; (with_reducible refine (cbelow_is HI HX HLx hn).mono ?_); rintro e w7 ⟨v7, rfl, ho, hb⟩; obtain ⟨A7, c7, rfl, hl7, g1, g2⟩ := own_ints ho; have HLL := Lib.hid hl7; have hll : _ ≤ 9223372036854775807 := Nat.le_trans g1 g2; clear ho hl7 g1 g2; have HX := Lib.hid (HX.out.trans (hb.mono HX.out.size)); obtain ⟨q0, q1, q2, q3, q4, q5, q6⟩ := HBX.out.keep HX.out HZ.out; clear hb) | (go_at_call 16; (with_reducible refine (cbelow_is HI HX HLy hn).mono ?_); rintro e w7 ⟨v7, rfl, ho, hb⟩; obtain ⟨A7, c7, rfl, hl7, g1, g2⟩ := own_ints ho; have HLL := Lib.hid hl7; have hll : _ ≤ 9223372036854775807 := Nat.le_trans g1 g2; clear ho hl7 g1 g2; have HX := Lib.hid (HX.out.trans (hb.mono HX.out.size)); obtain ⟨q0, q1, q2, q3, q4, q5, q6⟩ := HBX.out.keep HX.out HZ.out; clear hb) | (go_at_call 20; (with_reducible refine (rin_any _ _ _ _ _ _ hll HLL.out).mono ?_); rintro e w7 ⟨he, rfl⟩; (first | rw [HB1.out] at he | rw [HB2.out] at he); subst he) | (go_at_call 8; (with_reducible refine (classAwake_any _).mono ?_); rintro e w7 ⟨rfl, hb⟩; have HX := Lib.hid (HX.out.trans (hb.mono HX.out.size)); obtain ⟨q0, q1, q2, q3, q4, q5, q6⟩ := HBX.out.keep HX.out HZ.out; clear hb))
    go_ret
    exact ⟨by first | rfl | simp, HW.out.trans (HX.out.mono (Nat.le_of_lt HZ.out))⟩
  cases b3
  · have e4 : b4 = true := by rcases HM.out rfl rfl with g | g; exact absurd g (by decide); exact g
    subst e4
    go_wp2_with (first | (go_at_call 16; (with_reducible refine (cbelow_is HI HX HLx hn).mono ?_); rintro e w7 ⟨v7, rfl, ho, hb⟩; obtain ⟨A7, c7, rfl, hl7, g1, g2⟩ := own_ints ho; have HLL := Lib.hid hl7; have hll : _ ≤ 9223372036854775807 := Nat.le_trans g1 g2; clear ho hl7 g1 g2; have HX := Lib.hid (HX.out.trans (hb.mono HX.out.size)); obtain ⟨q0, q1, q2, q3, q4, q5, q6⟩ := HBX.out.keep HX.out HZ.out; clear hb) | (go_at_call 16; (with_reducible refine (cbelow_is HI HX HLy hn).mono ?_); rintro e w7 ⟨v7, rfl, ho, hb⟩; obtain ⟨A7, c7, rfl, hl7, g1, g2⟩ := own_ints ho; have HLL := Lib.hid hl7; have hll : _ ≤ 9223372036854775807 := Nat.le_trans g1 g2; clear ho hl7 g1 g2; have HX := Lib.hid (HX.out.trans (hb.mono HX.out.size)); obtain ⟨q0, q1, q2, q3, q4, q5, q6⟩ := HBX.out.keep HX.out HZ.out; clear hb) | (go_at_call 20; (with_reducible refine (rin_any _ _ _ _ _ _ hll HLL.out).mono ?_); rintro e w7 ⟨he, rfl⟩; (first | rw [HB1.out] at he | rw [HB2.out] at he | rw [HB3.out] at he | rw [HB4.out] at he); subst he) | (go_at_call 8; (with_reducible refine (classAwake_any _).mono ?_); rintro e w7 ⟨rfl, hb⟩; have HX := Lib.hid (HX.out.trans (hb.mono HX.out.size)); obtain ⟨q0, q1, q2, q3, q4, q5, q6⟩ := HBX.out.keep HX.out HZ.out; clear hb))
    go_ret
    exact ⟨by first | rfl | simp, HW.out.trans (HX.out.mono (Nat.le_of_lt HZ.out))⟩
  · go_wp2_with (first | (go_at_call 16; (with_reducible refine (cbelow_is HI HX HLx hn).mono ?_); rintro e w7 ⟨v7, rfl, ho, hb⟩; obtain ⟨A7, c7, rfl, hl7, g1, g2⟩ := own_ints ho; have HLL := Lib.hid hl7; have hll : _ ≤ 9223372036854775807 := Nat.le_trans g1 g2; clear ho hl7 g1 g2; have HX := Lib.hid (HX.out.trans (hb.mono HX.out.size)); obtain ⟨q0, q1, q2, q3, q4, q5, q6⟩ := HBX.out.keep HX.out HZ.out; clear hb) | (go_at_call 16; (with_reducible refine (cbelow_is HI HX HLy hn).mono ?_); rintro e w7 ⟨v7, rfl, ho, hb⟩; obtain ⟨A7, c7, rfl, hl7, g1, g2⟩ := own_ints ho; have HLL := Lib.hid hl7; have hll : _ ≤ 9223372036854775807 := Nat.le_trans g1 g2; clear ho hl7 g1 g2; have HX := Lib.hid (HX.out.trans (hb.mono HX.out.size)); obtain ⟨q0, q1, q2, q3, q4, q5, q6⟩ := HBX.out.keep HX.out HZ.out; clear hb) | (go_at_call 20; (with_reducible refine (rin_any _ _ _ _ _ _ hll HLL.out).mono ?_); rintro e w7 ⟨he, rfl⟩; (first | rw [HB1.out] at he | rw [HB2.out] at he | rw [HB3.out] at he); subst he) | (go_at_call 8; (with_reducible refine (classAwake_any _).mono ?_); rintro e w7 ⟨rfl, hb⟩; have HX := Lib.hid (HX.out.trans (hb.mono HX.out.size)); obtain ⟨q0, q1, q2, q3, q4, q5, q6⟩ := HBX.out.keep HX.out HZ.out; clear hb))
    go_ret
    exact ⟨by first | rfl | simp, HW.out.trans (HX.out.mono (Nat.le_of_lt HZ.out))⟩
end Go.Proofs.Ytcehkmnneimdeaa
