/-
  The statement on what any class has (ClassHas), walked: it answers true at any image and numbers.
-/
import Derived.Test.YtcehkmnneimdeaaClassLaws
import Derived.IntWalk
import Derived.Deep.RegionHeld3
import Derived.Deep.QuietTactic
import Derived.BigQuiet
namespace Go.Proofs.Ytcehkmnneimdeaa
set_option maxRecDepth 100000
set_option linter.unusedVariables false
set_option linter.unusedSimpArgs false
open Go.ChangeShapes Go.WideShapes Go.ChangeAt Go.RowKit
set_option linter.unusedVariables false
set_option linter.unusedSimpArgs false

set_option maxHeartbeats 6400000 in
theorem classHas_any (m : Img) (h : Hnd) (c n : Int) (w : World) (H : ImgIn w w.heap.size h m) (hs : ImgSized m) :
    Calls Try.prog 3 #[imgV h m, .int .i64 c, .int .i64 n] w fun e w' => e = .returned (.bool true) ∧ Below w.heap.size w w' := by
  have HW := Lib.hid (below_box (w := w) (h := h) (m := m))
  have HBX := Lib.hid (img_box w h m)
  have HZ : Hid (w.heap.size < (w.alloc (imgO h m)).heap.size) := Lib.hid (by simp)
  have HI := Lib.hid (H.now HW.out)
  have HFZ : Hid (∀ x ∈ m.classes, x.fields.length ≤ 140737488355328) := Lib.hid (fun x hx => by have := (hs.ct x hx).1; omega)
  obtain ⟨r, hr⟩ : ∃ r, fewB m.classes = r := ⟨_, rfl⟩
  have HR := Lib.hid hr
  have hle := H.classes.le
  have hcap := H.classes.cap
  clear H hr hs
  go_enter Try.func3, Try.ntmps3
  go_upto_region 1 with fail
  generalize w.alloc (imgO h m) = w1 at *
  obtain ⟨q0, q1, q2, q3, q4, q5, q6⟩ := HBX.out
  have HX : Hid (Below w1.heap.size w1 w1) := Lib.hid (Below.refl _ _)
  cases r
  · go_wp2_with (first | (go_at_call 7; (with_reducible refine (few_is HI HX HR HFZ).mono ?_); rintro e w7 ⟨rfl, hb⟩; have HX := Lib.hid (HX.out.trans (hb.mono HX.out.size)); obtain ⟨q0, q1, q2, q3, q4, q5, q6⟩ := HBX.out.keep HX.out HZ.out; clear hb) | (go_at_call 8; (with_reducible refine (classAwake_any _).mono ?_); rintro e w7 ⟨rfl, hb⟩; have HX := Lib.hid (HX.out.trans (hb.mono HX.out.size)); obtain ⟨q0, q1, q2, q3, q4, q5, q6⟩ := HBX.out.keep HX.out HZ.out; clear hb))
    go_ret
    exact ⟨by first | rfl | simp, HW.out.trans (HX.out.mono (Nat.le_of_lt HZ.out))⟩
  obtain ⟨hn, hf⟩ := fewB_yes HR.out
  have HF := Lib.hid hf
  have hLl := fieldsOf_len hf hn c
  clear hf
  obtain ⟨o, ho⟩ : ∃ o, slotOf m.classes c n = o := ⟨_, rfl⟩
  have HSL := Lib.hid ho
  obtain ⟨L, hL⟩ : ∃ L, fieldsOf m.classes c = L := ⟨_, rfl⟩
  have HK : Hid (1 + ((fieldsOf m.classes c).length : Int) = 1 + (L.length : Int)) := Lib.hid (by rw [hL])
  rw [hL] at hLl
  have HL := Lib.hid hL
  obtain ⟨LB, hLB⟩ : ∃ L, belowOf m.classes c = L := ⟨_, rfl⟩
  have HLB := Lib.hid hLB
  clear ho hL hLB
  go_upto_region 6 with (first | (go_at_call 7; (with_reducible refine (few_is HI HX HR HFZ).mono ?_); rintro e w7 ⟨rfl, hb⟩; have HX := Lib.hid (HX.out.trans (hb.mono HX.out.size)); obtain ⟨q0, q1, q2, q3, q4, q5, q6⟩ := HBX.out.keep HX.out HZ.out; clear hb) | (go_at_call 9; (with_reducible refine (cslot_is HI HX HSL).mono ?_); rintro e w7 ⟨rfl, hb⟩; have HX := Lib.hid (HX.out.trans (hb.mono HX.out.size)); obtain ⟨q0, q1, q2, q3, q4, q5, q6⟩ := HBX.out.keep HX.out HZ.out; clear hb) | (go_at_call 10; (with_reducible refine (rslot_is HI HX HSL).mono ?_); rintro e w7 ⟨rfl, hb⟩; have HX := Lib.hid (HX.out.trans (hb.mono HX.out.size)); obtain ⟨q0, q1, q2, q3, q4, q5, q6⟩ := HBX.out.keep HX.out HZ.out; clear hb) | (go_at_call 11; (with_reducible refine (rfields_is HI HX HL hn HF).mono ?_); rintro e w7 ⟨v7, rfl, ho, hb⟩; obtain ⟨A1, k1, rfl, hS, _⟩ := own_types ho; have HS1 := Lib.hid hS; have HY : Hid (Below w7.heap.size w7 w7) := Lib.hid (Below.refl _ _); clear ho hS; have HX := Lib.hid (HX.out.trans (hb.mono HX.out.size)); obtain ⟨q0, q1, q2, q3, q4, q5, q6⟩ := HBX.out.keep HX.out HZ.out; clear hb))
  have HX := Lib.hid HX.out.drew
  have HY := Lib.hid HY.out.drew
  have hw1 : IntKind.i64.wrap (1 + (L.length : Int)) = 1 + (L.length : Int) := IntWalk.i64_in _ (by omega)
  go_region_held3 (fun w' => w'.cell? ⟨w.heap.size, 0, none⟩ = some (.slice h.A0 m.classes.length h.c0) ∧ w'.cell? ⟨w.heap.size, 1, none⟩ = some (.slice h.A1 m.statics.length h.c1) ∧ w'.cell? ⟨w.heap.size, 2, none⟩ = some (.slice h.A2 m.ints.length h.c2) ∧ w'.cell? ⟨w.heap.size, 3, none⟩ = some (.slice h.A3 m.methods.length h.c3) ∧ w'.cell? ⟨w.heap.size, 4, none⟩ = some (.slice h.A4 m.entries.length h.c4) ∧ w'.cell? ⟨w.heap.size, 5, none⟩ = some (.int .i64 m.stack) ∧ w'.cell? ⟨w.heap.size, 6, none⟩ = some (.int .i64 m.heap)) (first | exact ⟨q0, q1, q2, q3, q4, q5, q6⟩) (first | (go_at_call 8; (with_reducible refine (classAwake_any _).mono ?_); rintro e w8 ⟨rfl, hb⟩; have HX := Lib.hid (HX.out.trans (hb.mono HX.out.size)); obtain ⟨q0, q1, q2, q3, q4, q5, q6⟩ := HBX.out.keep HX.out HZ.out; have HY := Lib.hid (HY.out.trans (hb.mono HY.out.size)); clear hb) | (go_at_call 13; (with_reducible refine (cfields_is HI HX HL hn HF).mono ?_); rintro e w8 ⟨v8, rfl, ho, hb⟩; obtain ⟨A2, k2, rfl, hS, _⟩ := own_types ho; have HS2 := Lib.hid hS; clear ho hS; have HX := Lib.hid (HX.out.trans (hb.mono HX.out.size)); obtain ⟨q0, q1, q2, q3, q4, q5, q6⟩ := HBX.out.keep HX.out HZ.out; have HY := Lib.hid (HY.out.trans (hb.mono HY.out.size)); clear hb) | (go_at_call 12; (with_reducible refine (types_is HS1 HY HS2).mono ?_); rintro e w8 ⟨rfl, hb⟩; have HX := Lib.hid (HX.out.trans (hb.mono HX.out.size)); obtain ⟨q0, q1, q2, q3, q4, q5, q6⟩ := HBX.out.keep HX.out HZ.out; have HY := Lib.hid (HY.out.trans (hb.mono HY.out.size)); clear hb) | (go_at_call 14; (with_reducible refine (csize_is HI HX HK hn HF).mono ?_); rintro e w8 ⟨rfl, hb⟩; have HX := Lib.hid (HX.out.trans (hb.mono HX.out.size)); obtain ⟨q0, q1, q2, q3, q4, q5, q6⟩ := HBX.out.keep HX.out HZ.out; have HY := Lib.hid (HY.out.trans (hb.mono HY.out.size)); clear hb) | (go_at_call 16; (with_reducible refine (cbelow_is HI HX HLB hn).mono ?_); rintro e w8 ⟨v8, rfl, ho, hb⟩; obtain ⟨A3, k3, rfl, hS⟩ := own_intslc ho; have HM1 := Lib.hid hS; have HM : Hid (Below w8.heap.size w8 w8) := Lib.hid (Below.refl _ _); clear ho hS; have HX := Lib.hid (HX.out.trans (hb.mono HX.out.size)); obtain ⟨q0, q1, q2, q3, q4, q5, q6⟩ := HBX.out.keep HX.out HZ.out; have HY := Lib.hid (HY.out.trans (hb.mono HY.out.size)); clear hb) | (go_at_call 17; (with_reducible refine (rbelow_is HI HX HLB hn).mono ?_); rintro e w9 ⟨v9, rfl, ho, hb⟩; obtain ⟨A4, k4, rfl, hS⟩ := own_intslc ho; have HM2 := Lib.hid hS; clear ho hS; have HX := Lib.hid (HX.out.trans (hb.mono HX.out.size)); obtain ⟨q0, q1, q2, q3, q4, q5, q6⟩ := HBX.out.keep HX.out HZ.out; have HY := Lib.hid (HY.out.trans (hb.mono HY.out.size)); have HM := Lib.hid (HM.out.trans (hb.mono HM.out.size)); clear hb) | (go_at_call 15; (with_reducible refine (ints_is HM1 HM HM2).mono ?_); rintro e w9 ⟨rfl, hb⟩; have HX := Lib.hid (HX.out.trans (hb.mono HX.out.size)); obtain ⟨q0, q1, q2, q3, q4, q5, q6⟩ := HBX.out.keep HX.out HZ.out; have HY := Lib.hid (HY.out.trans (hb.mono HY.out.size)); clear hb))
  all_goals
    go_wp2_with fail
    go_ret
    exact ⟨by first | rfl | simp, HW.out.trans (HX.out.mono (Nat.le_of_lt HZ.out))⟩
end Go.Proofs.Ytcehkmnneimdeaa
