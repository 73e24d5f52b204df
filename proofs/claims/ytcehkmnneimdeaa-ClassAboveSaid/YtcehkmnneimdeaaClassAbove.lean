/-
  The statement on the fields of each class above one (ClassAbove), walked: it answers true at any image and number.
-/
import Derived.Test.YtcehkmnneimdeaaClassLaws
import Derived.IntWalk
import Derived.Deep.RegionHeld3
import Derived.Deep.QuietTactic
import Derived.BigQuiet
namespace Go.Proofs.Ytcehkmnneimdeaa
set_option maxRecDepth 100000
set_option linter.unusedVariables false
set_option linter.unusedSimpArgs false
open Go.ChangeShapes Go.WideShapes Go.ChangeAt Go.RowKit
set_option linter.unusedVariables false
set_option linter.unusedSimpArgs false

set_option maxHeartbeats 6400000 in
theorem classAbove_any (m : Img) (h : Hnd) (c : Int) (w : World) (c0 : 0 ≤ c) (c1 : c ≤ 255) (H : ImgIn w w.heap.size h m) (hs : ImgSized m) :
    Calls Try.prog 5 #[imgV h m, .int .u8 c] w fun e w' => e = .returned (.bool true) ∧ Below w.heap.size w w' := by
  have HW := Lib.hid (below_box (w := w) (h := h) (m := m))
  have HBX := Lib.hid (img_box w h m)
  have HZ : Hid (w.heap.size < (w.alloc (imgO h m)).heap.size) := Lib.hid (by simp)
  have HI := Lib.hid (H.now HW.out)
  have HFZ : Hid (∀ x ∈ m.classes, x.fields.length ≤ 140737488355328) := Lib.hid (fun x hx => by have := (hs.ct x hx).1; omega)
  obtain ⟨r, hr⟩ : ∃ r, fewB m.classes = r := ⟨_, rfl⟩
  have HR := Lib.hid hr
  have hle := H.classes.le
  have hcap := H.classes.cap
  clear H hr hs
  go_enter Try.func5, Try.ntmps5
  go_upto_region 1 with fail
  generalize w.alloc (imgO h m) = w1 at *
  obtain ⟨q0, q1, q2, q3, q4, q5, q6⟩ := HBX.out
  have HX : Hid (Below w1.heap.size w1 w1) := Lib.hid (Below.refl _ _)
  cases r
  · go_wp2_with (first | (go_at_call 7; (with_reducible refine (few_is HI HX HR HFZ).mono ?_); rintro e w7 ⟨rfl, hb⟩; have HX := Lib.hid (HX.out.trans (hb.mono HX.out.size)); obtain ⟨q0, q1, q2, q3, q4, q5, q6⟩ := HBX.out.keep HX.out HZ.out; clear hb) | (go_at_call 8; (with_reducible refine (classAwake_any _).mono ?_); rintro e w7 ⟨rfl, hb⟩; have HX := Lib.hid (HX.out.trans (hb.mono HX.out.size)); obtain ⟨q0, q1, q2, q3, q4, q5, q6⟩ := HBX.out.keep HX.out HZ.out; clear hb))
    go_ret
    exact ⟨by first | rfl | simp, HW.out.trans (HX.out.mono (Nat.le_of_lt HZ.out))⟩
  obtain ⟨hn, hf⟩ := fewB_yes HR.out
  have HF := Lib.hid hf
  clear hf
  by_cases hz : m.classes.length = 0
  · have ht : ((m.classes.length : Int) == 0) = true := beq_iff_eq.mpr (by omega)
    clear hz
    go_wp2_with (first | (go_at_call 7; (with_reducible refine (few_is HI HX HR HFZ).mono ?_); rintro e w7 ⟨rfl, hb⟩; have HX := Lib.hid (HX.out.trans (hb.mono HX.out.size)); obtain ⟨q0, q1, q2, q3, q4, q5, q6⟩ := HBX.out.keep HX.out HZ.out; clear hb) | (go_at_call 8; (with_reducible refine (classAwake_any _).mono ?_); rintro e w7 ⟨rfl, hb⟩; have HX := Lib.hid (HX.out.trans (hb.mono HX.out.size)); obtain ⟨q0, q1, q2, q3, q4, q5, q6⟩ := HBX.out.keep HX.out HZ.out; clear hb))
    go_ret
    exact ⟨by first | rfl | simp, HW.out.trans (HX.out.mono (Nat.le_of_lt HZ.out))⟩
  have hnp : 0 < m.classes.length := by omega
  have ht : ((m.classes.length : Int) == 0) = false := beq_eq_false_iff_ne.mpr (by omega)
  clear hz
  obtain ⟨k, hk, e1, e2⟩ := mod_in c0 hnp
  obtain ⟨L, hL⟩ : ∃ L, fieldsOf m.classes (k : Int) = L := ⟨_, rfl⟩
  have HL := Lib.hid hL
  have hLl := fieldsOf_len HF.out hn (k : Int)
  rw [hL] at hLl
  have HK : Hid (1 + ((fieldsOf m.classes (k : Int)).length : Int) = 1 + (L.length : Int)) := Lib.hid (by rw [hL])
  clear hL
  obtain ⟨LK, hLK⟩ : ∃ L, belowOf m.classes (k : Int) = L := ⟨_, rfl⟩
  have HLK := Lib.hid hLK
  have HBK := Lib.hid (show inB LK (k : Int) = true by rw [← hLK]; exact belowOf_self hk)
  clear hLK
  go_wp2_with (first | (go_at_call 7; (with_reducible refine (few_is HI HX HR HFZ).mono ?_); rintro e w7 ⟨rfl, hb⟩; have HX := Lib.hid (HX.out.trans (hb.mono HX.out.size)); obtain ⟨q0, q1, q2, q3, q4, q5, q6⟩ := HBX.out.keep HX.out HZ.out; clear hb) | (go_at_call 13; (with_reducible refine (cfields_is HI HX HL hn HF).mono ?_); rintro e w7 ⟨v7, rfl, ho, hb⟩; obtain ⟨A1, k1, rfl, hS, _⟩ := own_types ho; have HS1 := Lib.hid hS; have HY : Hid (Below w7.heap.size w7 w7) := Lib.hid (Below.refl _ _); clear ho hS; have HX := Lib.hid (HX.out.trans (hb.mono HX.out.size)); obtain ⟨q0, q1, q2, q3, q4, q5, q6⟩ := HBX.out.keep HX.out HZ.out; clear hb))
  have HE1 := Lib.hid e1
  have HE2 := Lib.hid e2
  clear e1 e2
  have hS1 := HS1.out.le
  have hS2 := HS1.out.cap
  go_loopw [7] (fun i wr => ∃ j : Nat, j ≤ m.classes.length ∧ i = .int .i64 j ∧ Hid (Below w1.heap.size w1 wr) ∧ Hid (Below w7.heap.size w7 wr)) (fun i _ => m.classes.length - (intOf i).toNat)
  case atStart => exact ⟨0, Nat.zero_le _, rfl, HX, HY⟩
  case round =>
    clear q0 q1 q2 q3 q4 q5 q6 HX HY
    obtain ⟨j, hj, rfl, HX, HY⟩ := hrel
    obtain ⟨q0, q1, q2, q3, q4, q5, q6⟩ := HBX.out.keep HX.out HZ.out
    by_cases hlt : j < m.classes.length
    · obtain ⟨LB, hLB⟩ : ∃ L, belowOf m.classes (j : Int) = L := ⟨_, rfl⟩
      have HLB := Lib.hid hLB
      obtain ⟨b, hb⟩ : ∃ b, inB LB (k : Int) = b := ⟨_, rfl⟩
      have HB := Lib.hid hb
      obtain ⟨Li, hLi⟩ : ∃ L, fieldsOf m.classes (j : Int) = L := ⟨_, rfl⟩
      have HLi := Lib.hid hLi
      have hLil := fieldsOf_len HF.out hn (j : Int)
      rw [hLi] at hLil
      have HKi : Hid (1 + ((fieldsOf m.classes (j : Int)).length : Int) = 1 + (Li.length : Int)) := Lib.hid (by rw [hLi])
      have HP : Hid (b = true → ∃ R, L = Li ++ R) := Lib.hid (fun g => by
        obtain ⟨R, e⟩ := fields_head (cl := m.classes) (i := j) (k := k) hk (by rw [hLB, hb, g])
        rw [hLi, HL.out] at e
        exact ⟨R, e⟩)
      clear hLB hb hLi
      cases b
      · go_wp2_with (first | (go_at_call 16; (with_reducible refine (cbelow_is HI HX HLB hn).mono ?_); rintro e w7 ⟨v7, rfl, ho, hb⟩; obtain ⟨A7, c7, rfl, hl7, g1, g2⟩ := own_ints ho; have HLL := Lib.hid hl7; have hll : _ ≤ 9223372036854775807 := Nat.le_trans g1 g2; clear ho hl7 g1 g2; have HX := Lib.hid (HX.out.trans (hb.mono HX.out.size)); obtain ⟨q0, q1, q2, q3, q4, q5, q6⟩ := HBX.out.keep HX.out HZ.out; have HY := Lib.hid (HY.out.trans (hb.mono HY.out.size)); clear hb) | (go_at_call 20; (with_reducible refine (rin_any _ _ _ _ _ _ hll HLL.out).mono ?_); rintro e w7 ⟨he, rfl⟩; (first | rw [HB.out] at he); subst he))
        go_roundw
        case rel => exact ⟨j + 1, by omega, by go_num, HX, HY⟩
        case measure => simp [intOf]; omega
      · obtain ⟨R, eR⟩ := HP.out rfl
        have HSi := Lib.hid (slc_head HS1.out eR)
        have hLL : Li.length ≤ L.length := by rw [eR, List.length_append]; omega
        have hd1 : decide (L.length < Li.length) = false := decide_eq_false (by omega)
        have hd2 : decide ((L.length : Int) < (Li.length : Int)) = false := decide_eq_false (by omega)
        have hd3 : decide (1 + (L.length : Int) < 1 + (Li.length : Int)) = false := decide_eq_false (by omega)
        have hcap' : Li.length ≤ k1 := by omega
        clear eR HP
        go_wp2_with (first | (go_at_call 16; (with_reducible refine (cbelow_is HI HX HLB hn).mono ?_); rintro e w7 ⟨v7, rfl, ho, hb⟩; obtain ⟨A7, c7, rfl, hl7, g1, g2⟩ := own_ints ho; have HLL := Lib.hid hl7; have hll : _ ≤ 9223372036854775807 := Nat.le_trans g1 g2; clear ho hl7 g1 g2; have HX := Lib.hid (HX.out.trans (hb.mono HX.out.size)); obtain ⟨q0, q1, q2, q3, q4, q5, q6⟩ := HBX.out.keep HX.out HZ.out; have HY := Lib.hid (HY.out.trans (hb.mono HY.out.size)); clear hb) | (go_at_call 20; (with_reducible refine (rin_any _ _ _ _ _ _ hll HLL.out).mono ?_); rintro e w7 ⟨he, rfl⟩; (first | rw [HB.out] at he); subst he) | (go_at_call 13; (with_reducible refine (cfields_is HI HX HLi hn HF).mono ?_); rintro e w8 ⟨v8, rfl, ho, hb⟩; obtain ⟨A2, k2, rfl, hS, _⟩ := own_types ho; have HS2 := Lib.hid hS; clear ho hS; have HX := Lib.hid (HX.out.trans (hb.mono HX.out.size)); obtain ⟨q0, q1, q2, q3, q4, q5, q6⟩ := HBX.out.keep HX.out HZ.out; have HY := Lib.hid (HY.out.trans (hb.mono HY.out.size)); clear hb))
        have HX := Lib.hid HX.out.drew
        have HY := Lib.hid HY.out.drew
        have HS2 : Hid (SlcIs TyAt 2 w8.drew w8.drew.heap.size A2 k2 Li) := Lib.hid (HS2.out.keep' TyAt.keeps (Nat.le_refl _) (fun _ _ => rfl))
        have hw1 : IntKind.i64.wrap (1 + (L.length : Int)) = 1 + (L.length : Int) := IntWalk.i64_in _ (by omega)
        have hw2 : IntKind.i64.wrap (1 + (Li.length : Int)) = 1 + (Li.length : Int) := IntWalk.i64_in _ (by omega)
        go_region_held3 (fun w' => w'.cell? ⟨w.heap.size, 0, none⟩ = some (.slice h.A0 m.classes.length h.c0) ∧ w'.cell? ⟨w.heap.size, 1, none⟩ = some (.slice h.A1 m.statics.length h.c1) ∧ w'.cell? ⟨w.heap.size, 2, none⟩ = some (.slice h.A2 m.ints.length h.c2) ∧ w'.cell? ⟨w.heap.size, 3, none⟩ = some (.slice h.A3 m.methods.length h.c3) ∧ w'.cell? ⟨w.heap.size, 4, none⟩ = some (.slice h.A4 m.entries.length h.c4) ∧ w'.cell? ⟨w.heap.size, 5, none⟩ = some (.int .i64 m.stack) ∧ w'.cell? ⟨w.heap.size, 6, none⟩ = some (.int .i64 m.heap)) (first | exact ⟨q0, q1, q2, q3, q4, q5, q6⟩) (first | (go_at_call 12; (with_reducible refine (types_is HSi HY HS2).mono ?_); rintro e w8 ⟨rfl, hb⟩; have HX := Lib.hid (HX.out.trans (hb.mono HX.out.size)); obtain ⟨q0, q1, q2, q3, q4, q5, q6⟩ := HBX.out.keep HX.out HZ.out; have HY := Lib.hid (HY.out.trans (hb.mono HY.out.size)); clear hb) | (go_at_call 14; (with_reducible refine (csize_is HI HX HKi hn HF).mono ?_); rintro e w8 ⟨rfl, hb⟩; have HX := Lib.hid (HX.out.trans (hb.mono HX.out.size)); obtain ⟨q0, q1, q2, q3, q4, q5, q6⟩ := HBX.out.keep HX.out HZ.out; have HY := Lib.hid (HY.out.trans (hb.mono HY.out.size)); clear hb) | (go_at_call 14; (with_reducible refine (csize_is HI HX HK hn HF).mono ?_); rintro e w8 ⟨rfl, hb⟩; have HX := Lib.hid (HX.out.trans (hb.mono HX.out.size)); obtain ⟨q0, q1, q2, q3, q4, q5, q6⟩ := HBX.out.keep HX.out HZ.out; have HY := Lib.hid (HY.out.trans (hb.mono HY.out.size)); clear hb))
        all_goals
          go_wp2_with fail
          go_roundw
          case rel => exact ⟨j + 1, by omega, by go_num, HX, HY⟩
          case measure => simp [intOf]; omega
    · go_wp2_with (first | (go_at_call 8; (with_reducible refine (classAwake_any _).mono ?_); rintro e w7 ⟨rfl, hb⟩; have HX := Lib.hid (HX.out.trans (hb.mono HX.out.size)); obtain ⟨q0, q1, q2, q3, q4, q5, q6⟩ := HBX.out.keep HX.out HZ.out; clear hb) | (go_at_call 16; (with_reducible refine (cbelow_is HI HX HLK hn).mono ?_); rintro e w7 ⟨v7, rfl, ho, hb⟩; obtain ⟨A7, c7, rfl, hl7, g1, g2⟩ := own_ints ho; have HLL := Lib.hid hl7; have hll : _ ≤ 9223372036854775807 := Nat.le_trans g1 g2; clear ho hl7 g1 g2; have HX := Lib.hid (HX.out.trans (hb.mono HX.out.size)); obtain ⟨q0, q1, q2, q3, q4, q5, q6⟩ := HBX.out.keep HX.out HZ.out; clear hb) | (go_at_call 20; (with_reducible refine (rin_any _ _ _ _ _ _ hll HLL.out).mono ?_); rintro e w7 ⟨he, rfl⟩; (first | rw [HBK.out] at he); subst he))
      go_ret
      exact ⟨by first | rfl | simp, HW.out.trans (HX.out.mono (Nat.le_of_lt HZ.out))⟩
end Go.Proofs.Ytcehkmnneimdeaa
