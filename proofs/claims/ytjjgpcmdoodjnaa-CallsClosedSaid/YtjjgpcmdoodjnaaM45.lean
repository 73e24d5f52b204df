/-
  The statement that what one comes to comes to no more (CallsClosed), walked: it answers true at any image.
-/
import Derived.Test.YtjjgpcmdoodjnaaM40
import Derived.IntWalk
import Derived.RegionTactic
import Derived.ChangeAlike
import Derived.Deep.RegionHeld3
import Derived.Deep.QuietTactic
import Derived.BigQuiet
namespace Go.Proofs.Ytjjgpcmdoodjnaa
set_option maxRecDepth 100000
set_option linter.unusedVariables false
set_option linter.unusedSimpArgs false
open Go.ChangeShapes Go.WideShapes Go.ChangeAt Go.RowKit
set_option linter.unusedVariables false
set_option linter.unusedSimpArgs false

set_option maxHeartbeats 6400000 in
theorem callsClosed_any (m : Img) (h : Hnd) (w : World) (H : ImgIn w w.heap.size h m) :
    Calls Try.prog 5 #[imgV h m] w fun e w' => e = .returned (.bool true) ∧ Below w.heap.size w w' := by
  have HW := Lib.hid (below_box (w := w) (h := h) (m := m))
  have HBX := Lib.hid (img_box w h m)
  have HZ : Hid (w.heap.size < (w.alloc (imgO h m)).heap.size) := Lib.hid (by simp)
  have HI := Lib.hid (H.now HW.out)
  obtain ⟨r, hr⟩ : ∃ r, saneB8 m = r := ⟨_, rfl⟩
  have HR := Lib.hid hr
  have hle := H.methods.le
  have hcap := H.methods.cap
  clear H hr
  go_enter Try.func5, Try.ntmps5
  go_upto_region 1 with fail
  generalize w.alloc (imgO h m) = w1 at *
  obtain ⟨q0, q1, q2, q3, q4, q5, q6⟩ := HBX.out
  have HX : Hid (Below w1.heap.size w1 w1) := Lib.hid (Below.refl _ _)
  cases r
  · go_wp2_with (first | (go_at_call 6; (with_reducible refine (sane11_is HI HX HR).mono ?_); rintro e w7 ⟨rfl, hb⟩; have HX := Lib.hid (HX.out.trans (hb.mono HX.out.size)); clear hb; obtain ⟨q0, q1, q2, q3, q4, q5, q6⟩ := HBX.out.keep HX.out HZ.out) | (go_at_call 7; (with_reducible refine (callsAwake_any _).mono ?_); rintro e w7 ⟨rfl, hb⟩; have HX := Lib.hid (HX.out.trans (hb.mono HX.out.size)); clear hb; obtain ⟨q0, q1, q2, q3, q4, q5, q6⟩ := HBX.out.keep HX.out HZ.out))
    go_ret
    exact ⟨by first | rfl | simp, HW.out.trans (HX.out.mono (Nat.le_of_lt HZ.out))⟩
  have hml := (saneB8_parts HR.out).1
  obtain ⟨n, hn⟩ : ∃ n, m.methods.length = n := ⟨_, rfl⟩
  have HN := Lib.hid hn
  clear hn q0 q1 q2 q3 q4 q5 q6
  obtain ⟨q0, q1, q2, q3, q4, q5, q6⟩ := HBX.out
  go_upto_region 3 with (first | (go_at_call 6; (with_reducible refine (sane11_is HI HX HR).mono ?_); rintro e w7 ⟨rfl, hb⟩; have HX := Lib.hid (HX.out.trans (hb.mono HX.out.size)); clear hb; obtain ⟨q0, q1, q2, q3, q4, q5, q6⟩ := HBX.out.keep HX.out HZ.out))
  clear q0 q1 q2 q3 q4 q5 q6
  go_wp2_with fail
  go_loopw [3] (fun i wr => ∃ k : Nat, k ≤ m.methods.length ∧ i = .int .i64 k ∧ Hid (Below w1.heap.size w1 wr)) (fun i _ => m.methods.length - (intOf i).toNat)
  case atStart => exact ⟨0, Nat.zero_le _, rfl, HX⟩
  case round =>
    clear HX
    obtain ⟨k, hk, rfl, HX⟩ := hrel
    obtain ⟨q0, q1, q2, q3, q4, q5, q6⟩ := HBX.out.keep HX.out HZ.out
    by_cases hlt : k < m.methods.length
    · have HKM := Lib.hid hlt
      obtain ⟨L, hL⟩ : ∃ L, reachOf m (k : Int) = L := ⟨_, rfl⟩
      have HL := Lib.hid hL
      have HIN : Hid (inB L (k : Int) = true) := Lib.hid (inB_yes (by rw [← hL]; exact reach_self hlt))
      have HCL : Hid (∀ x y, x ∈ L → y ∈ reachOf m x → inB L y = true) := Lib.hid (fun x y hx hy => by rw [← hL] at hx ⊢; exact inB_yes (reach_closed HKM.out hx hy))
      obtain ⟨nL, hnL⟩ : ∃ n, L.length = n := ⟨_, rfl⟩
      have HNL := Lib.hid hnL
      clear hL hnL
      go_upto_region 7 with (go_at_call 11; (with_reducible refine (creach_is HI HX HR HL HNL).mono ?_); rintro e w7 ⟨A7, c7, rfl, hs, hb⟩; have HX := Lib.hid (HX.out.trans (hb.mono HX.out.size)); have HS7 := Lib.hid hs; clear hb hs)
      clear q0 q1 q2 q3 q4 q5 q6
      have ha1 := HS7.out.le
      have ha2 := HS7.out.cap
      rw [HNL.out] at ha1
      go_upto_region 9 with (go_at_call 13; (with_reducible refine (cin_is HS7 HNL HIN).mono ?_); rintro e w8 ⟨rfl, he⟩; subst he)
      have HY : Hid (Below w7.heap.size w7 w7) := Lib.hid (Below.refl _ _)
      go_wp2_with fail
      go_loopw [5] (fun i wq => ∃ j : Nat, j ≤ nL ∧ i = .int .i64 j ∧ Hid (Below w1.heap.size w1 wq) ∧ Hid (Below w7.heap.size w7 wq)) (fun i _ => nL - (intOf i).toNat)
      case atStart => exact ⟨0, Nat.zero_le _, rfl, HX, HY⟩
      case round =>
        clear HX HY
        obtain ⟨i, hi, rfl, HX, HY⟩ := hrel
        by_cases hil : i < nL
        · have hiL : i < L.length := by rw [HNL.out]; exact hil
          obtain ⟨adA, rfl, habA, r0⟩ := HS7.out.row.at_ hiL
          have r0 : w7.cell? (adA.add i) = some (.int .i64 L[i]) := by have := r0; rw [Nat.mul_one] at this; exact this
          have HXM := Lib.hid (List.getElem_mem hiL)
          generalize L[i] = x at *
          obtain ⟨L2, hL2⟩ : ∃ L, reachOf m x = L := ⟨_, rfl⟩
          have HL2 := Lib.hid hL2
          have HC2 : Hid (∀ y, y ∈ L2 → inB L y = true) := Lib.hid (fun y hy => HCL.out x y HXM.out (by rw [hL2]; exact hy))
          obtain ⟨n2, hn2⟩ : ∃ n, L2.length = n := ⟨_, rfl⟩
          have HN2 := Lib.hid hn2
          have HKS : Hid (∀ W, Below w1.heap.size w1 W → Below w7.heap.size w7 W → (fun w' => w'.cell? ⟨w.heap.size, 0, none⟩ = some (.slice h.A0 m.classes.length h.c0) ∧ w'.cell? ⟨w.heap.size, 1, none⟩ = some (.slice h.A1 m.statics.length h.c1) ∧ w'.cell? ⟨w.heap.size, 2, none⟩ = some (.slice h.A2 m.ints.length h.c2) ∧ w'.cell? ⟨w.heap.size, 3, none⟩ = some (.slice h.A3 m.methods.length h.c3) ∧ w'.cell? ⟨w.heap.size, 4, none⟩ = some (.slice h.A4 m.entries.length h.c4) ∧ w'.cell? ⟨w.heap.size, 5, none⟩ = some (.int .i64 m.stack) ∧ w'.cell? ⟨w.heap.size, 6, none⟩ = some (.int .i64 m.heap) ∧ w'.cell? (adA.add i) = some (.int .i64 x)) W) := Lib.hid (fun W hW hV => by
            obtain ⟨d0, d1, d2, d3, d4, d5, d6⟩ := HBX.out.keep hW HZ.out
            exact ⟨d0, d1, d2, d3, d4, d5, d6, (hV.cell (p := adA.add i) (by rw [addr_add_block]; exact habA)).trans r0⟩)
          clear hL2 hn2 r0 hiL
          have HXD : Hid (Below w1.heap.size w1 wr.drew) := Lib.hid HX.out.drew
          have HYD : Hid (Below w7.heap.size w7 wr.drew) := Lib.hid HY.out.drew
          go_upto_region 12 with fail
          go_region_held3 (fun w' => w'.cell? ⟨w.heap.size, 0, none⟩ = some (.slice h.A0 m.classes.length h.c0) ∧ w'.cell? ⟨w.heap.size, 1, none⟩ = some (.slice h.A1 m.statics.length h.c1) ∧ w'.cell? ⟨w.heap.size, 2, none⟩ = some (.slice h.A2 m.ints.length h.c2) ∧ w'.cell? ⟨w.heap.size, 3, none⟩ = some (.slice h.A3 m.methods.length h.c3) ∧ w'.cell? ⟨w.heap.size, 4, none⟩ = some (.slice h.A4 m.entries.length h.c4) ∧ w'.cell? ⟨w.heap.size, 5, none⟩ = some (.int .i64 m.stack) ∧ w'.cell? ⟨w.heap.size, 6, none⟩ = some (.int .i64 m.heap) ∧ w'.cell? (adA.add i) = some (.int .i64 x)) (first | exact HKS.out _ HXD.out HYD.out | exact HKS.out _ HX9.out HY9.out) (first
            | (go_at_call 11; (with_reducible refine (creach_is HI HXD HR HL2 HN2).mono ?_); rintro e w9 ⟨A9, c9, rfl, hs, hb⟩; have HX9 := Lib.hid (HXD.out.trans (hb.mono HXD.out.size)); have HY9 := Lib.hid (HYD.out.trans (hb.mono HYD.out.size)); have HS9 := Lib.hid hs; clear hb hs))
          rename_i hHeld
          clear hHeld
          have hb1 := HS9.out.le
          have hb2 := HS9.out.cap
          rw [HN2.out] at hb1
          go_wp2_with fail
          go_loopw [7] (fun i wz => ∃ j : Nat, j ≤ n2 ∧ i = .int .i64 j ∧ wz = w9) (fun i _ => n2 - (intOf i).toNat)
          case atStart => exact ⟨0, Nat.zero_le _, rfl, by first | rfl | trivial⟩
          case round =>
            obtain ⟨j, hj, rfl, hwz⟩ := hrel
            have hwz := hwz.symm
            subst hwz
            by_cases hjl : j < n2
            · have hjL : j < L2.length := by rw [HN2.out]; exact hjl
              obtain ⟨adB, rfl, habB, s0⟩ := HS9.out.row.at_ hjL
              have s0 : w9.cell? (adB.add j) = some (.int .i64 L2[j]) := by have := s0; rw [Nat.mul_one] at this; exact this
              have HIN2 : Hid (inB L L2[j] = true) := Lib.hid (HC2.out _ (List.getElem_mem hjL))
              have HSA := Lib.hid (cslcUp IntAt.keeps HS7.out HY9.out)
              generalize L2[j] = y at *
              go_wp2_with (go_at_call 13; (with_reducible refine (cin_is HSA HNL HIN2).mono ?_); rintro e wv ⟨rfl, he⟩; subst he)
              go_roundw
              case rel => exact ⟨j + 1, by omega, by go_num, by first | rfl | trivial⟩
              case measure => simp [intOf]; omega
            · have hji : ¬ (j : Int) < (n2 : Int) := by omega
              go_wp2_with fail
              go_roundw
              case rel => exact ⟨i + 1, by omega, by go_num, HX9, HY9⟩
              case measure => simp [intOf]; omega
        · have hii : ¬ (i : Int) < (nL : Int) := by omega
          go_wp2_with fail
          go_roundw
          case rel => exact ⟨k + 1, by omega, by go_num, HX⟩
          case measure => simp [intOf]; omega
    · have hki : ¬ (k : Int) < (m.methods.length : Int) := by omega
      go_wp2_with (first | (go_at_call 7; (with_reducible refine (callsAwake_any _).mono ?_); rintro e w7 ⟨rfl, hb⟩; have HX := Lib.hid (HX.out.trans (hb.mono HX.out.size)); clear hb; obtain ⟨q0, q1, q2, q3, q4, q5, q6⟩ := HBX.out.keep HX.out HZ.out))
      go_ret
      exact ⟨by first | rfl | simp, HW.out.trans (HX.out.mono (Nat.le_of_lt HZ.out))⟩
end Go.Proofs.Ytjjgpcmdoodjnaa
