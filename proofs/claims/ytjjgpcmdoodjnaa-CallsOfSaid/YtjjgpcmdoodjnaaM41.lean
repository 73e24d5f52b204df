/-
  The statement on who calls whom (CallsOf), walked: it answers true at any image and number.
-/
import Derived.Test.YtjjgpcmdoodjnaaM40
import Derived.IntWalk
import Derived.RegionTactic
import Derived.ChangeAlike
import Derived.Deep.RegionHeld3
import Derived.Deep.QuietTactic
import Derived.BigQuiet
namespace Go.Proofs.Ytjjgpcmdoodjnaa
set_option maxRecDepth 100000
set_option linter.unusedVariables false
set_option linter.unusedSimpArgs false
open Go.ChangeShapes Go.WideShapes Go.ChangeAt Go.RowKit
set_option linter.unusedVariables false
set_option linter.unusedSimpArgs false

set_option maxHeartbeats 6400000 in
theorem callsOf_any (m : Img) (h : Hnd) (f : Int) (w : World) (H : ImgIn w w.heap.size h m) :
    Calls Try.prog 3 #[imgV h m, .int .i64 f] w fun e w' => e = .returned (.bool true) ∧ Below w.heap.size w w' := by
  have HW := Lib.hid (below_box (w := w) (h := h) (m := m))
  have HBX := Lib.hid (img_box w h m)
  have HZ : Hid (w.heap.size < (w.alloc (imgO h m)).heap.size) := Lib.hid (by simp)
  have HI := Lib.hid (H.now HW.out)
  obtain ⟨r, hr⟩ : ∃ r, saneB8 m = r := ⟨_, rfl⟩
  have HR := Lib.hid hr
  have hle := H.methods.le
  have hcap := H.methods.cap
  clear H hr
  go_enter Try.func3, Try.ntmps3
  go_upto_region 1 with fail
  generalize w.alloc (imgO h m) = w1 at *
  obtain ⟨q0, q1, q2, q3, q4, q5, q6⟩ := HBX.out
  have HX : Hid (Below w1.heap.size w1 w1) := Lib.hid (Below.refl _ _)
  cases r
  · go_wp2_with (first | (go_at_call 6; (with_reducible refine (sane11_is HI HX HR).mono ?_); rintro e w7 ⟨rfl, hb⟩; have HX := Lib.hid (HX.out.trans (hb.mono HX.out.size)); clear hb; obtain ⟨q0, q1, q2, q3, q4, q5, q6⟩ := HBX.out.keep HX.out HZ.out) | (go_at_call 7; (with_reducible refine (callsAwake_any _).mono ?_); rintro e w7 ⟨rfl, hb⟩; have HX := Lib.hid (HX.out.trans (hb.mono HX.out.size)); clear hb; obtain ⟨q0, q1, q2, q3, q4, q5, q6⟩ := HBX.out.keep HX.out HZ.out))
    go_ret
    exact ⟨by first | rfl | simp, HW.out.trans (HX.out.mono (Nat.le_of_lt HZ.out))⟩
  have hml := (saneB8_parts HR.out).1
  obtain ⟨n, hn⟩ : ∃ n, m.methods.length = n := ⟨_, rfl⟩
  have HN := Lib.hid hn
  obtain ⟨EL, hEL⟩ : ∃ EL, edgesOf m = EL := ⟨_, rfl⟩
  have HEL : Hid (edgesOf m = EL ∧ EL.length = n) := Lib.hid ⟨hEL, by rw [← hEL, edges_len]; exact hn⟩
  have HEQ : Hid (edgesOf m = EL) := Lib.hid hEL
  clear hEL
  clear hn
  go_upto_region 4 with (first | (go_at_call 6; (with_reducible refine (sane11_is HI HX HR).mono ?_); rintro e w7 ⟨rfl, hb⟩; have HX := Lib.hid (HX.out.trans (hb.mono HX.out.size)); clear hb; obtain ⟨q0, q1, q2, q3, q4, q5, q6⟩ := HBX.out.keep HX.out HZ.out) | (go_at_call 8; (with_reducible refine (redges_is HI HX HR HEL).mono ?_); rintro e w5 ⟨A5, c5, rfl, hs, hb⟩; have HX := Lib.hid (HX.out.trans (hb.mono HX.out.size)); have HE5 := Lib.hid hs; clear hb hs; obtain ⟨q0, q1, q2, q3, q4, q5, q6⟩ := HBX.out.keep HX.out HZ.out))
  have HY : Hid (Below w5.heap.size w5 w5) := Lib.hid (Below.refl _ _)
  have hel := HE5.out.le
  have hec := HE5.out.cap
  have HLN : Hid (EL.length = n) := Lib.hid HEL.out.2
  rw [HLN.out] at hel
  clear q0 q1 q2 q3 q4 q5 q6
  go_wp2_with fail
  go_loopw [6] (fun i wr => ∃ k : Nat, k ≤ n ∧ i = .int .i64 k ∧ Hid (Below w1.heap.size w1 wr) ∧ Hid (Below w5.heap.size w5 wr)) (fun i _ => n - (intOf i).toNat)
  case atStart => exact ⟨0, Nat.zero_le _, rfl, HX, HY⟩
  case round =>
    clear HX HY
    obtain ⟨k, hk, rfl, HX, HY⟩ := hrel
    obtain ⟨q0, q1, q2, q3, q4, q5, q6⟩ := HBX.out.keep HX.out HZ.out
    by_cases hlt : k < n
    · have hkm : k < m.methods.length := by have := HN.out; omega
      have hkE : k < EL.length := by rw [HLN.out]; exact hlt
      obtain ⟨adE, rfl, habE, A1, cL, r0, hsr⟩ := HE5.out.row.at_ hkE
      have hLe : EL[k] = callsOf m (k : Int) := by
        have := edges_at hkm
        rw [HEQ.out] at this
        rw [List.getElem?_eq_getElem hkE] at this
        exact Option.some.inj this
      rw [hLe] at r0 hsr
      obtain ⟨L, hL⟩ : ∃ L, callsOf m (k : Int) = L := ⟨_, rfl⟩
      rw [hL] at r0 hsr
      rw [Nat.mul_one] at r0
      have HL := Lib.hid hL
      have HROW := Lib.hid hsr
      have HKS : Hid (∀ W, Below w1.heap.size w1 W → Below w5.heap.size w5 W → (fun w' => w'.cell? ⟨w.heap.size, 0, none⟩ = some (.slice h.A0 m.classes.length h.c0) ∧ w'.cell? ⟨w.heap.size, 1, none⟩ = some (.slice h.A1 m.statics.length h.c1) ∧ w'.cell? ⟨w.heap.size, 2, none⟩ = some (.slice h.A2 m.ints.length h.c2) ∧ w'.cell? ⟨w.heap.size, 3, none⟩ = some (.slice h.A3 m.methods.length h.c3) ∧ w'.cell? ⟨w.heap.size, 4, none⟩ = some (.slice h.A4 m.entries.length h.c4) ∧ w'.cell? ⟨w.heap.size, 5, none⟩ = some (.int .i64 m.stack) ∧ w'.cell? ⟨w.heap.size, 6, none⟩ = some (.int .i64 m.heap) ∧ w'.cell? (adE.add k) = some (.slice A1 L.length cL)) W) := Lib.hid (fun W hW hV => by
        obtain ⟨d0, d1, d2, d3, d4, d5, d6⟩ := HBX.out.keep hW HZ.out
        exact ⟨d0, d1, d2, d3, d4, d5, d6, (hV.cell (p := adE.add k) (by rw [addr_add_block]; exact habE)).trans r0⟩)
      have hrc := hsr.cap
      have hrl := hsr.le
      clear hL hLe r0 hsr hkE
      have HXD : Hid (Below w1.heap.size w1 wr.drew) := Lib.hid HX.out.drew
      have HYD : Hid (Below w5.heap.size w5 wr.drew) := Lib.hid HY.out.drew
      go_upto_region 7 with fail
      clear q0 q1 q2 q3 q4 q5 q6
      go_region_held3 (fun w' => w'.cell? ⟨w.heap.size, 0, none⟩ = some (.slice h.A0 m.classes.length h.c0) ∧ w'.cell? ⟨w.heap.size, 1, none⟩ = some (.slice h.A1 m.statics.length h.c1) ∧ w'.cell? ⟨w.heap.size, 2, none⟩ = some (.slice h.A2 m.ints.length h.c2) ∧ w'.cell? ⟨w.heap.size, 3, none⟩ = some (.slice h.A3 m.methods.length h.c3) ∧ w'.cell? ⟨w.heap.size, 4, none⟩ = some (.slice h.A4 m.entries.length h.c4) ∧ w'.cell? ⟨w.heap.size, 5, none⟩ = some (.int .i64 m.stack) ∧ w'.cell? ⟨w.heap.size, 6, none⟩ = some (.int .i64 m.heap) ∧ w'.cell? (adE.add k) = some (.slice A1 L.length cL)) (first | exact HKS.out _ HXD.out HYD.out | exact HKS.out _ HX6.out HY6.out | exact HKS.out _ HX7.out HY7.out) (first
        | (go_at_call 10; (with_reducible refine (cof_is HI HXD HR HL (Lib.hid rfl)).mono ?_); rintro e w6 ⟨A6, c6, rfl, hs, hb⟩; have HX6 := Lib.hid (HXD.out.trans (hb.mono HXD.out.size)); have HY6 := Lib.hid (HYD.out.trans (hb.mono HYD.out.size)); have HS6 := Lib.hid hs; clear hb hs)
        | (go_at_call 9; (with_reducible refine (cints_same HS6 (Lib.hid (cslcUp IntAt.keeps HROW.out HY6.out)) (Lib.hid ⟨rfl, rfl⟩)).mono ?_); rintro e w7 ⟨rfl, hb⟩; have HX7 := Lib.hid (HX6.out.trans (hb.mono HX6.out.size)); have HY7 := Lib.hid (HY6.out.trans (hb.mono HY6.out.size)); clear hb))
      rename_i hHeld
      clear hHeld
      go_wp2_with fail
      go_roundw
      case rel => exact ⟨k + 1, by omega, by go_num, HX7, HY7⟩
      case measure => simp [intOf]; omega
    · have hki : ¬ (k : Int) < (n : Int) := by omega
      by_cases hf0 : f < 0
      · have HLf : Hid (callsOf m f = []) := Lib.hid (calls_no (by omega))
        have HRf : Hid (reachOf m f = []) := Lib.hid (reach_no (by omega))
        go_wp2_with (first | (go_at_call 7; (with_reducible refine (callsAwake_any _).mono ?_); rintro e w7 ⟨rfl, hb⟩; have HX := Lib.hid (HX.out.trans (hb.mono HX.out.size)); clear hb; obtain ⟨q0, q1, q2, q3, q4, q5, q6⟩ := HBX.out.keep HX.out HZ.out) | (go_at_call 10; (with_reducible refine (cof_is HI HX HR HLf (Lib.hid rfl)).mono ?_); rintro e w7 ⟨A7, c7, rfl, hs, hb⟩; have HX := Lib.hid (HX.out.trans (hb.mono HX.out.size)); clear hs; clear hb; obtain ⟨q0, q1, q2, q3, q4, q5, q6⟩ := HBX.out.keep HX.out HZ.out) | (go_at_call 11; (with_reducible refine (creach_is HI HX HR HRf (Lib.hid rfl)).mono ?_); rintro e w7 ⟨A7, c7, rfl, hs, hb⟩; have HX := Lib.hid (HX.out.trans (hb.mono HX.out.size)); clear hs; clear hb; obtain ⟨q0, q1, q2, q3, q4, q5, q6⟩ := HBX.out.keep HX.out HZ.out))
        go_ret
        exact ⟨by first | rfl | simp, HW.out.trans (HX.out.mono (Nat.le_of_lt HZ.out))⟩
      by_cases hfn : (n : Int) ≤ f
      · have hfi : f ≥ (n : Int) := hfn
        have HLf : Hid (callsOf m f = []) := Lib.hid (calls_no (by rw [HN.out]; omega))
        have HRf : Hid (reachOf m f = []) := Lib.hid (reach_no (by rw [HN.out]; omega))
        go_wp2_with (first | (go_at_call 7; (with_reducible refine (callsAwake_any _).mono ?_); rintro e w7 ⟨rfl, hb⟩; have HX := Lib.hid (HX.out.trans (hb.mono HX.out.size)); clear hb; obtain ⟨q0, q1, q2, q3, q4, q5, q6⟩ := HBX.out.keep HX.out HZ.out) | (go_at_call 10; (with_reducible refine (cof_is HI HX HR HLf (Lib.hid rfl)).mono ?_); rintro e w7 ⟨A7, c7, rfl, hs, hb⟩; have HX := Lib.hid (HX.out.trans (hb.mono HX.out.size)); clear hs; clear hb; obtain ⟨q0, q1, q2, q3, q4, q5, q6⟩ := HBX.out.keep HX.out HZ.out) | (go_at_call 11; (with_reducible refine (creach_is HI HX HR HRf (Lib.hid rfl)).mono ?_); rintro e w7 ⟨A7, c7, rfl, hs, hb⟩; have HX := Lib.hid (HX.out.trans (hb.mono HX.out.size)); clear hs; clear hb; obtain ⟨q0, q1, q2, q3, q4, q5, q6⟩ := HBX.out.keep HX.out HZ.out))
        go_ret
        exact ⟨by first | rfl | simp, HW.out.trans (HX.out.mono (Nat.le_of_lt HZ.out))⟩
      · have hfi : ¬ f ≥ (n : Int) := hfn
        go_wp2_with (first | (go_at_call 7; (with_reducible refine (callsAwake_any _).mono ?_); rintro e w7 ⟨rfl, hb⟩; have HX := Lib.hid (HX.out.trans (hb.mono HX.out.size)); clear hb; obtain ⟨q0, q1, q2, q3, q4, q5, q6⟩ := HBX.out.keep HX.out HZ.out))
        go_ret
        exact ⟨by first | rfl | simp, HW.out.trans (HX.out.mono (Nat.le_of_lt HZ.out))⟩
end Go.Proofs.Ytjjgpcmdoodjnaa
