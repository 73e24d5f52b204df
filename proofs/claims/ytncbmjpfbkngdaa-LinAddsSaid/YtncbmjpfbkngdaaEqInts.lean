/-
  What the library's slices.Equal comes to at lists of numbers.
-/
import Derived.Test.YtncbmjpfbkngdaaRefInts
namespace Go.Proofs.Ytncbmjpfbkngdaa
set_option maxRecDepth 100000
set_option linter.unusedVariables false
set_option linter.unusedSimpArgs false
open Go.ChangeShapes Go.WideShapes Go.ChangeAt Go.RowKit
set_option linter.unusedVariables false

set_option maxHeartbeats 800000 in
theorem eqInts_any (l m : List (Int)) (A A' : Option Addr) (cap cap' B : Nat) (w : World) (hB : B ≤ w.heap.size) (h : SlcIs IntAt 1 w B A cap l) (h' : SlcIs IntAt 1 w B A' cap' m) :
    Calls Try.prog 26 #[.slice A l.length cap, .slice A' m.length cap'] w fun e w' => e = .returned (.bool (decide (l = m))) ∧ Below w.heap.size w w' := by
  have hlc := h.le
  have hcm := h.cap
  have hlc' := h'.le
  have hcm' := h'.cap
  have HL := Lib.hid h
  have HM := Lib.hid h'
  have HB := Lib.hid hB
  clear h h' hB
  obtain ⟨b, hb⟩ : ∃ b, decide (l = m) = b := ⟨_, rfl⟩
  rw [hb]
  have E := Lib.hid hb.symm
  clear hb
  by_cases hn : l.length = m.length
  · have HLN := Lib.hid hn
    have hlen : m.length = l.length := hn.symm
    rw [hlen]
    clear hn
    go_enter Try.func26, Try.ntmps26
    go_wp2
    go_loopw [13] (fun i wr => ∃ k : Nat, k ≤ l.length ∧ i = .int .i64 k ∧ Hid (l.take k = m.take k) ∧ Hid (Below w.heap.size w wr)) (fun i _ => l.length - (intOf i).toNat)
    case atStart => exact ⟨0, by omega, rfl, Lib.hid (by simp), Lib.hid (Below.refl _ _)⟩
    case round =>
      obtain ⟨k, hk, rfl, HN, HX⟩ := hrel
      by_cases hlt : k < l.length
      · have hltm : k < m.length := by omega
        obtain ⟨ad, rfl, hab, q0⟩ := (HL.out.below_to IntAt.keeps HX.out HB.out).row.at_ hlt
        obtain ⟨ad', rfl, hab', p0⟩ := (HM.out.below_to IntAt.keeps HX.out HB.out).row.at_ hltm
        have HNE := Lib.hid (fun g => list_ne_at hlt hltm g)
        have HEQ := Lib.hid (fun g => take_both hlt hltm HN.out g)
        generalize l[k] = t at *
        generalize m[k] = s at *
        rw [Nat.mul_one] at q0 p0
        have r0 : wr.cell? (ad.add k) = some (.int .i64 t) := q0
        have r0' : wr.cell? (ad'.add k) = some (.int .i64 s) := p0
        clear q0 p0
        by_cases hx : t = s
        · obtain rfl := hx
          have E2 := Lib.hid (HEQ.out rfl)
          go_wp2_with fail
          go_quiet (fail)
          go_wp2
          go_roundw
          case rel => exact ⟨k + 1, by omega, by go_num, E2, Lib.hid (below_drewN' HX.out _)⟩
          case measure => simp [intOf]; omega
        · have E2 := Lib.hid (show b = false by rw [E.out]; exact decide_eq_false (HNE.out (by simpa using hx)))
          skip
          all_goals
            go_wp2_with fail
            go_quiet (fail)
            go_wp2
            go_ret
            exact ⟨by rw [E2.out]; rfl, (below_drewN' HX.out _)⟩
      · have E2 := Lib.hid (show b = true by rw [E.out]; exact decide_eq_true (list_eq_ends HLN.out k HN.out (by omega)))
        go_wp2_with fail
        go_ret
        exact ⟨by rw [E2.out]; rfl, HX.out⟩
  · have E2 := Lib.hid (show b = false by rw [E.out]; exact decide_eq_false (fun g => hn (by rw [g])))
    have hn' : ((l.length : Int) == (m.length : Int)) = false := beq_eq_false_iff_ne.mpr (by omega)
    go_enter Try.func26, Try.ntmps26
    go_wp2
    go_ret
    exact ⟨by rw [E2.out]; rfl, Below.refl _ _⟩
theorem eqInts_is {l m : List (Int)} {A A' : Option Addr} {cap cap' B : Nat} {w0 w : World} {r : Bool} (HL : Hid (SlcIs IntAt 1 w0 B A cap l)) (HM : Hid (SlcIs IntAt 1 w0 B A' cap' m)) (HB : Hid (B ≤ w0.heap.size)) (HX : Hid (Below w0.heap.size w0 w)) (HR : Hid (decide (l = m) = r)) :
    Calls Try.prog 26 #[.slice A l.length cap, .slice A' m.length cap'] w fun e w' => e = .returned (.bool r) ∧ Below w.heap.size w w' := by
  have h := eqInts_any l m A A' cap cap' B w (Nat.le_trans HB.out HX.out.size) (HL.out.below_to IntAt.keeps HX.out HB.out) (HM.out.below_to IntAt.keeps HX.out HB.out)
  rw [HR.out] at h
  exact h

end Go.Proofs.Ytncbmjpfbkngdaa
