/-
  What the document's own answers for numbers that are not too great (fine, Times, Plus, Dot) come to.
-/
import Derived.Test.YtncbmjpfbkngdaaLinMath
import Derived.Outline
import Derived.Deep.Cut
import Derived.IntWalk
import Derived.RegionTactic
import Derived.ChangeAlike
import Derived.Deep.RegionHeld3
import Derived.Deep.QuietTactic
import Derived.BigQuiet
namespace Go.Proofs.Ytncbmjpfbkngdaa
set_option maxRecDepth 100000
set_option linter.unusedVariables false
set_option linter.unusedSimpArgs false
open Go.ChangeShapes Go.WideShapes Go.ChangeAt Go.RowKit
set_option linter.unusedVariables false
set_option linter.unusedSimpArgs false

theorem rfine_any (n : Int) (w : World) : Calls Try.prog 27 #[.int .i64 n] w fun e w' => e = .returned (.bool (fineB n)) ∧ w = w' := by
  obtain ⟨b, hb⟩ : ∃ b, fineB n = b := ⟨_, rfl⟩
  rw [hb]
  have HB := Lib.hid hb
  clear hb
  by_cases h : n > -4611686018427387904
  · have hd : decide (n > -4611686018427387904) = true := decide_eq_true h
    have HE : Hid (decide (n < 4611686018427387904) = b) := Lib.hid (by rw [← HB.out]; unfold fineB; rw [hd, Bool.true_and])
    go_enter Try.func27, Try.ntmps27
    go_wp2_with fail
    go_ret
    exact ⟨by first | rfl | (rw [HE.out]; rfl) | (rw [← HE.out]; rfl), rfl⟩
  · have hd : decide (n > -4611686018427387904) = false := decide_eq_false h
    have HE : Hid (false = b) := Lib.hid (by rw [← HB.out]; unfold fineB; rw [hd, Bool.false_and])
    go_enter Try.func27, Try.ntmps27
    go_wp2_with fail
    go_ret
    exact ⟨by first | rfl | (rw [HE.out]; rfl) | (rw [← HE.out]; rfl), rfl⟩
theorem rfine_is {n : Int} {w : World} {r : Bool} (HR : Hid (fineB n = r)) : Calls Try.prog 27 #[.int .i64 n] w fun e w' => e = .returned (.bool r) ∧ w = w' := by
  have H := rfine_any n w
  rw [HR.out] at H
  exact H
/-- A number, if there is one. -/
def NumOut (r : Option Int) (w : World) (e : Ending) (w' : World) : Prop := e = .returned (.tuple #[.int .i64 (r.getD 0), .bool r.isSome]) ∧ w = w'
theorem rplus_any (a b : Int) (w : World) : Calls Try.prog 25 #[.int .i64 a, .int .i64 b] w (NumOut (plusR a b) w) := by
  obtain ⟨r, hr⟩ : ∃ r, plusR a b = r := ⟨_, rfl⟩
  rw [hr]
  have HR := Lib.hid hr
  clear hr
  obtain ⟨fa, ha⟩ : ∃ r, fineB a = r := ⟨_, rfl⟩
  obtain ⟨fb, hb⟩ : ∃ r, fineB b = r := ⟨_, rfl⟩
  obtain ⟨fc, hc⟩ : ∃ r, fineB (a + b) = r := ⟨_, rfl⟩
  have HA := Lib.hid ha
  have HB := Lib.hid hb
  have HC := Lib.hid hc
  have HE : Hid (r = if fa = true ∧ fb = true ∧ fc = true then some (a + b) else none) := Lib.hid (by rw [← HR.out]; unfold plusR; rw [ha, hb, hc])
  clear ha hb hc
  cases fa
  · have HE2 : Hid (r = none) := Lib.hid (by rw [HE.out]; rfl)
    go_enter Try.func25, Try.ntmps25
    go_wp2_with (first | (go_at_call 27; (with_reducible refine (rfine_is HA).mono ?_); rintro e w' ⟨rfl, rfl⟩))
    go_ret2
    exact ⟨by rw [HE2.out]; rfl, rfl⟩
  cases fb
  · have HE2 : Hid (r = none) := Lib.hid (by rw [HE.out]; rfl)
    go_enter Try.func25, Try.ntmps25
    go_wp2_with (first | (go_at_call 27; (with_reducible refine (rfine_is HA).mono ?_); rintro e w' ⟨rfl, rfl⟩) | (go_at_call 27; (with_reducible refine (rfine_is HB).mono ?_); rintro e w' ⟨rfl, rfl⟩))
    go_ret2
    exact ⟨by rw [HE2.out]; rfl, rfl⟩
  have h1 := fine_iff.mp HA.out
  have h2 := fine_iff.mp HB.out
  have hw : IntKind.i64.wrap (a + b) = a + b := IntWalk.i64_in _ (by omega)
  cases fc
  · have HE2 : Hid (r = none) := Lib.hid (by rw [HE.out]; rfl)
    go_enter Try.func25, Try.ntmps25
    go_wp2_with (first | (go_at_call 27; (with_reducible refine (rfine_is HA).mono ?_); rintro e w' ⟨rfl, rfl⟩) | (go_at_call 27; (with_reducible refine (rfine_is HB).mono ?_); rintro e w' ⟨rfl, rfl⟩) | (go_at_call 27; (with_reducible refine (rfine_is HC).mono ?_); rintro e w' ⟨rfl, rfl⟩))
    go_ret2
    exact ⟨by rw [HE2.out]; rfl, rfl⟩
  · have HE2 : Hid (r = some (a + b)) := Lib.hid (by rw [HE.out]; rfl)
    go_enter Try.func25, Try.ntmps25
    go_wp2_with (first | (go_at_call 27; (with_reducible refine (rfine_is HA).mono ?_); rintro e w' ⟨rfl, rfl⟩) | (go_at_call 27; (with_reducible refine (rfine_is HB).mono ?_); rintro e w' ⟨rfl, rfl⟩) | (go_at_call 27; (with_reducible refine (rfine_is HC).mono ?_); rintro e w' ⟨rfl, rfl⟩))
    go_ret2
    exact ⟨by rw [HE2.out]; rfl, rfl⟩
theorem rplus_is {a b : Int} {w : World} {r : Option Int} (HR : Hid (plusR a b = r)) : Calls Try.prog 25 #[.int .i64 a, .int .i64 b] w fun e w' => e = .returned (.tuple #[.int .i64 (r.getD 0), .bool r.isSome]) ∧ w = w' := by
  have H := rplus_any a b w
  rw [HR.out] at H
  exact H
/-- Products, by the signs of what is multiplied. -/
theorem rtimes_any (a b : Int) (w : World) : Calls Try.prog 24 #[.int .i64 a, .int .i64 b] w (NumOut (timesR a b) w) := by
  obtain ⟨r, hr⟩ : ∃ r, timesR a b = r := ⟨_, rfl⟩
  rw [hr]
  have HR := Lib.hid hr
  clear hr
  obtain ⟨fa, ha⟩ : ∃ r, fineB a = r := ⟨_, rfl⟩
  obtain ⟨fb, hb⟩ : ∃ r, fineB b = r := ⟨_, rfl⟩
  have HA := Lib.hid ha
  have HB := Lib.hid hb
  have HE : Hid (r = if fa = true ∧ fb = true ∧ fineB (a * b) = true then some (a * b) else none) := Lib.hid (by rw [← HR.out]; unfold timesR; rw [ha, hb])
  clear ha hb
  cases fa
  · have HE2 : Hid (r = none) := Lib.hid (by rw [HE.out]; rfl)
    go_enter Try.func24, Try.ntmps24
    go_wp2_with (first | (go_at_call 27; (with_reducible refine (rfine_is HA).mono ?_); rintro e w' ⟨rfl, rfl⟩))
    go_ret2
    exact ⟨by rw [HE2.out]; rfl, rfl⟩
  cases fb
  · have HE2 : Hid (r = none) := Lib.hid (by rw [HE.out]; rfl)
    go_enter Try.func24, Try.ntmps24
    go_wp2_with (first | (go_at_call 27; (with_reducible refine (rfine_is HA).mono ?_); rintro e w' ⟨rfl, rfl⟩) | (go_at_call 27; (with_reducible refine (rfine_is HB).mono ?_); rintro e w' ⟨rfl, rfl⟩))
    go_ret2
    exact ⟨by rw [HE2.out]; rfl, rfl⟩
  obtain ⟨a1, a2⟩ := fine_iff.mp HA.out
  obtain ⟨b1, b2⟩ := fine_iff.mp HB.out
  have HE3 : Hid (r = if fineB (a * b) = true then some (a * b) else none) := Lib.hid (by rw [HE.out]; simp)
  by_cases ha0 : a = 0
  · have hi : (a == 0) = true := beq_iff_eq.mpr ha0
    have HE2 : Hid (r = some 0) := Lib.hid (by rw [HE3.out, ha0, Int.zero_mul]; rfl)
    clear ha0
    go_enter Try.func24, Try.ntmps24
    go_wp2_with (first | (go_at_call 27; (with_reducible refine (rfine_is HA).mono ?_); rintro e w' ⟨rfl, rfl⟩) | (go_at_call 27; (with_reducible refine (rfine_is HB).mono ?_); rintro e w' ⟨rfl, rfl⟩))
    go_ret2
    exact ⟨by rw [HE2.out]; rfl, rfl⟩
  have hia : (a == 0) = false := beq_eq_false_iff_ne.mpr ha0
  by_cases hb0 : b = 0
  · have hi : (b == 0) = true := beq_iff_eq.mpr hb0
    have HE2 : Hid (r = some 0) := Lib.hid (by rw [HE3.out, hb0, Int.mul_zero]; rfl)
    clear hb0
    go_enter Try.func24, Try.ntmps24
    go_wp2_with (first | (go_at_call 27; (with_reducible refine (rfine_is HA).mono ?_); rintro e w' ⟨rfl, rfl⟩) | (go_at_call 27; (with_reducible refine (rfine_is HB).mono ?_); rintro e w' ⟨rfl, rfl⟩))
    go_ret2
    exact ⟨by rw [HE2.out]; rfl, rfl⟩
  have hib : (b == 0) = false := beq_eq_false_iff_ne.mpr hb0
  by_cases sa : a < 0
  · by_cases sb : b < 0
    · obtain ⟨X, hX⟩ : ∃ X, -a = X := ⟨_, rfl⟩
      obtain ⟨Y, hY⟩ : ∃ Y, -b = Y := ⟨_, rfl⟩
      have hxy : X * Y = a * b := by rw [← hX, ← hY]; exact Int.neg_mul_neg a b
      have hx : 0 < X := by omega
      have hy : 0 < Y := by omega
      have hpos : 0 < X * Y := Int.mul_pos hx hy
      have hq := quo_iff hx hy
      obtain ⟨q, hqv⟩ : ∃ q, Int.tdiv 4611686018427387903 Y = q := ⟨_, rfl⟩
      have hq0 : 0 ≤ q ∧ q ≤ 4611686018427387903 := by
        rw [← hqv, Int.tdiv_eq_ediv_of_nonneg (by decide)]
        exact ⟨Int.ediv_nonneg (by decide) (by omega), Int.ediv_le_self _ (by decide)⟩
      rw [hqv] at hq
      obtain ⟨hq1, hq2⟩ := hq0
      by_cases hov : X * Y < 4611686018427387904
      · have hg : ¬ q < X := fun z => hq.mp z hov
        have hw : IntKind.i64.wrap (a * b) = a * b := IntWalk.i64_in _ (by rw [hxy] at hov hpos; omega)
        have HE2 : Hid (r = some (a * b)) := Lib.hid (by rw [HE3.out, if_pos (fine_iff.mpr (by rw [hxy] at hov hpos; omega))])
        clear hq hxy hov hpos
        go_enter Try.func24, Try.ntmps24
        go_wp2_with (first | (go_at_call 27; (with_reducible refine (rfine_is HA).mono ?_); rintro e w' ⟨rfl, rfl⟩) | (go_at_call 27; (with_reducible refine (rfine_is HB).mono ?_); rintro e w' ⟨rfl, rfl⟩))
        go_ret2
        exact ⟨by rw [HE2.out]; rfl, rfl⟩
      · have hg : q < X := hq.mpr hov
        have HE2 : Hid (r = none) := Lib.hid (by rw [HE3.out, if_neg (fun z => by have := fine_iff.mp z; rw [hxy] at hov hpos; omega)])
        clear hq hxy hov hpos
        go_enter Try.func24, Try.ntmps24
        go_wp2_with (first | (go_at_call 27; (with_reducible refine (rfine_is HA).mono ?_); rintro e w' ⟨rfl, rfl⟩) | (go_at_call 27; (with_reducible refine (rfine_is HB).mono ?_); rintro e w' ⟨rfl, rfl⟩))
        go_ret2
        exact ⟨by rw [HE2.out]; rfl, rfl⟩
    · obtain ⟨X, hX⟩ : ∃ X, -a = X := ⟨_, rfl⟩
      have hxy : X * b = -(a * b) := by rw [← hX]; exact Int.neg_mul a b
      have hx : 0 < X := by omega
      have hy : 0 < b := by omega
      have hpos : 0 < X * b := Int.mul_pos hx hy
      have hq := quo_iff hx hy
      obtain ⟨q, hqv⟩ : ∃ q, Int.tdiv 4611686018427387903 b = q := ⟨_, rfl⟩
      have hq0 : 0 ≤ q ∧ q ≤ 4611686018427387903 := by
        rw [← hqv, Int.tdiv_eq_ediv_of_nonneg (by decide)]
        exact ⟨Int.ediv_nonneg (by decide) (by omega), Int.ediv_le_self _ (by decide)⟩
      rw [hqv] at hq
      obtain ⟨hq1, hq2⟩ := hq0
      by_cases hov : X * b < 4611686018427387904
      · have hg : ¬ q < X := fun z => hq.mp z hov
        have hw : IntKind.i64.wrap (a * b) = a * b := IntWalk.i64_in _ (by rw [hxy] at hov hpos; omega)
        have HE2 : Hid (r = some (a * b)) := Lib.hid (by rw [HE3.out, if_pos (fine_iff.mpr (by rw [hxy] at hov hpos; omega))])
        clear hq hxy hov hpos
        go_enter Try.func24, Try.ntmps24
        go_wp2_with (first | (go_at_call 27; (with_reducible refine (rfine_is HA).mono ?_); rintro e w' ⟨rfl, rfl⟩) | (go_at_call 27; (with_reducible refine (rfine_is HB).mono ?_); rintro e w' ⟨rfl, rfl⟩))
        go_ret2
        exact ⟨by rw [HE2.out]; rfl, rfl⟩
      · have hg : q < X := hq.mpr hov
        have HE2 : Hid (r = none) := Lib.hid (by rw [HE3.out, if_neg (fun z => by have := fine_iff.mp z; rw [hxy] at hov hpos; omega)])
        clear hq hxy hov hpos
        go_enter Try.func24, Try.ntmps24
        go_wp2_with (first | (go_at_call 27; (with_reducible refine (rfine_is HA).mono ?_); rintro e w' ⟨rfl, rfl⟩) | (go_at_call 27; (with_reducible refine (rfine_is HB).mono ?_); rintro e w' ⟨rfl, rfl⟩))
        go_ret2
        exact ⟨by rw [HE2.out]; rfl, rfl⟩
  · by_cases sb : b < 0
    · obtain ⟨Y, hY⟩ : ∃ Y, -b = Y := ⟨_, rfl⟩
      have hxy : a * Y = -(a * b) := by rw [← hY]; exact Int.mul_neg a b
      have hx : 0 < a := by omega
      have hy : 0 < Y := by omega
      have hpos : 0 < a * Y := Int.mul_pos hx hy
      have hq := quo_iff hx hy
      obtain ⟨q, hqv⟩ : ∃ q, Int.tdiv 4611686018427387903 Y = q := ⟨_, rfl⟩
      have hq0 : 0 ≤ q ∧ q ≤ 4611686018427387903 := by
        rw [← hqv, Int.tdiv_eq_ediv_of_nonneg (by decide)]
        exact ⟨Int.ediv_nonneg (by decide) (by omega), Int.ediv_le_self _ (by decide)⟩
      rw [hqv] at hq
      obtain ⟨hq1, hq2⟩ := hq0
      by_cases hov : a * Y < 4611686018427387904
      · have hg : ¬ q < a := fun z => hq.mp z hov
        have hw : IntKind.i64.wrap (a * b) = a * b := IntWalk.i64_in _ (by rw [hxy] at hov hpos; omega)
        have HE2 : Hid (r = some (a * b)) := Lib.hid (by rw [HE3.out, if_pos (fine_iff.mpr (by rw [hxy] at hov hpos; omega))])
        clear hq hxy hov hpos
        go_enter Try.func24, Try.ntmps24
        go_wp2_with (first | (go_at_call 27; (with_reducible refine (rfine_is HA).mono ?_); rintro e w' ⟨rfl, rfl⟩) | (go_at_call 27; (with_reducible refine (rfine_is HB).mono ?_); rintro e w' ⟨rfl, rfl⟩))
        go_ret2
        exact ⟨by rw [HE2.out]; rfl, rfl⟩
      · have hg : q < a := hq.mpr hov
        have HE2 : Hid (r = none) := Lib.hid (by rw [HE3.out, if_neg (fun z => by have := fine_iff.mp z; rw [hxy] at hov hpos; omega)])
        clear hq hxy hov hpos
        go_enter Try.func24, Try.ntmps24
        go_wp2_with (first | (go_at_call 27; (with_reducible refine (rfine_is HA).mono ?_); rintro e w' ⟨rfl, rfl⟩) | (go_at_call 27; (with_reducible refine (rfine_is HB).mono ?_); rintro e w' ⟨rfl, rfl⟩))
        go_ret2
        exact ⟨by rw [HE2.out]; rfl, rfl⟩
    · have hxy : a * b = a * b := rfl
      have hx : 0 < a := by omega
      have hy : 0 < b := by omega
      have hpos : 0 < a * b := Int.mul_pos hx hy
      have hq := quo_iff hx hy
      obtain ⟨q, hqv⟩ : ∃ q, Int.tdiv 4611686018427387903 b = q := ⟨_, rfl⟩
      have hq0 : 0 ≤ q ∧ q ≤ 4611686018427387903 := by
        rw [← hqv, Int.tdiv_eq_ediv_of_nonneg (by decide)]
        exact ⟨Int.ediv_nonneg (by decide) (by omega), Int.ediv_le_self _ (by decide)⟩
      rw [hqv] at hq
      obtain ⟨hq1, hq2⟩ := hq0
      by_cases hov : a * b < 4611686018427387904
      · have hg : ¬ q < a := fun z => hq.mp z hov
        have hw : IntKind.i64.wrap (a * b) = a * b := IntWalk.i64_in _ (by rw [hxy] at hov hpos; omega)
        have HE2 : Hid (r = some (a * b)) := Lib.hid (by rw [HE3.out, if_pos (fine_iff.mpr (by rw [hxy] at hov hpos; omega))])
        clear hq hxy hov hpos
        go_enter Try.func24, Try.ntmps24
        go_wp2_with (first | (go_at_call 27; (with_reducible refine (rfine_is HA).mono ?_); rintro e w' ⟨rfl, rfl⟩) | (go_at_call 27; (with_reducible refine (rfine_is HB).mono ?_); rintro e w' ⟨rfl, rfl⟩))
        go_ret2
        exact ⟨by rw [HE2.out]; rfl, rfl⟩
      · have hg : q < a := hq.mpr hov
        have HE2 : Hid (r = none) := Lib.hid (by rw [HE3.out, if_neg (fun z => by have := fine_iff.mp z; rw [hxy] at hov hpos; omega)])
        clear hq hxy hov hpos
        go_enter Try.func24, Try.ntmps24
        go_wp2_with (first | (go_at_call 27; (with_reducible refine (rfine_is HA).mono ?_); rintro e w' ⟨rfl, rfl⟩) | (go_at_call 27; (with_reducible refine (rfine_is HB).mono ?_); rintro e w' ⟨rfl, rfl⟩))
        go_ret2
        exact ⟨by rw [HE2.out]; rfl, rfl⟩
theorem rtimes_is {a b : Int} {w : World} {r : Option Int} (HR : Hid (timesR a b = r)) : Calls Try.prog 24 #[.int .i64 a, .int .i64 b] w fun e w' => e = .returned (.tuple #[.int .i64 (r.getD 0), .bool r.isSome]) ∧ w = w' := by
  have H := rtimes_any a b w
  rw [HR.out] at H
  exact H
/-- A number, if there is one; new memory. -/
def DotOut (r : Option Int) (w : World) (e : Ending) (w' : World) : Prop := e = .returned (.tuple #[.int .i64 (r.getD 0), .bool r.isSome]) ∧ Below w.heap.size w w'
set_option maxHeartbeats 3200000 in
theorem rdot_any (L M : List Int) (n : Nat) (A B : Option Addr) (c d : Nat) (w : World) (hl : SlcIs IntAt 1 w w.heap.size A c L) (hm : SlcIs IntAt 1 w w.heap.size B d M) (hL : L.length = n) (hM : M.length = n) :
    Calls Try.prog 16 #[.slice A n c, .slice B n d] w (DotOut (dotR L M) w) := by
  have HL := Lib.hid hl
  have HM := Lib.hid hm
  have hc1 := hl.le
  have hc2 := hl.cap
  have hd1 := hm.le
  have hd2 := hm.cap
  rw [hL] at hc1
  rw [hM] at hd1
  have HLN := Lib.hid hL
  have HMN := Lib.hid hM
  obtain ⟨D, hD⟩ : ∃ D, dotR L M = D := ⟨_, rfl⟩
  rw [hD]
  have HD : Hid (dotFrom 0 ((L.zip M).drop 0) = D) := Lib.hid hD
  clear hl hm hL hM hD
  go_enter Try.func16, Try.ntmps16
  go_wp2_with fail
  go_loopw [6, 7] (fun sv i wr => ∃ (k : Nat) (s : Int), k ≤ n ∧ i = .int .i64 k ∧ sv = .int .i64 s ∧ Hid (dotFrom s ((L.zip M).drop k) = D) ∧ Hid (Below w.heap.size w wr)) (fun _ i _ => n - (intOf i).toNat)
  case atStart => exact ⟨0, 0, Nat.zero_le _, rfl, rfl, HD, Lib.hid (Below.refl _ _)⟩
  case round =>
    clear HD
    obtain ⟨k, s, hk, rfl, rfl, HD, HX⟩ := hrel
    by_cases hkn : k < n
    · have hkL : k < L.length := by rw [HLN.out]; exact hkn
      have hkM : k < M.length := by rw [HMN.out]; exact hkn
      obtain ⟨ad, rfl, hab, s0⟩ := HL.out.row.at_ hkL
      obtain ⟨ad', rfl, hab', t0⟩ := HM.out.row.at_ hkM
      have s0 : w.cell? (ad.add k) = some (.int .i64 L[k]) := by have := s0; rw [Nat.mul_one] at this; exact this
      have t0 : w.cell? (ad'.add k) = some (.int .i64 M[k]) := by have := t0; rw [Nat.mul_one] at this; exact this
      have hz : k < (L.zip M).length := by rw [List.length_zip]; omega
      have hdr : (L.zip M).drop k = (L[k], M[k]) :: (L.zip M).drop (k + 1) := by rw [List.drop_eq_getElem_cons hz, List.getElem_zip]
      have HDR := Lib.hid hdr
      obtain ⟨x, hx⟩ : ∃ x, L[k] = x := ⟨_, rfl⟩
      obtain ⟨y, hy⟩ : ∃ x, M[k] = x := ⟨_, rfl⟩
      rw [hx] at s0 HDR
      rw [hy] at t0 HDR
      have HKS : Hid (∀ W, Below w.heap.size w W → (fun w' => w'.cell? (ad.add k) = some (.int .i64 x) ∧ w'.cell? (ad'.add k) = some (.int .i64 y)) W) := Lib.hid (fun W hW => ⟨(hW.cell (p := ad.add k) (by rw [addr_add_block]; exact hab)).trans s0, (hW.cell (p := ad'.add k) (by rw [addr_add_block]; exact hab')).trans t0⟩)
      obtain ⟨P, hP⟩ : ∃ P, timesR x y = P := ⟨_, rfl⟩
      have HP := Lib.hid hP
      clear hdr hx hy s0 t0 hP
      have HXD : Hid (Below w.heap.size w wr.drew) := Lib.hid HX.out.drew
      go_upto_region 5 with fail
      go_region_held3 (fun w' => w'.cell? (ad.add k) = some (.int .i64 x) ∧ w'.cell? (ad'.add k) = some (.int .i64 y)) (first | exact HKS.out _ HXD.out) (first | (go_at_call 24; (with_reducible refine (rtimes_is HP).mono ?_); rintro e w6 ⟨rfl, he⟩; subst he))
      rename_i hHeld
      clear hHeld
      cases P with
      | none =>
        have HN : Hid (D = none) := Lib.hid (by rw [← HD.out, HDR.out]; exact dot_none HP.out)
        go_wp2_with fail
        go_ret2
        exact ⟨by rw [HN.out]; rfl, HXD.out⟩
      | some p =>
        obtain ⟨Q, hQ⟩ : ∃ P, plusR s p = P := ⟨_, rfl⟩
        have HQ := Lib.hid hQ
        clear hQ
        cases Q with
        | none =>
          have HN : Hid (D = none) := Lib.hid (by rw [← HD.out, HDR.out]; exact dot_over HP.out HQ.out)
          go_wp2_with (first | (go_at_call 25; (with_reducible refine (rplus_is HQ).mono ?_); rintro e w6 ⟨rfl, he⟩; subst he))
          go_ret2
          exact ⟨by rw [HN.out]; rfl, HXD.out⟩
        | some q =>
          have HDN : Hid (dotFrom q ((L.zip M).drop (k + 1)) = D) := Lib.hid (by rw [← HD.out, HDR.out]; exact (dot_some HP.out HQ.out).symm)
          go_wp2_with (first | (go_at_call 25; (with_reducible refine (rplus_is HQ).mono ?_); rintro e w6 ⟨rfl, he⟩; subst he))
          go_roundw
          case rel => exact ⟨k + 1, q, by omega, by go_num, rfl, HDN, HXD⟩
          case measure => simp [intOf]; omega
    · have hki : ¬ (k : Int) < (n : Int) := by omega
      have HN : Hid (D = some s) := Lib.hid (by rw [← HD.out, List.drop_eq_nil_of_le (by rw [List.length_zip, HLN.out, HMN.out]; omega)]; rfl)
      go_wp2_with fail
      go_ret2
      exact ⟨by rw [HN.out]; rfl, HX.out⟩
theorem rdot_is {L M : List Int} {n : Nat} {A B : Option Addr} {c d : Nat} {w : World} {r : Option Int} (H1 : Hid (SlcIs IntAt 1 w w.heap.size A c L)) (H2 : Hid (SlcIs IntAt 1 w w.heap.size B d M)) (HN : Hid (L.length = n ∧ M.length = n)) (HR : Hid (dotR L M = r)) :
    Calls Try.prog 16 #[.slice A n c, .slice B n d] w fun e w' => e = .returned (.tuple #[.int .i64 (r.getD 0), .bool r.isSome]) ∧ Below w.heap.size w w' := by
  have H := rdot_any L M n A B c d w H1.out H2.out HN.out.1 HN.out.2
  rw [HR.out] at H
  exact H
end Go.Proofs.Ytncbmjpfbkngdaa
