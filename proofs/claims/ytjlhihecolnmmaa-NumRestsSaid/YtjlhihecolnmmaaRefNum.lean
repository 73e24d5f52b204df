/-
  What the document's own answer for numbers (wrap, whole, bitwise, Do) comes to at any arguments that fit their kinds, as plain functions of integers.
-/
import Derived.Test.YtjlhihecolnmmaaNum
import Derived.Test.YtjlhihecolnmmaaMath
import Derived.Outline
namespace Go.Proofs.Ytjlhihecolnmmaa
set_option linter.unusedVariables false
open Go.ChangeShapes Go.WideShapes Go.ChangeAt Go.RowKit

theorem rwrap_any (n : Int) (w : World) : Calls Try.prog 15 #[.int .i64 n] w fun e w' => e = .returned (.int .i32 (wrap32 n)) ∧ w = w' := by
  have l0 := tmod32_lo n
  have l1 := tmod32_hi n
  have H := Lib.hid (tmod32_mod n)
  go_enter Try.func15, Try.ntmps15
  go_wp2
  all_goals
    go_ret
    refine ⟨ret_int ?_, rfl⟩
    have h := H.out
    unfold wrap32
    omega
theorem rwhole_any (n : Int) (h0 : -2147483648 ≤ n) (h1 : n ≤ 2147483647) (w : World) : Calls Try.prog 17 #[.int .i32 n] w fun e w' => e = .returned (.int .i64 (plain n : Int)) ∧ w = w' := by
  rw [plain_cast]
  by_cases hn : n < 0
  · have e : n % 4294967296 = n + 4294967296 := by omega
    have E := Lib.hid e; clear e
    go_enter Try.func17, Try.ntmps17
    go_wp2
    go_ret
    rw [E.out]
    exact ⟨rfl, rfl⟩
  · have e : n % 4294967296 = n := by omega
    have E := Lib.hid e; clear e
    go_enter Try.func17, Try.ntmps17
    go_wp2
    go_ret
    rw [E.out]
    exact ⟨rfl, rfl⟩

theorem and_lt32 {A B : Nat} (hA : A < 4294967296) (_ : B < 4294967296) : A &&& B < 4294967296 := Nat.lt_of_le_of_lt Nat.and_le_left hA
theorem xor_lt32 {A B : Nat} (hA : A < 4294967296) (hB : B < 4294967296) : A ^^^ B < 4294967296 := Nat.xor_lt_two_pow (n := 32) hA hB
theorem rbitwise_and (A B : Nat) (w : World) (hA : A < 4294967296) (hB : B < 4294967296) : Calls Try.prog 16 #[.int .i64 12, .int .i64 (A : Int), .int .i64 (B : Int)] w fun e w' => e = .returned (.int .i64 ((A &&& B : Nat) : Int)) ∧ w = w' := by
  go_enter Try.func16, Try.ntmps16
  go_wp2
  go_loop [1, 2, 7, 8, 9] (fun a b o u i => ∃ k : Nat, k ≤ 32 ∧ i = .int .i64 k ∧ a = .int .i64 ((A / 2 ^ k : Nat) : Int) ∧ b = .int .i64 ((B / 2 ^ k : Nat) : Int) ∧ o = .int .i64 (((A &&& B) % 2 ^ k : Nat) : Int) ∧ u = .int .i64 ((2 ^ k : Nat) : Int)) (fun _ _ _ _ i => 32 - (intOf i).toNat)
  case atStart => exact ⟨0, by omega, rfl, by simp, by simp, by simp [Nat.mod_one], rfl⟩
  case round =>
    obtain ⟨k, hk, rfl, rfl, rfl, rfl, rfl⟩ := hrel
    by_cases hlt : k < 32
    · have S1 := Lib.hid (half_step A k)
      have S2 := Lib.hid (half_step B k)
      have S3 := Lib.hid (and_step A B k)
      have S5 := Lib.hid (Nat.pow_succ (n := 2) (m := k))
      have bp : A / 2 ^ k < 4294967296 := Nat.lt_of_le_of_lt (Nat.div_le_self _ _) hA
      have bq : B / 2 ^ k < 4294967296 := Nat.lt_of_le_of_lt (Nat.div_le_self _ _) hB
      have bo : (A &&& B) % 2 ^ k < 4294967296 := Nat.lt_of_le_of_lt (Nat.mod_le _ _) (and_lt32 hA hB)
      have bu : 2 ^ k ≤ 4294967296 := Nat.le_trans (Nat.pow_le_pow_right (by decide) (show k ≤ 32 by omega)) (by decide)
      generalize A / 2 ^ k = p at *
      generalize B / 2 ^ k = q at *
      generalize (A &&& B) % 2 ^ k = o at *
      generalize 2 ^ k = u at *
      have hp0 : (p : Int) % 2 = 0 ∨ (p : Int) % 2 = 1 := by omega
      have hq0 : (q : Int) % 2 = 0 ∨ (q : Int) % 2 = 1 := by omega
      rcases hp0 with hp | hp <;> rcases hq0 with hq | hq
      all_goals
        go_wp2
        go_round
        case rel =>
          refine ⟨k + 1, by omega, by go_num, ?_, ?_, ?_, ?_⟩
          · rw [S1.out]; rfl
          · rw [S2.out]; rfl
          · rw [S3.out]
            first | rw [if_pos (by omega)] | rw [if_neg (by omega)]
            simp
          · rw [S5.out]; simp
        case measure => simp [intOf]; omega
    · obtain rfl : k = 32 := by omega
      go_wp2
      go_ret
      refine ⟨ret_int ?_, rfl⟩
      have := and_lt32 hA hB
      omega
theorem rbitwise_xor (A B : Nat) (w : World) (hA : A < 4294967296) (hB : B < 4294967296) : Calls Try.prog 16 #[.int .i64 13, .int .i64 (A : Int), .int .i64 (B : Int)] w fun e w' => e = .returned (.int .i64 ((A ^^^ B : Nat) : Int)) ∧ w = w' := by
  go_enter Try.func16, Try.ntmps16
  go_wp2
  go_loop [1, 2, 7, 8, 9] (fun a b o u i => ∃ k : Nat, k ≤ 32 ∧ i = .int .i64 k ∧ a = .int .i64 ((A / 2 ^ k : Nat) : Int) ∧ b = .int .i64 ((B / 2 ^ k : Nat) : Int) ∧ o = .int .i64 (((A ^^^ B) % 2 ^ k : Nat) : Int) ∧ u = .int .i64 ((2 ^ k : Nat) : Int)) (fun _ _ _ _ i => 32 - (intOf i).toNat)
  case atStart => exact ⟨0, by omega, rfl, by simp, by simp, by simp [Nat.mod_one], rfl⟩
  case round =>
    obtain ⟨k, hk, rfl, rfl, rfl, rfl, rfl⟩ := hrel
    by_cases hlt : k < 32
    · have S1 := Lib.hid (half_step A k)
      have S2 := Lib.hid (half_step B k)
      have S3 := Lib.hid (xor_step A B k)
      have S5 := Lib.hid (Nat.pow_succ (n := 2) (m := k))
      have bp : A / 2 ^ k < 4294967296 := Nat.lt_of_le_of_lt (Nat.div_le_self _ _) hA
      have bq : B / 2 ^ k < 4294967296 := Nat.lt_of_le_of_lt (Nat.div_le_self _ _) hB
      have bo : (A ^^^ B) % 2 ^ k < 4294967296 := Nat.lt_of_le_of_lt (Nat.mod_le _ _) (xor_lt32 hA hB)
      have bu : 2 ^ k ≤ 4294967296 := Nat.le_trans (Nat.pow_le_pow_right (by decide) (show k ≤ 32 by omega)) (by decide)
      generalize A / 2 ^ k = p at *
      generalize B / 2 ^ k = q at *
      generalize (A ^^^ B) % 2 ^ k = o at *
      generalize 2 ^ k = u at *
      have hp0 : (p : Int) % 2 = 0 ∨ (p : Int) % 2 = 1 := by omega
      have hq0 : (q : Int) % 2 = 0 ∨ (q : Int) % 2 = 1 := by omega
      rcases hp0 with hp | hp <;> rcases hq0 with hq | hq
      all_goals
        go_wp2
        go_round
        case rel =>
          refine ⟨k + 1, by omega, by go_num, ?_, ?_, ?_, ?_⟩
          · rw [S1.out]; rfl
          · rw [S2.out]; rfl
          · rw [S3.out]
            first | rw [if_pos (by omega)] | rw [if_neg (by omega)]
            simp
          · rw [S5.out]; simp
        case measure => simp [intOf]; omega
    · obtain rfl : k = 32 := by omega
      go_wp2
      go_ret
      refine ⟨ret_int ?_, rfl⟩
      have := xor_lt32 hA hB
      omega
theorem rdo_add (a b : Int) (a0 : -2147483648 ≤ a) (a1 : a ≤ 2147483647) (b0 : -2147483648 ≤ b) (b1 : b ≤ 2147483647) (w : World) : Calls Try.prog 9 #[.int .i64 7, .int .i32 a, .int .i32 b] w fun e w' => e = .returned (.tuple #[.int .i32 (wrap32 (a + b)), .bool true]) ∧ w = w' := by
  go_enter Try.func9, Try.ntmps9
  go_wp2_with (go_at_call 15; refine (rwrap_any _ _).mono ?_; rintro e w' ⟨rfl, rfl⟩)
  go_ret2
  exact ⟨rfl, rfl⟩
theorem rdo_sub (a b : Int) (a0 : -2147483648 ≤ a) (a1 : a ≤ 2147483647) (b0 : -2147483648 ≤ b) (b1 : b ≤ 2147483647) (w : World) : Calls Try.prog 9 #[.int .i64 8, .int .i32 a, .int .i32 b] w fun e w' => e = .returned (.tuple #[.int .i32 (wrap32 (a - b)), .bool true]) ∧ w = w' := by
  go_enter Try.func9, Try.ntmps9
  go_wp2_with (go_at_call 15; refine (rwrap_any _ _).mono ?_; rintro e w' ⟨rfl, rfl⟩)
  go_ret2
  exact ⟨rfl, rfl⟩
theorem rdo_mul (a b : Int) (a0 : -2147483648 ≤ a) (a1 : a ≤ 2147483647) (b0 : -2147483648 ≤ b) (b1 : b ≤ 2147483647) (w : World) : Calls Try.prog 9 #[.int .i64 9, .int .i32 a, .int .i32 b] w fun e w' => e = .returned (.tuple #[.int .i32 (wrap32 (a * b)), .bool true]) ∧ w = w' := by
  obtain ⟨m0, m1⟩ := mul_fits a0 a1 b0 b1
  go_enter Try.func9, Try.ntmps9
  go_wp2_with (go_at_call 15; refine (rwrap_any _ _).mono ?_; rintro e w' ⟨rfl, rfl⟩)
  go_ret2
  exact ⟨rfl, rfl⟩
theorem rdo_div0 (a : Int) (w : World) : Calls Try.prog 9 #[.int .i64 10, .int .i32 a, .int .i32 0] w fun e w' => e = .returned (.tuple #[.int .i32 0, .bool false]) ∧ w = w' := by
  go_enter Try.func9, Try.ntmps9
  go_wp2
  go_ret2
  exact ⟨rfl, rfl⟩
theorem rdo_rem0 (a : Int) (w : World) : Calls Try.prog 9 #[.int .i64 11, .int .i32 a, .int .i32 0] w fun e w' => e = .returned (.tuple #[.int .i32 0, .bool false]) ∧ w = w' := by
  go_enter Try.func9, Try.ntmps9
  go_wp2
  go_ret2
  exact ⟨rfl, rfl⟩
theorem rdo_div (a b : Int) (a0 : -2147483648 ≤ a) (a1 : a ≤ 2147483647) (b0 : -2147483648 ≤ b) (b1 : b ≤ 2147483647) (hb : ¬ b = 0) (w : World) : Calls Try.prog 9 #[.int .i64 10, .int .i32 a, .int .i32 b] w fun e w' => e = .returned (.tuple #[.int .i32 (wrap32 (a.tdiv b)), .bool true]) ∧ w = w' := by
  obtain ⟨m0, m1⟩ := tdiv_fits a b a0 a1
  go_enter Try.func9, Try.ntmps9
  go_wp2_with (go_at_call 15; refine (rwrap_any _ _).mono ?_; rintro e w' ⟨rfl, rfl⟩)
  go_ret2
  exact ⟨rfl, rfl⟩
theorem rdo_rem (a b : Int) (a0 : -2147483648 ≤ a) (a1 : a ≤ 2147483647) (b0 : -2147483648 ≤ b) (b1 : b ≤ 2147483647) (hb : ¬ b = 0) (w : World) : Calls Try.prog 9 #[.int .i64 11, .int .i32 a, .int .i32 b] w fun e w' => e = .returned (.tuple #[.int .i32 (wrap32 (a.tmod b)), .bool true]) ∧ w = w' := by
  go_enter Try.func9, Try.ntmps9
  go_wp2_with (go_at_call 15; refine (rwrap_any _ _).mono ?_; rintro e w' ⟨rfl, rfl⟩)
  go_ret2
  exact ⟨rfl, rfl⟩
theorem rdo_and (a b : Int) (a0 : -2147483648 ≤ a) (a1 : a ≤ 2147483647) (b0 : -2147483648 ≤ b) (b1 : b ≤ 2147483647) (w : World) : Calls Try.prog 9 #[.int .i64 12, .int .i32 a, .int .i32 b] w fun e w' => e = .returned (.tuple #[.int .i32 (wrap32 ((plain a &&& plain b : Nat) : Int)), .bool true]) ∧ w = w' := by
  have p0 := plain_lt a
  have p1 := plain_lt b
  go_enter Try.func9, Try.ntmps9
  go_wp2_with (first | (go_at_call 17; refine (rwhole_any _ (by omega) (by omega) _).mono ?_; rintro e w' ⟨rfl, rfl⟩) | (go_at_call 16; refine (rbitwise_and _ _ _ (by omega) (by omega)).mono ?_; rintro e w' ⟨rfl, rfl⟩) | (go_at_call 15; refine (rwrap_any _ _).mono ?_; rintro e w' ⟨rfl, rfl⟩))
  go_ret2
  exact ⟨rfl, rfl⟩
theorem rdo_xor (a b : Int) (a0 : -2147483648 ≤ a) (a1 : a ≤ 2147483647) (b0 : -2147483648 ≤ b) (b1 : b ≤ 2147483647) (w : World) : Calls Try.prog 9 #[.int .i64 13, .int .i32 a, .int .i32 b] w fun e w' => e = .returned (.tuple #[.int .i32 (wrap32 ((plain a ^^^ plain b : Nat) : Int)), .bool true]) ∧ w = w' := by
  have p0 := plain_lt a
  have p1 := plain_lt b
  go_enter Try.func9, Try.ntmps9
  go_wp2_with (first | (go_at_call 17; refine (rwhole_any _ (by omega) (by omega) _).mono ?_; rintro e w' ⟨rfl, rfl⟩) | (go_at_call 16; refine (rbitwise_xor _ _ _ (by omega) (by omega)).mono ?_; rintro e w' ⟨rfl, rfl⟩) | (go_at_call 15; refine (rwrap_any _ _).mono ?_; rintro e w' ⟨rfl, rfl⟩))
  go_ret2
  exact ⟨rfl, rfl⟩
theorem rdo_shl (a b : Int) (a0 : -2147483648 ≤ a) (a1 : a ≤ 2147483647) (b0 : -2147483648 ≤ b) (b1 : b ≤ 2147483647) (w : World) : Calls Try.prog 9 #[.int .i64 14, .int .i32 a, .int .i32 b] w fun e w' => e = .returned (.tuple #[.int .i32 (wrap32 (a * 2 ^ (b % 32).toNat)), .bool true]) ∧ w = w' := by
  have p0 := plain_lt b
  have p1 := Lib.hid (plain_cast b)
  go_enter Try.func9, Try.ntmps9
  go_wp2
  go_loop [10, 11] (fun n i => ∃ k : Nat, (k : Int) ≤ b % 32 ∧ i = .int .i64 k ∧ n = .int .i64 (wrap32 (a * 2 ^ k))) (fun _ i => 32 - (intOf i).toNat)
  case atStart => exact ⟨0, by omega, rfl, by rw [Int.pow_zero, Int.mul_one, wrap32_in a0 a1]⟩
  case round =>
    obtain ⟨k, hk, rfl, rfl⟩ := hrel
    have l0 := wrap32_lo (a * 2 ^ k)
    have l1 := wrap32_hi (a * 2 ^ k)
    have l2 := wrap32_lo (2 * wrap32 (a * 2 ^ k))
    have l3 := wrap32_hi (2 * wrap32 (a * 2 ^ k))
    have S := Lib.hid (shl_step a k)
    by_cases hlt : (k : Int) < b % 32
    · have hlt2 : k < plain b % 32 := by have := p1.out; omega
      have hlt3 : (k : Int) < (plain b : Int) % 32 := by omega
      clear hlt2
      go_wp2_with (first | (go_at_call 17; refine (rwhole_any _ (by omega) (by omega) _).mono ?_; rintro e w' ⟨rfl, rfl⟩) | (go_at_call 15; refine (rwrap_any _ _).mono ?_; rintro e w' ⟨rfl, rfl⟩))
      go_round
      case rel => exact ⟨k + 1, by omega, by go_num, by rw [S.out]⟩
      case measure => simp [intOf]; omega
    · have hlt2 : ¬ (k : Int) < (plain b : Int) % 32 := by have := p1.out; omega
      have hk2 : k = (b % 32).toNat := by omega
      have K2 := Lib.hid hk2
      clear hk2
      go_wp2_with (first | (go_at_call 17; refine (rwhole_any _ (by omega) (by omega) _).mono ?_; rintro e w' ⟨rfl, rfl⟩) | (go_at_call 15; refine (rwrap_any _ _).mono ?_; rintro e w' ⟨rfl, rfl⟩))
      go_ret2
      exact ⟨ret_int2 (by rw [wrap32_again, K2.out]) rfl, rfl⟩
theorem rdo_shr (a b : Int) (a0 : -2147483648 ≤ a) (a1 : a ≤ 2147483647) (b0 : -2147483648 ≤ b) (b1 : b ≤ 2147483647) (w : World) : Calls Try.prog 9 #[.int .i64 15, .int .i32 a, .int .i32 b] w fun e w' => e = .returned (.tuple #[.int .i32 (a / 2 ^ (b % 32).toNat), .bool true]) ∧ w = w' := by
  have p0 := plain_lt b
  have p1 := Lib.hid (plain_cast b)
  go_enter Try.func9, Try.ntmps9
  go_wp2
  go_loop [12, 13] (fun n i => ∃ k : Nat, (k : Int) ≤ b % 32 ∧ i = .int .i64 k ∧ n = .int .i64 (a / 2 ^ k)) (fun _ i => 32 - (intOf i).toNat)
  case atStart => exact ⟨0, by omega, rfl, by rw [Int.pow_zero, Int.ediv_one]⟩
  case round =>
    obtain ⟨k, hk, rfl, rfl⟩ := hrel
    obtain ⟨l0, l1⟩ := shr_range a k a0 a1
    have S := Lib.hid (shr_step a k)
    by_cases hlt : (k : Int) < b % 32
    · have hlt2 : k < plain b % 32 := by have := p1.out; omega
      have hlt3 : (k : Int) < (plain b : Int) % 32 := by omega
      clear hlt2
      generalize a / 2 ^ k = x at *
      by_cases hx : x < 0
      · have S2 := Lib.hid (show (x - 1).tdiv 2 = a / 2 ^ (k + 1) by have := S.out; rw [if_pos hx] at this; exact this)
        clear S
        go_wp2_with (first | (go_at_call 17; refine (rwhole_any _ (by omega) (by omega) _).mono ?_; rintro e w' ⟨rfl, rfl⟩) | (go_at_call 15; refine (rwrap_any _ _).mono ?_; rintro e w' ⟨rfl, rfl⟩))
        go_round
        case rel => exact ⟨k + 1, by omega, by go_num, by rw [S2.out]⟩
        case measure => simp [intOf]; omega
      · have S2 := Lib.hid (show x.tdiv 2 = a / 2 ^ (k + 1) by have := S.out; rw [if_neg hx] at this; exact this)
        clear S
        go_wp2_with (first | (go_at_call 17; refine (rwhole_any _ (by omega) (by omega) _).mono ?_; rintro e w' ⟨rfl, rfl⟩) | (go_at_call 15; refine (rwrap_any _ _).mono ?_; rintro e w' ⟨rfl, rfl⟩))
        go_round
        case rel => exact ⟨k + 1, by omega, by go_num, by rw [← S2.out, Int.tdiv_eq_ediv_of_nonneg (by omega)]⟩
        case measure => simp [intOf]; omega
    · have hlt2 : ¬ (k : Int) < (plain b : Int) % 32 := by have := p1.out; omega
      have hk2 : k = (b % 32).toNat := by omega
      have K2 := Lib.hid hk2
      clear hk2
      go_wp2_with (first | (go_at_call 17; refine (rwhole_any _ (by omega) (by omega) _).mono ?_; rintro e w' ⟨rfl, rfl⟩) | (go_at_call 15; refine (rwrap_any _ _).mono ?_; rintro e w' ⟨rfl, rfl⟩))
      go_ret2
      exact ⟨ret_int2 (by rw [wrap32_in l0 l1, K2.out]) rfl, rfl⟩
theorem rdo_less (a b : Int) (a0 : -2147483648 ≤ a) (a1 : a ≤ 2147483647) (b0 : -2147483648 ≤ b) (b1 : b ≤ 2147483647) (w : World) : Calls Try.prog 9 #[.int .i64 16, .int .i32 a, .int .i32 b] w fun e w' => e = .returned (.tuple #[.int .i32 (b01 (decide (a < b))), .bool true]) ∧ w = w' := by
  by_cases h : a < b
  · have E := Lib.hid (show b01 (decide (a < b)) = 1 by rw [decide_eq_true h]; rfl)
    go_enter Try.func9, Try.ntmps9
    go_wp2
    go_ret2
    exact ⟨ret_int2 (by rw [E.out]) rfl, rfl⟩
  · have E := Lib.hid (show b01 (decide (a < b)) = 0 by rw [decide_eq_false h]; rfl)
    go_enter Try.func9, Try.ntmps9
    go_wp2
    go_ret2
    exact ⟨ret_int2 (by rw [E.out]) rfl, rfl⟩
theorem rdo_equal (a b : Int) (a0 : -2147483648 ≤ a) (a1 : a ≤ 2147483647) (b0 : -2147483648 ≤ b) (b1 : b ≤ 2147483647) (w : World) : Calls Try.prog 9 #[.int .i64 17, .int .i32 a, .int .i32 b] w fun e w' => e = .returned (.tuple #[.int .i32 (b01 (decide (a = b))), .bool true]) ∧ w = w' := by
  by_cases h : a = b
  · have E := Lib.hid (show b01 (decide (a = b)) = 1 by rw [decide_eq_true h]; rfl)
    go_enter Try.func9, Try.ntmps9
    go_wp2
    go_ret2
    exact ⟨ret_int2 (by rw [E.out]) rfl, rfl⟩
  · have E := Lib.hid (show b01 (decide (a = b)) = 0 by rw [decide_eq_false h]; rfl)
    go_enter Try.func9, Try.ntmps9
    go_wp2
    go_ret2
    exact ⟨ret_int2 (by rw [E.out]) rfl, rfl⟩
theorem rdo_none (op a b : Int) (h : op < 7 ∨ 17 < op) (w : World) : Calls Try.prog 9 #[.int .i64 op, .int .i32 a, .int .i32 b] w fun e w' => e = .returned (.tuple #[.int .i32 0, .bool false]) ∧ w = w' := by
  have n7 : ¬ op = 7 := by omega
  have n8 : ¬ op = 8 := by omega
  have n9 : ¬ op = 9 := by omega
  have n10 : ¬ op = 10 := by omega
  have n11 : ¬ op = 11 := by omega
  have n12 : ¬ op = 12 := by omega
  have n13 : ¬ op = 13 := by omega
  have n14 : ¬ op = 14 := by omega
  have n15 : ¬ op = 15 := by omega
  have n16 : ¬ op = 16 := by omega
  have n17 : ¬ op = 17 := by omega
  clear h
  go_enter Try.func9, Try.ntmps9
  go_wp2
  go_ret2
  exact ⟨rfl, rfl⟩
end Go.Proofs.Ytjlhihecolnmmaa
