/-
  Plain facts of integers that the texts of numbers share: wrapping to 32 bits, shifts step by step, bits one by one. No conditions beyond those in each line.
-/
import Derived.RowKit
import Derived.WalkKit
import Derived.Lib.Hide
import Derived.Laws.BitsLemmas
import Derived.Laws.Entries
namespace Go.Proofs.Ytmjoollhkjgohaa
set_option maxRecDepth 100000
set_option linter.unusedVariables false
set_option linter.unusedSimpArgs false
open Go.RowKit

theorem ret_int {k : IntKind} {a b : Int} (h : a = b) : Ending.returned (.int k a) = .returned (.int k b) := by rw [h]
theorem ret_int2 {k : IntKind} {a b : Int} {c d : Bool} (h : a = b) (g : c = d) : Ending.returned (.tuple #[.int k a, .bool c]) = .returned (.tuple #[.int k b, .bool d]) := by rw [h, g]
theorem ret_bool {a b : Bool} (h : a = b) : Ending.returned (.bool a) = .returned (.bool b) := by rw [h]

theorem wrap32_in {n : Int} (h0 : -2147483648 ≤ n) (h1 : n ≤ 2147483647) : wrap32 n = n := by
  unfold wrap32; omega
theorem wrap32_lo (n : Int) : -2147483648 ≤ wrap32 n := by
  unfold wrap32; omega
theorem wrap32_hi (n : Int) : wrap32 n ≤ 2147483647 := by
  unfold wrap32; omega
theorem wrap32_mod (n : Int) : wrap32 n % 4294967296 = n % 4294967296 := by
  unfold wrap32; omega
theorem wrap32_eq {m n : Int} (h : m % 4294967296 = n % 4294967296) : wrap32 m = wrap32 n := by
  unfold wrap32; omega
theorem wrap32_twice (n : Int) : wrap32 (2 * wrap32 n) = wrap32 (2 * n) := by
  unfold wrap32; omega
theorem wrap32_again (n : Int) : wrap32 (wrap32 n) = wrap32 n := wrap32_in (wrap32_lo n) (wrap32_hi n)

theorem wrap32_add (m n : Int) : wrap32 (wrap32 m + wrap32 n) = wrap32 (m + n) := by
  unfold wrap32; omega
theorem wrap32_add_left (m n : Int) : wrap32 (wrap32 m + n) = wrap32 (m + n) := by
  unfold wrap32; omega
theorem wrap32_add_right (m n : Int) : wrap32 (m + wrap32 n) = wrap32 (m + n) := by
  unfold wrap32; omega
theorem wrap32_sub_left (m n : Int) : wrap32 (wrap32 m - n) = wrap32 (m - n) := by
  unfold wrap32; omega
theorem wrap32_mul_left (m n : Int) : wrap32 (wrap32 m * n) = wrap32 (m * n) := by
  apply wrap32_eq
  rw [Int.mul_emod, wrap32_mod, ← Int.mul_emod]

theorem mul_fits {a b : Int} (ha0 : -2147483648 ≤ a) (ha1 : a ≤ 2147483647) (hb0 : -2147483648 ≤ b) (hb1 : b ≤ 2147483647) :
    -4611686018427387904 ≤ a * b ∧ a * b ≤ 4611686018427387904 := by
  have h1 : a.natAbs ≤ 2147483648 := by omega
  have h2 : b.natAbs ≤ 2147483648 := by omega
  have h3 : (a * b).natAbs ≤ 2147483648 * 2147483648 := by
    rw [Int.natAbs_mul]
    exact Nat.mul_le_mul h1 h2
  omega

theorem tdiv_fits (a b : Int) (ha0 : -2147483648 ≤ a) (ha1 : a ≤ 2147483647) : -2147483648 ≤ a.tdiv b ∧ a.tdiv b ≤ 2147483648 := by
  have h : (a.tdiv b).natAbs = a.natAbs / b.natAbs := Int.natAbs_tdiv a b
  have h2 : a.natAbs / b.natAbs ≤ a.natAbs := Nat.div_le_self _ _
  omega
theorem tmod_fits (a b : Int) (ha0 : -2147483648 ≤ a) (ha1 : a ≤ 2147483647) : -2147483648 ≤ a.tmod b ∧ a.tmod b ≤ 2147483647 := by
  have h : (a.tmod b).natAbs = a.natAbs % b.natAbs := Int.natAbs_tmod a b
  have h2 : a.natAbs % b.natAbs ≤ a.natAbs := Nat.mod_le _ _
  by_cases hn : 0 ≤ a
  · have := Int.tmod_nonneg b hn
    omega
  · have e : a = -(-a) := by omega
    have : 0 ≤ (-a).tmod b := Int.tmod_nonneg b (by omega)
    have e2 : a.tmod b = -((-a).tmod b) := by rw [← Int.neg_tmod, ← e]
    omega
theorem shl_step (a : Int) (k : Nat) : wrap32 (2 * wrap32 (a * 2 ^ k)) = wrap32 (a * 2 ^ (k + 1)) := by
  rw [wrap32_twice, Int.pow_succ]
  congr 1
  rw [Int.mul_left_comm, Int.mul_comm 2]

theorem tdiv_neg2 {y : Int} (h : y ≤ 0) : y.tdiv 2 = -((-y) / 2) := by
  have e : y = -(-y) := by omega
  rw [e, Int.neg_tdiv, Int.tdiv_eq_ediv_of_nonneg (by omega)]
  simp

theorem shr_step (a : Int) (k : Nat) : (if a / 2 ^ k < 0 then (a / 2 ^ k - 1).tdiv 2 else (a / 2 ^ k).tdiv 2) = a / 2 ^ (k + 1) := by
  rw [Int.pow_succ, ← Int.ediv_ediv_of_nonneg (Int.le_of_lt (Int.pow_pos (by decide)))]
  generalize a / 2 ^ k = x
  split
  · rw [tdiv_neg2 (by omega)]; omega
  · rw [Int.tdiv_eq_ediv_of_nonneg (by omega)]

theorem shr_range (a : Int) (k : Nat) (h0 : -2147483648 ≤ a) (h1 : a ≤ 2147483647) : -2147483648 ≤ a / 2 ^ k ∧ a / 2 ^ k ≤ 2147483647 := by
  have hp : (0 : Int) < 2 ^ k := Int.pow_pos (by decide)
  constructor
  · rw [Int.le_ediv_iff_mul_le hp]
    have : (1 : Int) ≤ 2 ^ k := hp
    have := Int.mul_le_mul_of_nonneg_left this (show (0 : Int) ≤ 2147483648 by decide)
    omega
  · rw [← Int.lt_add_one_iff, Int.ediv_lt_iff_lt_mul hp]
    have : (1 : Int) ≤ 2 ^ k := hp
    have := Int.mul_le_mul_of_nonneg_left this (show (0 : Int) ≤ 2147483648 by decide)
    omega

theorem tmod32_lo (n : Int) : -4294967296 < n.tmod 4294967296 := by
  by_cases h : 0 ≤ n
  · rw [Int.tmod_eq_emod_of_nonneg h]; omega
  · have e : n = -(-n) := by omega
    rw [e, Int.neg_tmod, Int.tmod_eq_emod_of_nonneg (by omega)]; omega
theorem tmod32_hi (n : Int) : n.tmod 4294967296 < 4294967296 := by
  by_cases h : 0 ≤ n
  · rw [Int.tmod_eq_emod_of_nonneg h]; omega
  · have e : n = -(-n) := by omega
    rw [e, Int.neg_tmod, Int.tmod_eq_emod_of_nonneg (by omega)]; omega
theorem tmod32_mod (n : Int) : n.tmod 4294967296 % 4294967296 = n % 4294967296 := by
  by_cases h : 0 ≤ n
  · rw [Int.tmod_eq_emod_of_nonneg h]; omega
  · have e : n = -(-n) := by omega
    rw [e, Int.neg_tmod, Int.tmod_eq_emod_of_nonneg (by omega)]; omega

/-- The number's bit at place k. -/
def bitAt (n k : Nat) : Nat := n / 2 ^ k % 2
theorem mod_step (n k : Nat) : n % 2 ^ (k + 1) = n % 2 ^ k + 2 ^ k * bitAt n k := Nat.mod_pow_succ
theorem bitAt_01 (n k : Nat) : bitAt n k = 0 ∨ bitAt n k = 1 := by unfold bitAt; omega
theorem bitAt_test (n k : Nat) : bitAt n k = (n.testBit k).toNat := by
  unfold bitAt
  rw [Nat.testBit_eq_decide_div_mod_eq]
  by_cases h : n / 2 ^ k % 2 = 1
  · simp [h]
  · have : n / 2 ^ k % 2 = 0 := by omega
    simp [this]
theorem bitAt_and (a b k : Nat) : bitAt (a &&& b) k = if bitAt a k = 1 ∧ bitAt b k = 1 then 1 else 0 := by
  rw [bitAt_test, bitAt_test, bitAt_test, Nat.testBit_and]
  cases a.testBit k <;> cases b.testBit k <;> rfl
theorem bitAt_xor (a b k : Nat) : bitAt (a ^^^ b) k = if bitAt a k = bitAt b k then 0 else 1 := by
  rw [bitAt_test, bitAt_test, bitAt_test, Nat.testBit_xor]
  cases a.testBit k <;> cases b.testBit k <;> rfl
theorem and_step (A B k : Nat) : (A &&& B) % 2 ^ (k + 1) = (A &&& B) % 2 ^ k + 2 ^ k * (if A / 2 ^ k % 2 = 1 ∧ B / 2 ^ k % 2 = 1 then 1 else 0) := by
  rw [mod_step, bitAt_and]; rfl
theorem xor_step (A B k : Nat) : (A ^^^ B) % 2 ^ (k + 1) = (A ^^^ B) % 2 ^ k + 2 ^ k * (if A / 2 ^ k % 2 = B / 2 ^ k % 2 then 0 else 1) := by
  rw [mod_step, bitAt_xor]; rfl
theorem half_step (n k : Nat) : n / 2 ^ (k + 1) = n / 2 ^ k / 2 := by
  rw [Nat.pow_succ, Nat.div_div_eq_div_mul]

theorem xor_and_sum (a b : Nat) : (a ^^^ b) + 2 * (a &&& b) = a + b := by
  induction a using Nat.strongRecOn generalizing b with
  | ind a ih =>
    by_cases h0 : a = 0
    · subst h0; simp
    · have h := ih (a / 2) (by omega) (b / 2)
      have x1 : (a ^^^ b) / 2 = a / 2 ^^^ b / 2 := Nat.xor_div_two
      have x2 : (a &&& b) / 2 = a / 2 &&& b / 2 := Nat.and_div_two
      have y1 := bitAt_xor a b 0
      have y2 := bitAt_and a b 0
      unfold bitAt at y1 y2
      simp only [Nat.pow_zero, Nat.div_one] at y1 y2
      split at y1 <;> split at y2 <;> omega

/-- A number of 32 bits, without its sign. -/
def plain (n : Int) : Nat := (n % 4294967296).toNat
theorem plain_lt (n : Int) : plain n < 4294967296 := by unfold plain; omega
theorem plain_cast (n : Int) : (plain n : Int) = n % 4294967296 := by unfold plain; omega
theorem bits_and (a b : Int) : bits .and .i32 a b = wrap32 ((plain a &&& plain b : Nat) : Int) := by
  have ha : (BitVec.ofInt 32 a).toNat = plain a := by rw [BitVec.toNat_ofInt]; rfl
  have hb : (BitVec.ofInt 32 b).toNat = plain b := by rw [BitVec.toNat_ofInt]; rfl
  show IntKind.i32.wrap ((BitVec.ofInt 32 a &&& BitVec.ofInt 32 b).toNat : Int) = _
  rw [BitVec.toNat_and, ha, hb, IntKind.wrap_i32]
  unfold wrap32
  exact rfl
theorem bits_xor (a b : Int) : bits .xor .i32 a b = wrap32 ((plain a ^^^ plain b : Nat) : Int) := by
  have ha : (BitVec.ofInt 32 a).toNat = plain a := by rw [BitVec.toNat_ofInt]; rfl
  have hb : (BitVec.ofInt 32 b).toNat = plain b := by rw [BitVec.toNat_ofInt]; rfl
  show IntKind.i32.wrap ((BitVec.ofInt 32 a ^^^ BitVec.ofInt 32 b).toNat : Int) = _
  rw [BitVec.toNat_xor, ha, hb, IntKind.wrap_i32]
  unfold wrap32
  exact rfl
theorem wrap_sum (a b : Int) : wrap32 (bits .xor .i32 a b + wrap32 (bits .and .i32 a b + bits .and .i32 a b)) = wrap32 (a + b) := by
  rw [bits_and, bits_xor]
  have h := xor_and_sum (plain a) (plain b)
  have ha := plain_cast a
  have hb := plain_cast b
  generalize (plain a ^^^ plain b) = X at *
  generalize (plain a &&& plain b) = Y at *
  generalize plain a = A at *
  generalize plain b = B at *
  apply wrap32_eq
  have h1 := wrap32_mod (X : Int)
  have h2 := wrap32_mod (Y : Int)
  have h3 := wrap32_mod (wrap32 (Y : Int) + wrap32 (Y : Int))
  generalize wrap32 (wrap32 (Y : Int) + wrap32 (Y : Int)) = Z at *
  generalize wrap32 (X : Int) = X' at *
  generalize wrap32 (Y : Int) = Y' at *
  omega
theorem plain_wrap (n : Int) : plain (wrap32 n) = plain n := by unfold plain; rw [wrap32_mod]
theorem wrap_plain {n : Int} (h0 : -2147483648 ≤ n) (h1 : n ≤ 2147483647) : wrap32 (plain n : Int) = n := by
  rw [plain_cast]; unfold wrap32; omega
theorem plain_nat {n : Nat} (h : n < 4294967296) : plain (n : Int) = n := by unfold plain; omega
end Go.Proofs.Ytmjoollhkjgohaa
