/-
  What num.Do, num.Is and their helpers come to at any arguments, as plain functions of integers. Conditions: the arguments fit their kinds.
-/
import Derived.Test.YtjlhihecolnmmaaRows
import Derived.WalkKit
import Derived.ProofKit
import Derived.OpenShut
namespace Go.Proofs.Ytjlhihecolnmmaa
open Go.ChangeShapes Go.WideShapes Go.ChangeAt Go.RowKit

def b01 (b : Bool) : Int := if b then 1 else 0

theorem fits32 {a : Int} (h : (Lit.int .i32 a).wf = true) : -2147483648 ≤ a ∧ a ≤ 2147483647 := by
  simpa [Lit.wf, IntKind.min, IntKind.max, IntKind.signed, IntKind.bits] using h
theorem fits64 {a : Int} (h : (Lit.int .i64 a).wf = true) : -9223372036854775808 ≤ a ∧ a ≤ 9223372036854775807 := by
  simpa [Lit.wf, IntKind.min, IntKind.max, IntKind.signed, IntKind.bits] using h

theorem truth_t (w : World) : Calls Try.prog 14 #[.bool true] w fun e w' => e = .returned (.int .i32 1) ∧ w = w' := by
  go_enter Try.func14, Try.ntmps14
  go_wp2
  go_ret
  exact ⟨rfl, rfl⟩
theorem truth_f (w : World) : Calls Try.prog 14 #[.bool false] w fun e w' => e = .returned (.int .i32 0) ∧ w = w' := by
  go_enter Try.func14, Try.ntmps14
  go_wp2
  go_ret
  exact ⟨rfl, rfl⟩
theorem truth_any (b : Bool) (w : World) : Calls Try.prog 14 #[.bool b] w fun e w' => e = .returned (.int .i32 (b01 b)) ∧ w = w' := by
  cases b
  · exact truth_f w
  · exact truth_t w

theorem bits31 (b : Int) : bits .and .i32 b 31 = b % 32 := by
  have h : (BitVec.ofInt 32 b &&& BitVec.ofInt 32 31).toNat = (BitVec.ofInt 32 b).toNat % 2 ^ 5 := by
    rw [BitVec.toNat_and]
    exact Nat.and_two_pow_sub_one_eq_mod _ 5
  have h2 : ((BitVec.ofInt 32 b).toNat : Int) = b % 4294967296 := by
    rw [BitVec.toNat_ofInt]; omega
  show IntKind.i32.wrap ((BitVec.ofInt 32 b &&& BitVec.ofInt 32 31).toNat : Int) = _
  rw [h, IntKind.wrap_i32]
  omega

theorem places_any (b : Int) (w : World) : Calls Try.prog 13 #[.int .i32 b] w fun e w' => e = .returned (.int .u64 (b % 32)) ∧ w = w' := by
  have h := bits31 b
  have h0 : 0 ≤ b % 32 := by omega
  have h1 : b % 32 < 32 := by omega
  have h2 : IntKind.u64.wrap (b % 32) = b % 32 := by
    rw [IntKind.wrap_u64]; omega
  go_enter Try.func13, Try.ntmps13
  go_wp2
  go_ret
  refine ⟨?_, rfl⟩
  simp

theorem do_add (a b : Int) (w : World) : Calls Try.prog 8 #[.int .i64 7, .int .i32 a, .int .i32 b] w fun e w' => e = .returned (.tuple #[.int .i32 (wrap32 (a + b)), .bool true]) ∧ w = w' := by
  go_enter Try.func8, Try.ntmps8
  go_wp2
  go_ret2
  exact ⟨rfl, rfl⟩
theorem do_sub (a b : Int) (w : World) : Calls Try.prog 8 #[.int .i64 8, .int .i32 a, .int .i32 b] w fun e w' => e = .returned (.tuple #[.int .i32 (wrap32 (a - b)), .bool true]) ∧ w = w' := by
  go_enter Try.func8, Try.ntmps8
  go_wp2
  go_ret2
  exact ⟨rfl, rfl⟩
theorem do_mul (a b : Int) (w : World) : Calls Try.prog 8 #[.int .i64 9, .int .i32 a, .int .i32 b] w fun e w' => e = .returned (.tuple #[.int .i32 (wrap32 (a * b)), .bool true]) ∧ w = w' := by
  go_enter Try.func8, Try.ntmps8
  go_wp2
  go_ret2
  exact ⟨rfl, rfl⟩
theorem do_div0 (a : Int) (w : World) : Calls Try.prog 8 #[.int .i64 10, .int .i32 a, .int .i32 0] w fun e w' => e = .returned (.tuple #[.int .i32 0, .bool false]) ∧ w = w' := by
  go_enter Try.func8, Try.ntmps8
  go_wp2
  go_ret2
  exact ⟨rfl, rfl⟩
theorem do_rem0 (a : Int) (w : World) : Calls Try.prog 8 #[.int .i64 11, .int .i32 a, .int .i32 0] w fun e w' => e = .returned (.tuple #[.int .i32 0, .bool false]) ∧ w = w' := by
  go_enter Try.func8, Try.ntmps8
  go_wp2
  go_ret2
  exact ⟨rfl, rfl⟩
theorem do_div (a b : Int) (hb : ¬ b = 0) (w : World) : Calls Try.prog 8 #[.int .i64 10, .int .i32 a, .int .i32 b] w fun e w' => e = .returned (.tuple #[.int .i32 (wrap32 (a.tdiv b)), .bool true]) ∧ w = w' := by
  go_enter Try.func8, Try.ntmps8
  go_wp2
  go_ret2
  exact ⟨rfl, rfl⟩
theorem do_rem (a b : Int) (hb : ¬ b = 0) (w : World) : Calls Try.prog 8 #[.int .i64 11, .int .i32 a, .int .i32 b] w fun e w' => e = .returned (.tuple #[.int .i32 (a.tmod b), .bool true]) ∧ w = w' := by
  go_enter Try.func8, Try.ntmps8
  go_wp2
  go_ret2
  exact ⟨rfl, rfl⟩
theorem do_and (a b : Int) (w : World) : Calls Try.prog 8 #[.int .i64 12, .int .i32 a, .int .i32 b] w fun e w' => e = .returned (.tuple #[.int .i32 (bits .and .i32 a b), .bool true]) ∧ w = w' := by
  go_enter Try.func8, Try.ntmps8
  go_wp2
  go_ret2
  exact ⟨rfl, rfl⟩
theorem do_xor (a b : Int) (w : World) : Calls Try.prog 8 #[.int .i64 13, .int .i32 a, .int .i32 b] w fun e w' => e = .returned (.tuple #[.int .i32 (bits .xor .i32 a b), .bool true]) ∧ w = w' := by
  go_enter Try.func8, Try.ntmps8
  go_wp2
  go_ret2
  exact ⟨rfl, rfl⟩
theorem do_shl (a b : Int) (w : World) : Calls Try.prog 8 #[.int .i64 14, .int .i32 a, .int .i32 b] w fun e w' => e = .returned (.tuple #[.int .i32 (wrap32 (a * 2 ^ (b % 32).toNat)), .bool true]) ∧ w = w' := by
  have h0 : 0 ≤ b % 32 := by omega
  have h1 : b % 32 < 32 := by omega
  go_enter Try.func8, Try.ntmps8
  go_wp2_with (go_at_call 13; refine (places_any _ _).mono ?_; rintro e w' ⟨rfl, rfl⟩)
  go_ret2
  exact ⟨rfl, rfl⟩
theorem do_shr (a b : Int) (w : World) : Calls Try.prog 8 #[.int .i64 15, .int .i32 a, .int .i32 b] w fun e w' => e = .returned (.tuple #[.int .i32 (a / 2 ^ (b % 32).toNat), .bool true]) ∧ w = w' := by
  have h0 : 0 ≤ b % 32 := by omega
  have h1 : b % 32 < 32 := by omega
  go_enter Try.func8, Try.ntmps8
  go_wp2_with (go_at_call 13; refine (places_any _ _).mono ?_; rintro e w' ⟨rfl, rfl⟩)
  go_ret2
  exact ⟨rfl, rfl⟩
theorem do_less (a b : Int) (w : World) : Calls Try.prog 8 #[.int .i64 16, .int .i32 a, .int .i32 b] w fun e w' => e = .returned (.tuple #[.int .i32 (b01 (decide (a < b))), .bool true]) ∧ w = w' := by
  go_enter Try.func8, Try.ntmps8
  go_wp2_with (go_at_call 14; refine (truth_any _ _).mono ?_; rintro e w' ⟨rfl, rfl⟩)
  go_ret2
  exact ⟨rfl, rfl⟩
theorem do_equal (a b : Int) (w : World) : Calls Try.prog 8 #[.int .i64 17, .int .i32 a, .int .i32 b] w fun e w' => e = .returned (.tuple #[.int .i32 (b01 (decide (a = b))), .bool true]) ∧ w = w' := by
  go_enter Try.func8, Try.ntmps8
  go_wp2_with (go_at_call 14; refine (truth_any _ _).mono ?_; rintro e w' ⟨rfl, rfl⟩)
  go_ret2
  exact ⟨rfl, rfl⟩
theorem do_none (op a b : Int) (h : op < 7 ∨ 17 < op) (w : World) : Calls Try.prog 8 #[.int .i64 op, .int .i32 a, .int .i32 b] w fun e w' => e = .returned (.tuple #[.int .i32 0, .bool false]) ∧ w = w' := by
  have n7 : ¬ op = 7 := by omega
  have n8 : ¬ op = 8 := by omega
  have n9 : ¬ op = 9 := by omega
  have n10 : ¬ op = 10 := by omega
  have n11 : ¬ op = 11 := by omega
  have n12 : ¬ op = 12 := by omega
  have n13 : ¬ op = 13 := by omega
  have n14 : ¬ op = 14 := by omega
  have n15 : ¬ op = 15 := by omega
  have n16 : ¬ op = 16 := by omega
  have n17 : ¬ op = 17 := by omega
  clear h
  go_enter Try.func8, Try.ntmps8
  go_wp2
  go_ret2
  exact ⟨rfl, rfl⟩

theorem is_yes (op : Int) (h0 : 7 ≤ op) (h1 : op ≤ 17) (w : World) : Calls Try.prog 11 #[.int .i64 op] w fun e w' => e = .returned (.bool true) ∧ w = w' := by
  have h : op = 7 ∨ op = 8 ∨ op = 9 ∨ op = 10 ∨ op = 11 ∨ op = 12 ∨ op = 13 ∨ op = 14 ∨ op = 15 ∨ op = 16 ∨ op = 17 := by omega
  clear h0 h1
  rcases h with rfl | rfl | rfl | rfl | rfl | rfl | rfl | rfl | rfl | rfl | rfl
  all_goals
    go_enter Try.func11, Try.ntmps11
    go_wp2
    go_ret
    exact ⟨rfl, rfl⟩
theorem is_no (op : Int) (h : op < 7 ∨ 17 < op) (w : World) : Calls Try.prog 11 #[.int .i64 op] w fun e w' => e = .returned (.bool false) ∧ w = w' := by
  have n7 : ¬ op = 7 := by omega
  have n8 : ¬ op = 8 := by omega
  have n9 : ¬ op = 9 := by omega
  have n10 : ¬ op = 10 := by omega
  have n11 : ¬ op = 11 := by omega
  have n12 : ¬ op = 12 := by omega
  have n13 : ¬ op = 13 := by omega
  have n14 : ¬ op = 14 := by omega
  have n15 : ¬ op = 15 := by omega
  have n16 : ¬ op = 16 := by omega
  have n17 : ¬ op = 17 := by omega
  clear h
  go_enter Try.func11, Try.ntmps11
  go_wp2
  go_ret
  exact ⟨rfl, rfl⟩
end Go.Proofs.Ytjlhihecolnmmaa
