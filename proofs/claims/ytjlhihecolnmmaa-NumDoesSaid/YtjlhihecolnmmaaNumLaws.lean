/-
  The five statements on numbers, walked: each answers true at any arguments that fit their kinds.
-/
import Derived.Test.YtjlhihecolnmmaaAwake
namespace Go.Proofs.Ytjlhihecolnmmaa
open Go.ChangeShapes Go.WideShapes Go.ChangeAt Go.RowKit
set_option linter.unusedVariables false

/-- num.Do comes to r and ok at these arguments, whatever the world, which stays. -/
def DoIs (op a b r : Int) (ok : Bool) : Prop := ∀ w, Calls Try.prog 8 #[.int .i64 op, .int .i32 a, .int .i32 b] w fun e w' => e = .returned (.tuple #[.int .i32 r, .bool ok]) ∧ w = w'
/-- So does the document's answer. -/
def RefDoIs (op a b r : Int) (ok : Bool) : Prop := ∀ w, Calls Try.prog 9 #[.int .i64 op, .int .i32 a, .int .i32 b] w fun e w' => e = .returned (.tuple #[.int .i32 r, .bool ok]) ∧ w = w'
theorem DoIs.use {op a b r : Int} {ok : Bool} (h : DoIs op a b r ok) (w : World) : Calls Try.prog 8 #[.int .i64 op, .int .i32 a, .int .i32 b] w fun e w' => e = .returned (.tuple #[.int .i32 r, .bool ok]) ∧ w = w' := h w
theorem RefDoIs.use {op a b r : Int} {ok : Bool} (h : RefDoIs op a b r ok) (w : World) : Calls Try.prog 9 #[.int .i64 op, .int .i32 a, .int .i32 b] w fun e w' => e = .returned (.tuple #[.int .i32 r, .bool ok]) ∧ w = w' := h w
def IsIs (op : Int) (ok : Bool) : Prop := ∀ w, Calls Try.prog 11 #[.int .i64 op] w fun e w' => e = .returned (.bool ok) ∧ w = w'

theorem IsIs.use {op : Int} {ok : Bool} (h : IsIs op ok) (w : World) : Calls Try.prog 11 #[.int .i64 op] w fun e w' => e = .returned (.bool ok) ∧ w = w' := h w

theorem same_do (op a b : Int) (a0 : -2147483648 ≤ a) (a1 : a ≤ 2147483647) (b0 : -2147483648 ≤ b) (b1 : b ≤ 2147483647) :
    ∃ (r : Int) (ok : Bool), DoIs op a b r ok ∧ RefDoIs op a b r ok := by
  by_cases h : op < 7 ∨ 17 < op
  · exact ⟨_, _, do_none op a b h, rdo_none op a b h⟩
  · have h' : op = 7 ∨ op = 8 ∨ op = 9 ∨ op = 10 ∨ op = 11 ∨ op = 12 ∨ op = 13 ∨ op = 14 ∨ op = 15 ∨ op = 16 ∨ op = 17 := by omega
    rcases h' with rfl | rfl | rfl | rfl | rfl | rfl | rfl | rfl | rfl | rfl | rfl
    · exact ⟨_, _, do_add a b, rdo_add a b a0 a1 b0 b1⟩
    · exact ⟨_, _, do_sub a b, rdo_sub a b a0 a1 b0 b1⟩
    · exact ⟨_, _, do_mul a b, rdo_mul a b a0 a1 b0 b1⟩
    · by_cases hb : b = 0
      · subst hb; exact ⟨_, _, do_div0 a, rdo_div0 a⟩
      · exact ⟨_, _, do_div a b hb, rdo_div a b a0 a1 b0 b1 hb⟩
    · by_cases hb : b = 0
      · subst hb; exact ⟨_, _, do_rem0 a, rdo_rem0 a⟩
      · refine ⟨a.tmod b, true, do_rem a b hb, ?_⟩
        have h := rdo_rem a b a0 a1 b0 b1 hb
        have hf := tmod_fits a b a0 a1
        rw [wrap32_in hf.1 hf.2] at h
        exact h
    · refine ⟨_, _, do_and a b, ?_⟩
      rw [bits_and]
      exact rdo_and a b a0 a1 b0 b1
    · refine ⟨_, _, do_xor a b, ?_⟩
      rw [bits_xor]
      exact rdo_xor a b a0 a1 b0 b1
    · exact ⟨_, _, do_shl a b, rdo_shl a b a0 a1 b0 b1⟩
    · exact ⟨_, _, do_shr a b, rdo_shr a b a0 a1 b0 b1⟩
    · exact ⟨_, _, do_less a b, rdo_less a b a0 a1 b0 b1⟩
    · exact ⟨_, _, do_equal a b, rdo_equal a b a0 a1 b0 b1⟩

theorem numDoes_walk (op a b : Int) (a0 : -2147483648 ≤ a) (a1 : a ≤ 2147483647) (b0 : -2147483648 ≤ b) (b1 : b ≤ 2147483647) (w : World) :
    Calls Try.prog 3 #[.int .i64 op, .int .i32 a, .int .i32 b] w fun e w' => e = .returned (.bool true) ∧ Below w.heap.size w w' := by
  obtain ⟨r, ok, h1, h2⟩ := same_do op a b a0 a1 b0 b1
  have H1 := Lib.hid h1
  have H2 := Lib.hid h2
  clear h1 h2
  cases ok
  all_goals
    go_enter Try.func3, Try.ntmps3
    go_wp2_with (first
      | (go_at_call 8; (with_reducible refine (DoIs.use H1.out _).mono ?_); rintro e w' ⟨rfl, rfl⟩)
      | (go_at_call 9; (with_reducible refine (RefDoIs.use H2.out _).mono ?_); rintro e w' ⟨rfl, rfl⟩)
      | (go_at_call 10; (with_reducible refine (awake_any _).mono ?_); rintro e w' ⟨rfl, hb⟩))
    go_ret
    exact ⟨rfl, hb⟩

theorem kinds_of (op : Int) : ∃ (r : Int), (DoIs op 9 4 r true ∧ IsIs op true ∧ 7 ≤ op ∧ op ≤ 17) ∨ (DoIs op 9 4 r false ∧ IsIs op false ∧ op < 7) ∨ (DoIs op 9 4 r false ∧ IsIs op false ∧ 17 < op) := by
  by_cases h : op < 7
  · exact ⟨_, .inr (.inl ⟨do_none op 9 4 (.inl h), is_no op (.inl h), h⟩)⟩
  · by_cases g : 17 < op
    · exact ⟨_, .inr (.inr ⟨do_none op 9 4 (.inr g), is_no op (.inr g), g⟩)⟩
    · have I := is_yes op (by omega) (by omega)
      have h' : op = 7 ∨ op = 8 ∨ op = 9 ∨ op = 10 ∨ op = 11 ∨ op = 12 ∨ op = 13 ∨ op = 14 ∨ op = 15 ∨ op = 16 ∨ op = 17 := by omega
      rcases h' with rfl | rfl | rfl | rfl | rfl | rfl | rfl | rfl | rfl | rfl | rfl
      · exact ⟨_, .inl ⟨do_add 9 4, I, by decide, by decide⟩⟩
      · exact ⟨_, .inl ⟨do_sub 9 4, I, by decide, by decide⟩⟩
      · exact ⟨_, .inl ⟨do_mul 9 4, I, by decide, by decide⟩⟩
      · exact ⟨_, .inl ⟨do_div 9 4 (by decide), I, by decide, by decide⟩⟩
      · exact ⟨_, .inl ⟨do_rem 9 4 (by decide), I, by decide, by decide⟩⟩
      · exact ⟨_, .inl ⟨do_and 9 4, I, by decide, by decide⟩⟩
      · exact ⟨_, .inl ⟨do_xor 9 4, I, by decide, by decide⟩⟩
      · exact ⟨_, .inl ⟨do_shl 9 4, I, by decide, by decide⟩⟩
      · exact ⟨_, .inl ⟨do_shr 9 4, I, by decide, by decide⟩⟩
      · exact ⟨_, .inl ⟨do_less 9 4, I, by decide, by decide⟩⟩
      · exact ⟨_, .inl ⟨do_equal 9 4, I, by decide, by decide⟩⟩

theorem numKinds_walk (op : Int) (w : World) : Calls Try.prog 4 #[.int .i64 op] w fun e w' => e = .returned (.bool true) ∧ Below w.heap.size w w' := by
  obtain ⟨r, ⟨h1, h2, g0, g1⟩ | ⟨h1, h2, g0⟩ | ⟨h1, h2, g0⟩⟩ := kinds_of op
  all_goals
    have H1 := Lib.hid h1
    have H2 := Lib.hid h2
    clear h1 h2
    try have gd : decide (op ≤ 17) = false := decide_eq_false (by omega)
    go_enter Try.func4, Try.ntmps4
    go_wp2_with (first
      | (go_at_call 8; (with_reducible refine (DoIs.use H1.out _).mono ?_); rintro e w' ⟨rfl, rfl⟩)
      | (go_at_call 11; (with_reducible refine (IsIs.use H2.out _).mono ?_); rintro e w' ⟨rfl, rfl⟩)
      | (go_at_call 10; (with_reducible refine (awake_any _).mono ?_); rintro e w' ⟨rfl, hb⟩))
    go_ret
    exact ⟨rfl, hb⟩

theorem DoIs.to {op a b r r' : Int} {ok : Bool} (h : DoIs op a b r ok) (e : r = r') : DoIs op a b r' ok := e ▸ h

theorem numRests_walk (a b : Int) (a0 : -2147483648 ≤ a) (a1 : a ≤ 2147483647) (b0 : -2147483648 ≤ b) (b1 : b ≤ 2147483647) (w : World) :
    Calls Try.prog 5 #[.int .i32 a, .int .i32 b] w fun e w' => e = .returned (.bool true) ∧ Below w.heap.size w w' := by
  obtain ⟨s, h1, h2⟩ : ∃ s, DoIs 7 a b s true ∧ DoIs 8 s b a true := by
    refine ⟨_, do_add a b, DoIs.to (do_sub _ b) ?_⟩
    rw [wrap32_sub_left, wrap32_in (by omega) (by omega)]; omega
  have H1 := Lib.hid h1
  have H2 := Lib.hid h2
  clear h1 h2
  by_cases hb : b = 0
  · subst hb
    go_enter Try.func5, Try.ntmps5
    go_wp2_with (first
      | (go_at_call 8; (with_reducible refine (DoIs.use H1.out _).mono ?_); rintro e w' ⟨rfl, rfl⟩)
      | (go_at_call 8; (with_reducible refine (DoIs.use H2.out _).mono ?_); rintro e w' ⟨rfl, rfl⟩)
      | (go_at_call 10; (with_reducible refine (awake_any _).mono ?_); rintro e w' ⟨rfl, hb⟩))
    go_ret
    exact ⟨rfl, hb⟩
  · obtain ⟨q, r, p, h3, h4, h5, h6⟩ : ∃ q r p, DoIs 10 a b q true ∧ DoIs 11 a b r true ∧ DoIs 9 q b p true ∧ DoIs 7 p r a true := by
      refine ⟨_, _, _, do_div a b hb, do_rem a b hb, do_mul _ b, DoIs.to (do_add _ _) ?_⟩
      rw [wrap32_mul_left, wrap32_add_left, Int.mul_comm, Int.mul_tdiv_add_tmod, wrap32_in a0 a1]
    obtain ⟨x, h7, h8⟩ : ∃ x, DoIs 13 a b x true ∧ DoIs 13 x b a true := by
      refine ⟨_, do_xor a b, DoIs.to (do_xor _ b) ?_⟩
      rw [bits_xor, bits_xor a b, plain_wrap, plain_nat (Nat.xor_lt_two_pow (n := 32) (plain_lt a) (plain_lt b)), Nat.xor_assoc, Nat.xor_self, Nat.xor_zero, wrap_plain a0 a1]
    have H3 := Lib.hid h3
    have H4 := Lib.hid h4
    have H5 := Lib.hid h5
    have H6 := Lib.hid h6
    have H7 := Lib.hid h7
    have H8 := Lib.hid h8
    clear h3 h4 h5 h6 h7 h8
    go_enter Try.func5, Try.ntmps5
    go_wp2_with (first
      | (go_at_call 8; (with_reducible refine (DoIs.use H1.out _).mono ?_); rintro e w' ⟨rfl, rfl⟩)
      | (go_at_call 8; (with_reducible refine (DoIs.use H2.out _).mono ?_); rintro e w' ⟨rfl, rfl⟩)
      | (go_at_call 8; (with_reducible refine (DoIs.use H3.out _).mono ?_); rintro e w' ⟨rfl, rfl⟩)
      | (go_at_call 8; (with_reducible refine (DoIs.use H4.out _).mono ?_); rintro e w' ⟨rfl, rfl⟩)
      | (go_at_call 8; (with_reducible refine (DoIs.use H5.out _).mono ?_); rintro e w' ⟨rfl, rfl⟩)
      | (go_at_call 8; (with_reducible refine (DoIs.use H6.out _).mono ?_); rintro e w' ⟨rfl, rfl⟩)
      | (go_at_call 8; (with_reducible refine (DoIs.use H7.out _).mono ?_); rintro e w' ⟨rfl, rfl⟩)
      | (go_at_call 8; (with_reducible refine (DoIs.use H8.out _).mono ?_); rintro e w' ⟨rfl, rfl⟩)
      | (go_at_call 10; (with_reducible refine (awake_any _).mono ?_); rintro e w' ⟨rfl, hb⟩))
    go_ret
    exact ⟨rfl, hb⟩

theorem three_ways (a b : Int) : (b01 (decide (a < b)) = 1 ∧ b01 (decide (b < a)) = 0 ∧ b01 (decide (a = b)) = 0) ∨ (b01 (decide (a < b)) = 0 ∧ b01 (decide (b < a)) = 1 ∧ b01 (decide (a = b)) = 0) ∨
    (b01 (decide (a < b)) = 0 ∧ b01 (decide (b < a)) = 0 ∧ b01 (decide (a = b)) = 1) := by
  rcases Int.lt_trichotomy a b with h | h | h
  · exact .inl ⟨by rw [decide_eq_true h]; rfl, by rw [decide_eq_false (by omega)]; rfl, by rw [decide_eq_false (by omega)]; rfl⟩
  · exact .inr (.inr ⟨by rw [decide_eq_false (by omega)]; rfl, by rw [decide_eq_false (by omega)]; rfl, by rw [decide_eq_true h]; rfl⟩)
  · exact .inr (.inl ⟨by rw [decide_eq_false (by omega)]; rfl, by rw [decide_eq_true h]; rfl, by rw [decide_eq_false (by omega)]; rfl⟩)

theorem numShifts_walk (a b : Int) (w : World) : Calls Try.prog 6 #[.int .i32 a, .int .i32 b] w fun e w' => e = .returned (.bool true) ∧ Below w.heap.size w w' := by
  obtain ⟨x, h1, h2⟩ : ∃ x, DoIs 14 a 1 x true ∧ DoIs 7 a a x true := by
    refine ⟨_, do_shl a 1, DoIs.to (do_add a a) ?_⟩
    rw [show ((1 : Int) % 32).toNat = 1 from rfl, show a * 2 ^ 1 = a + a by omega]
  obtain ⟨z, u, h3, h4, h5⟩ : ∃ z u, DoIs 15 a b z true ∧ DoIs 7 b 32 u true ∧ DoIs 15 a u z true := by
    refine ⟨_, _, do_shr a b, do_add b 32, DoIs.to (do_shr a _) ?_⟩
    rw [show wrap32 (b + 32) % 32 = b % 32 by unfold wrap32; omega]
  obtain ⟨l, m, n, h6, h7, h8, hs⟩ : ∃ l m n, DoIs 16 a b l true ∧ DoIs 16 b a m true ∧ DoIs 17 a b n true ∧ ((l = 1 ∧ m = 0 ∧ n = 0) ∨ (l = 0 ∧ m = 1 ∧ n = 0) ∨ (l = 0 ∧ m = 0 ∧ n = 1)) :=
    ⟨_, _, _, do_less a b, do_less b a, do_equal a b, three_ways a b⟩
  have H1 := Lib.hid h1
  have H2 := Lib.hid h2
  have H3 := Lib.hid h3
  have H4 := Lib.hid h4
  have H5 := Lib.hid h5
  have H6 := Lib.hid h6
  have H7 := Lib.hid h7
  have H8 := Lib.hid h8
  clear h1 h2 h3 h4 h5 h6 h7 h8
  rcases hs with ⟨rfl, rfl, rfl⟩ | ⟨rfl, rfl, rfl⟩ | ⟨rfl, rfl, rfl⟩
  all_goals
    go_enter Try.func6, Try.ntmps6
    go_wp2_with (first
      | (go_at_call 8; (with_reducible refine (DoIs.use H1.out _).mono ?_); rintro e w' ⟨rfl, rfl⟩)
      | (go_at_call 8; (with_reducible refine (DoIs.use H2.out _).mono ?_); rintro e w' ⟨rfl, rfl⟩)
      | (go_at_call 8; (with_reducible refine (DoIs.use H3.out _).mono ?_); rintro e w' ⟨rfl, rfl⟩)
      | (go_at_call 8; (with_reducible refine (DoIs.use H4.out _).mono ?_); rintro e w' ⟨rfl, rfl⟩)
      | (go_at_call 8; (with_reducible refine (DoIs.use H5.out _).mono ?_); rintro e w' ⟨rfl, rfl⟩)
      | (go_at_call 8; (with_reducible refine (DoIs.use H6.out _).mono ?_); rintro e w' ⟨rfl, rfl⟩)
      | (go_at_call 8; (with_reducible refine (DoIs.use H7.out _).mono ?_); rintro e w' ⟨rfl, rfl⟩)
      | (go_at_call 8; (with_reducible refine (DoIs.use H8.out _).mono ?_); rintro e w' ⟨rfl, rfl⟩)
      | (go_at_call 10; (with_reducible refine (awake_any _).mono ?_); rintro e w' ⟨rfl, hb⟩))
    go_ret
    exact ⟨rfl, hb⟩

theorem numRings_walk (a b c : Int) (a0 : -2147483648 ≤ a) (a1 : a ≤ 2147483647) (b0 : -2147483648 ≤ b) (b1 : b ≤ 2147483647) (w : World) :
    Calls Try.prog 7 #[.int .i32 a, .int .i32 b, .int .i32 c] w fun e w' => e = .returned (.bool true) ∧ Below w.heap.size w w' := by
  obtain ⟨x, y, p, q, ⟨h1, hx⟩, h2, h3, h4, h5, h6⟩ : ∃ x y p q, (DoIs 7 a b x true ∧ x = wrap32 (a + b)) ∧ DoIs 9 x c y true ∧ DoIs 9 a c p true ∧ DoIs 9 b c q true ∧ DoIs 7 p q y true ∧ DoIs 9 c a p true := by
    refine ⟨_, _, _, _, ⟨do_add a b, rfl⟩, do_mul _ c, do_mul a c, do_mul b c, DoIs.to (do_add _ _) ?_, DoIs.to (do_mul c a) ?_⟩
    · rw [wrap32_add, wrap32_mul_left, Int.add_mul]
    · rw [Int.mul_comm]
  obtain ⟨v, s, t, h7, h8, h9, h10, h11⟩ : ∃ v s t, DoIs 12 a b v true ∧ DoIs 12 b a v true ∧ DoIs 13 a b s true ∧ DoIs 7 v v t true ∧ DoIs 7 s t (wrap32 (a + b)) true := by
    refine ⟨_, _, _, do_and a b, DoIs.to (do_and b a) ?_, do_xor a b, do_add _ _, DoIs.to (do_add _ _) ?_⟩
    · rw [bits_and, bits_and, Nat.and_comm]
    · exact wrap_sum a b
  rw [← hx] at h11
  clear hx
  have H1 := Lib.hid h1
  have H2 := Lib.hid h2
  have H3 := Lib.hid h3
  have H4 := Lib.hid h4
  have H5 := Lib.hid h5
  have H6 := Lib.hid h6
  have H7 := Lib.hid h7
  have H8 := Lib.hid h8
  have H9 := Lib.hid h9
  have H10 := Lib.hid h10
  have H11 := Lib.hid h11
  clear h1 h2 h3 h4 h5 h6 h7 h8 h9 h10 h11
  go_enter Try.func7, Try.ntmps7
  go_wp2_with (first
    | (go_at_call 8; (with_reducible refine (DoIs.use H1.out _).mono ?_); rintro e w' ⟨rfl, rfl⟩)
    | (go_at_call 8; (with_reducible refine (DoIs.use H2.out _).mono ?_); rintro e w' ⟨rfl, rfl⟩)
    | (go_at_call 8; (with_reducible refine (DoIs.use H3.out _).mono ?_); rintro e w' ⟨rfl, rfl⟩)
    | (go_at_call 8; (with_reducible refine (DoIs.use H4.out _).mono ?_); rintro e w' ⟨rfl, rfl⟩)
    | (go_at_call 8; (with_reducible refine (DoIs.use H5.out _).mono ?_); rintro e w' ⟨rfl, rfl⟩)
    | (go_at_call 8; (with_reducible refine (DoIs.use H6.out _).mono ?_); rintro e w' ⟨rfl, rfl⟩)
    | (go_at_call 8; (with_reducible refine (DoIs.use H7.out _).mono ?_); rintro e w' ⟨rfl, rfl⟩)
    | (go_at_call 8; (with_reducible refine (DoIs.use H8.out _).mono ?_); rintro e w' ⟨rfl, rfl⟩)
    | (go_at_call 8; (with_reducible refine (DoIs.use H9.out _).mono ?_); rintro e w' ⟨rfl, rfl⟩)
    | (go_at_call 8; (with_reducible refine (DoIs.use H10.out _).mono ?_); rintro e w' ⟨rfl, rfl⟩)
    | (go_at_call 8; (with_reducible refine (DoIs.use H11.out _).mono ?_); rintro e w' ⟨rfl, rfl⟩)
    | (go_at_call 10; (with_reducible refine (awake_any _).mono ?_); rintro e w' ⟨rfl, hb⟩))
  go_ret
  exact ⟨rfl, hb⟩
end Go.Proofs.Ytjlhihecolnmmaa
