/-
  What the reader's inner first comes to: the number that bytes begin with, and how many bytes it takes; none, if no number stands there. Condition: the bytes are bytes.
-/
import Derived.Test.YtikljohgdgibnaaBitsDefs
namespace Go.Proofs.Ytikljohgdgibnaa
set_option maxRecDepth 100000
open Go.ChangeShapes Go.WideShapes Go.ChangeAt Go.RowKit
set_option linter.unusedVariables false

theorem wraps_i64 (n : Int) (h₀ : 0 ≤ n) (h₁ : n < 2 ^ 62) : IntKind.i64.wrap n = n := by rw [IntKind.wrap_i64]; omega
/-- Seven bits more, above those that are there. -/
theorem or_next (k N c : Nat) (hk : k < 5) (hN : N < 128 ^ k) : bits .or .i64 (N : Int) ((c : Int) % 128 * 2 ^ (7 * k)) = ((N + 128 ^ k * (c % 128) : Nat) : Int) := by
  have hp : (128 : Nat) ^ k = 2 ^ (7 * k) := by rw [Nat.pow_mul]
  have hpk : (128 : Nat) ^ k ≤ 128 ^ 4 := Nat.pow_le_pow_right (by decide) (by omega)
  have e : (c : Int) % 128 * 2 ^ (7 * k) = ((2 ^ (7 * k) * (c % 128) : Nat) : Int) := by
    rw [Int.natCast_mul, Int.mul_comm]; simp
  have hle : 2 ^ (7 * k) * (c % 128) ≤ 128 ^ 4 * 127 := by
    rw [← hp]; exact Nat.mul_le_mul hpk (by omega)
  rw [e, (bits_nat .i64 62 (by decide) wraps_i64 N (2 ^ (7 * k) * (c % 128)) (by omega) (by omega)).2, Nat.or_comm, ← Nat.two_pow_add_eq_or_of_lt (by omega), hp]
  congr 1
  omega

theorem and_127 (c : Int) (h0 : 0 ≤ c) (h1 : c ≤ 255) : bits .and .u8 c 127 = c % 128 :=
  bits_mask .u8 8 (by decide) wraps_u8 7 (by decide) c h0 (by omega)
/-- The same, as the walk spells it. -/
theorem or_walk (k N : Nat) (c : Int) (h0 : 0 ≤ c) (h1 : c ≤ 255) (hk : k < 5) (hN : N < 128 ^ k) :
    bits .or .i64 (N : Int) (wrap64 (wrap64 (bits .and .u8 c 127) * 2 ^ (7 * k))) = ((N + 128 ^ k * (c.toNat % 128) : Nat) : Int) := by
  have w1 : wrap64 (c % 128) = c % 128 := by unfold wrap64; omega
  have hp : (2 : Int) ^ (7 * k) ≤ 2 ^ 28 := by
    have : (2 : Nat) ^ (7 * k) ≤ 2 ^ 28 := Nat.pow_le_pow_right (by decide) (by omega)
    exact_mod_cast this
  have hq : (0 : Int) ≤ 2 ^ (7 * k) := Int.pow_nonneg (by decide)
  have m0 : 0 ≤ c % 128 * 2 ^ (7 * k) := Int.mul_nonneg (by omega) hq
  have m1 : c % 128 * 2 ^ (7 * k) ≤ 127 * 2 ^ 28 := Int.mul_le_mul (by omega) hp hq (by decide)
  have w2 : wrap64 (c % 128 * 2 ^ (7 * k)) = c % 128 * 2 ^ (7 * k) := by
    generalize c % 128 * 2 ^ (7 * k) = z at *
    unfold wrap64; omega
  rw [and_127 c h0 h1, w1, w2]
  obtain ⟨n, rfl⟩ := Int.eq_ofNat_of_zero_le h0
  simpa using or_next k N n hk hN

theorem pow_next (k N c : Nat) (h : N < 128 ^ k) : N + 128 ^ k * (c % 128) < 128 ^ (k + 1) := by
  rw [Nat.pow_succ]
  have : 128 ^ k * (c % 128) ≤ 128 ^ k * 127 := Nat.mul_le_mul_left _ (by omega)
  omega

set_option maxRecDepth 1000000 in
set_option maxHeartbeats 1600000 in
theorem bfirst_any (l : List Int) (A : Option Addr) (cap B : Nat) (w : World) (hl : l.length ≤ cap) (hm : cap ≤ 9223372036854775807) (hr : ∀ b ∈ l, 0 ≤ b ∧ b ≤ 255) (h : Lies w B A (l.map (Value.int .u8))) :
    Calls Try.prog 96 #[.slice A l.length cap] w (IsPair (nextOf l) w) := by
  have HL := Lib.hid h
  have HR := Lib.hid hr
  have hmx : (max 5 0 : Int) = 5 := by decide
  clear h hr
  have h5 : l.length < 5 ∨ (5 ≤ l.length ∧ 5 ≤ cap) := by omega
  rcases h5 with h5 | ⟨h5, h5'⟩
  all_goals
    go_enter Try.func96, Try.ntmps96
    go_wp2
    all_goals
      go_loop [2, 12] (fun n i => ∃ k N : Nat, k ≤ 5 ∧ k ≤ l.length ∧ i = .int .i64 k ∧ n = .int .i64 N ∧ Hid (N < 128 ^ k) ∧ Hid (nextOf l = nextGo (5 - k) k N (128 ^ k) (l.drop k))) (fun _ i => 5 - (intOf i).toNat)
      case atStart => exact ⟨0, 0, by omega, by omega, rfl, rfl, Lib.hid (by omega), Lib.hid rfl⟩
      case round =>
        obtain ⟨k, N, hk, hkl, rfl, rfl, HNU, HN⟩ := hrel
        by_cases h5 : k < 5 ∧ k < l.length
        · obtain ⟨g5, gl⟩ := h5
          obtain ⟨ad, rfl, _, hc⟩ := HL.out.at_ (k := k) (by simpa using gl)
          obtain ⟨b0, b1⟩ := HR.out l[k] (List.getElem_mem gl)
          have E1 := Lib.hid (List.drop_eq_getElem_cons gl)
          simp only [List.getElem_map] at hc
          generalize l[k] = b at *
          obtain ⟨c, rfl⟩ := Int.eq_ofNat_of_zero_le b0
          have E2 := Lib.hid (show 5 - k = (5 - (k + 1)) + 1 by omega)
          have STEP : Hid (nextOf l = if c < 128 then (if 0 < k ∧ c = 0 then (0, 0) else (N + 128 ^ k * (c % 128), k + 1)) else nextGo (5 - (k + 1)) (k + 1) (N + 128 ^ k * (c % 128)) (128 ^ k * 128) (l.drop (k + 1))) := by
            have := HN.out
            rw [E1.out, E2.out] at this
            simp only [nextGo, Int.toNat_natCast] at this
            refine Lib.hid (this.trans ?_)
            by_cases h1 : c < 128
            · rw [if_pos h1, if_pos (by omega)]
              by_cases h2 : 0 < k ∧ c = 0
              · rw [if_pos h2, if_pos (by omega)]
              · rw [if_neg h2, if_neg (by omega)]
            · rw [if_neg h1, if_neg (by omega)]
          clear E1 E2
          by_cases h1 : c < 128
          · by_cases h2 : 0 < k ∧ c = 0
            · obtain ⟨h2, rfl⟩ := h2
              have R := Lib.hid (show nextOf l = (0, 0) by rw [STEP.out]; simp [h2])
              clear STEP
              go_wp2_with fail
              go_ret2
              refine ⟨?_, rfl⟩
              rw [R.out]
              rfl
            · have R := Lib.hid (show nextOf l = (N + 128 ^ k * (c % 128), k + 1) by rw [STEP.out, if_pos h1, if_neg h2])
              have OR := Lib.hid (or_walk k N c b0 b1 g5 HNU.out)
              clear STEP
              by_cases h3 : 0 < k
              · have h4 : ¬ c = 0 := fun h => h2 ⟨h3, h⟩
                clear h2
                have h5 : ((c : Int) == 0) = false := by simpa using h4
                go_wp2_with fail
                go_ret2
                refine ⟨?_, rfl⟩
                rw [R.out, OR.out]
                simp
              · clear h2
                go_wp2_with fail
                all_goals
                  go_ret2
                  refine ⟨?_, rfl⟩
                  first
                    | (rw [R.out, OR.out]; simp; done)
                    | (have h0 : c = 0 := by assumption
                       rw [R.out, or_walk k N 0 (by decide) (by decide) g5 HNU.out, h0]; simp)
          · have R := Lib.hid (show nextOf l = nextGo (5 - (k + 1)) (k + 1) (N + 128 ^ k * (c % 128)) (128 ^ k * 128) (l.drop (k + 1)) by rw [STEP.out, if_neg h1])
            have OR := Lib.hid (or_walk k N c b0 b1 g5 HNU.out)
            clear STEP
            go_wp2_with fail
            go_round
            case rel => exact ⟨k + 1, N + 128 ^ k * (c % 128), by omega, by omega, by go_num, by rw [OR.out]; rfl, Lib.hid (pow_next k N c HNU.out), Lib.hid (by rw [R.out, Nat.pow_succ])⟩
            case measure => simp [intOf]; omega
        · have Z : Hid (nextOf l = (0, 0)) := by
            refine Lib.hid (HN.out.trans ?_)
            rcases Nat.lt_or_ge k 5 with h | h
            · rw [List.drop_eq_nil_of_le (by omega)]
              cases 5 - k <;> rfl
            · have : 5 - k = 0 := by omega
              rw [this]
              cases l.drop k <;> rfl
          have h6 : k = 5 ∨ l.length = k := by omega
          clear h5
          go_wp2_with fail
          all_goals
            go_ret2
            refine ⟨?_, rfl⟩
            rw [Z.out]
            rfl
end Go.Proofs.Ytikljohgdgibnaa
