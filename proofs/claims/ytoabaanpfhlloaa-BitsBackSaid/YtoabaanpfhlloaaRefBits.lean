/-
  What the document's own answers for bytes come to: Signed (a number with its sign, as bytes), Next (the number that bytes begin with).
-/
import Derived.Test.YtoabaanpfhlloaaBytes
import Derived.Test.YtoabaanpfhlloaaWords
namespace Go.Proofs.Ytoabaanpfhlloaa
open Go.ChangeShapes Go.WideShapes Go.ChangeAt Go.RowKit

/-- A number with its sign as one without. -/
def zig (n : Int) : Int := if n < 0 then -2 * n - 1 else 2 * n

theorem rsigned_any (n : Int) (h0 : -2147483648 ≤ n) (h1 : n ≤ 2147483647) (w : World) : Calls Try.prog 12 #[.int .i32 n] w (OwnBytes (bytesOf (zig n).toNat) w) := by
  by_cases hn : n < 0
  · have Z := Lib.hid (show zig n = -2 * n - 1 by unfold zig; rw [if_pos hn])
    go_enter Try.func12, Try.ntmps12
    go_wp2_with (go_at_call 11; (with_reducible refine (rbytes_any _ (by omega) _).mono ?_); rintro e w' ⟨v, rfl, ho, hb⟩)
    go_ret
    rw [Z.out]
    exact ⟨v, rfl, ho, hb⟩
  · have Z := Lib.hid (show zig n = 2 * n by unfold zig; rw [if_neg hn])
    go_enter Try.func12, Try.ntmps12
    go_wp2_with (go_at_call 11; (with_reducible refine (rbytes_any _ (by omega) _).mono ?_); rintro e w' ⟨v, rfl, ho, hb⟩)
    go_ret
    rw [Z.out]
    exact ⟨v, rfl, ho, hb⟩

/-- The number that bytes begin with, from place k on, and how many bytes it takes. -/
def nextGo (fuel k n u : Nat) : List Int → Nat × Nat
  | [] => (0, 0)
  | b :: r => match fuel with
    | 0 => (0, 0)
    | f + 1 => if b < 128 then (if 0 < k ∧ b = 0 then (0, 0) else (n + u * (b.toNat % 128), k + 1)) else nextGo f (k + 1) (n + u * (b.toNat % 128)) (u * 128) r
def nextOf (l : List Int) : Nat × Nat := nextGo 5 0 0 1 l

def IsPair (p : Nat × Nat) (w : World) (e : Ending) (w' : World) : Prop := e = .returned (.tuple #[.int .i64 p.1, .int .i64 p.2]) ∧ w = w'

set_option maxRecDepth 1000000 in
set_option maxHeartbeats 1600000 in
theorem rnext_any (l : List Int) (A : Option Addr) (cap B : Nat) (w : World) (hl : l.length ≤ 9223372036854775807) (hr : ∀ b ∈ l, 0 ≤ b ∧ b ≤ 255) (h : Lies w B A (l.map (Value.int .u8))) :
    Calls Try.prog 14 #[.slice A l.length cap] w (IsPair (nextOf l) w) := by
  have HL := Lib.hid h
  have HR := Lib.hid hr
  clear h hr
  go_enter Try.func14, Try.ntmps14
  go_wp2
  go_loop [4, 5, 6] (fun n u i => ∃ k N U : Nat, k ≤ 5 ∧ k ≤ l.length ∧ i = .int .i64 k ∧ n = .int .i64 N ∧ u = .int .i64 U ∧ U = 128 ^ k ∧ N < U ∧ nextOf l = nextGo (5 - k) k N U (l.drop k)) (fun _ _ i => 5 - (intOf i).toNat)
  case atStart => exact ⟨0, 0, 1, by omega, by omega, rfl, rfl, rfl, rfl, by omega, rfl⟩
  case round =>
    obtain ⟨k, N, U, hk, hkl, rfl, rfl, rfl, hU, hN, hn⟩ := hrel
    have hU5 : U ≤ 34359738368 := by rw [hU]; exact Nat.pow_le_pow_right (n := 128) (by decide) hk
    have HN := Lib.hid hn
    have HU := Lib.hid hU
    clear hn hU
    by_cases h5 : k < 5 ∧ k < l.length
    · obtain ⟨g5, gl⟩ := h5
      obtain ⟨ad, rfl, _, hc⟩ := HL.out.at_ (k := k) (by simpa using gl)
      obtain ⟨b0, b1⟩ := HR.out l[k] (List.getElem_mem gl)
      have E1 := Lib.hid (List.drop_eq_getElem_cons gl)
      simp only [List.getElem_map] at hc
      generalize l[k] = b at *
      obtain ⟨c, rfl⟩ := Int.eq_ofNat_of_zero_le b0
      have E2 := Lib.hid (show 5 - k = (5 - (k + 1)) + 1 by omega)
      have p0 : (0 : Int) ≤ (U : Int) * ((c : Int) % 128) := Int.mul_nonneg (by omega) (by omega)
      have p1 : (U : Int) * ((c : Int) % 128) ≤ (U : Int) * 127 := Int.mul_le_mul_of_nonneg_left (by omega) (by omega)
      have STEP : Hid (nextOf l = if c < 128 then (if 0 < k ∧ c = 0 then (0, 0) else (N + U * (c % 128), k + 1)) else nextGo (5 - (k + 1)) (k + 1) (N + U * (c % 128)) (U * 128) (l.drop (k + 1))) := by
        have := HN.out
        rw [E1.out, E2.out] at this
        simp only [nextGo, Int.toNat_natCast] at this
        refine Lib.hid (this.trans ?_)
        by_cases h1 : c < 128
        · rw [if_pos h1, if_pos (by omega)]
          by_cases h2 : 0 < k ∧ c = 0
          · rw [if_pos h2, if_pos (by omega)]
          · rw [if_neg h2, if_neg (by omega)]
        · rw [if_neg h1, if_neg (by omega)]
      clear E1 E2
      by_cases h1 : c < 128
      · by_cases h2 : 0 < k ∧ c = 0
        · obtain ⟨h2, rfl⟩ := h2
          have R := Lib.hid (show nextOf l = (0, 0) by rw [STEP.out]; simp [h2])
          clear STEP
          go_wp2_with fail
          go_ret2
          refine ⟨?_, rfl⟩
          rw [R.out]
          rfl
        · have R := Lib.hid (show nextOf l = (N + U * (c % 128), k + 1) by rw [STEP.out, if_pos h1, if_neg h2])
          clear STEP
          by_cases h3 : 0 < k
          · have h4 : ¬ c = 0 := fun h => h2 ⟨h3, h⟩
            clear h2
            have h5 : ((c : Int) == 0) = false := by simpa using h4
            go_wp2_with fail
            go_ret2
            refine ⟨?_, rfl⟩
            rw [R.out]
            simp
          · clear h2
            go_wp2_with fail
            go_ret2
            refine ⟨?_, rfl⟩
            rw [R.out]
            simp
      · have R := Lib.hid (show nextOf l = nextGo (5 - (k + 1)) (k + 1) (N + U * (c % 128)) (U * 128) (l.drop (k + 1)) by rw [STEP.out, if_neg h1])
        clear STEP
        go_wp2_with fail
        go_round
        case rel => exact ⟨k + 1, N + U * (c % 128), U * 128, by omega, by omega, by go_num, by simp, by simp, by rw [HU.out, Nat.pow_succ], by have hm : U * (c % 128) ≤ U * 127 := Nat.mul_le_mul_left U (by omega); omega, R.out⟩
        case measure => simp [intOf]; omega
    · have Z : Hid (nextOf l = (0, 0)) := by
        refine Lib.hid (HN.out.trans ?_)
        rcases Nat.lt_or_ge k 5 with h | h
        · rw [List.drop_eq_nil_of_le (by omega)]
          cases 5 - k <;> rfl
        · have : 5 - k = 0 := by omega
          rw [this]
          cases l.drop k <;> rfl
      have h6 : k = 5 ∨ l.length = k := by omega
      clear h5
      go_wp2_with fail
      all_goals
        go_ret2
        refine ⟨?_, rfl⟩
        rw [Z.out]
        rfl
end Go.Proofs.Ytoabaanpfhlloaa
