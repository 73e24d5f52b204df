/-
  Plain facts of numbers as bytes: what was put is got, and what was got was put; signs.
-/
import Derived.Test.YtikljohgdgibnaaBitsDefs
namespace Go.Proofs.Ytikljohgdgibnaa
set_option maxRecDepth 100000

/-- What a reader answers: the number, what is left, is it bad? -/
def getR (rest : List Int) (bad : Bool) (most : Int) : Int × List Int × Bool :=
  if bad = false ∧ 0 < (nextOf rest).2 ∧ ((nextOf rest).1 : Int) ≤ most then ((nextOf rest).1, rest.drop (nextOf rest).2, false) else (0, rest, true)
def zag (n : Int) : Int := if n % 2 = 0 then n / 2 else -((n + 1) / 2)

theorem nextGo_small (f k N U n : Nat) (r : List Int) (hs : n < 128) (hk : k = 0 ∨ 0 < n) : nextGo (f + 1) k N U (bytesOf n ++ r) = (N + U * n, k + (bytesOf n).length) := by
  rw [bytesOf_small hs]
  simp only [List.singleton_append, nextGo]
  rw [if_pos (by omega), if_neg (by omega)]
  simp
  congr 1
  omega
theorem nextGo_bytes (f : Nat) : ∀ (k N U n : Nat) (r : List Int), n < 128 ^ (f + 1) → (k = 0 ∨ 0 < n) → nextGo (f + 1) k N U (bytesOf n ++ r) = (N + U * n, k + (bytesOf n).length) := by
  induction f with
  | zero =>
    intro k N U n r hn hk
    exact nextGo_small 0 k N U n r (by simpa using hn) hk
  | succ f ih =>
    intro k N U n r hn hk
    by_cases hs : n < 128
    · exact nextGo_small (f + 1) k N U n r hs hk
    · rw [bytesOf_great (by omega)]
      simp only [List.cons_append, nextGo]
      rw [if_neg (by omega)]
      have hf : n / 128 < 128 ^ (f + 1) := by rw [Nat.div_lt_iff_lt_mul (by decide)]; rwa [Nat.pow_succ] at hn
      rw [ih (k + 1) _ _ (n / 128) r hf (.inr (by omega))]
      have e : (128 + (n : Int) % 128).toNat % 128 = n % 128 := by omega
      rw [e]
      have e2 : U * 128 * (n / 128) = U * (128 * (n / 128)) := Nat.mul_assoc _ _ _
      have e3 : U * n = U * (n % 128) + U * (128 * (n / 128)) := by rw [← Nat.mul_add]; congr 1; omega
      simp only [List.length_cons, Prod.mk.injEq]
      omega
/-- What was put is got, and just so many bytes are taken. -/
theorem next_bytes {n : Nat} (r : List Int) (h : n < 34359738368) : nextOf (bytesOf n ++ r) = (n, (bytesOf n).length) := by
  have := nextGo_bytes 4 0 0 1 n r (by omega) (.inl rfl)
  unfold nextOf
  rw [this]
  simp

theorem nextGo_back (f : Nat) : ∀ (k N U v s : Nat) (l : List Int), (∀ b ∈ l, 0 ≤ b ∧ b ≤ 255) → nextGo f k N U l = (v, s) → 0 < s →
    ∃ n, v = N + U * n ∧ s = k + (bytesOf n).length ∧ l.take (bytesOf n).length = bytesOf n ∧ (0 < k → 0 < n) ∧ n < 128 ^ f := by
  induction f with
  | zero =>
    intro k N U v s l hl h hs
    cases l <;> (simp only [nextGo, Prod.mk.injEq] at h; omega)
  | succ f ih =>
    intro k N U v s l hl h hs
    cases l with
    | nil => simp only [nextGo, Prod.mk.injEq] at h; omega
    | cons b r =>
      obtain ⟨b0, b1⟩ := hl b List.mem_cons_self
      simp only [nextGo] at h
      by_cases h1 : b < 128
      · rw [if_pos h1] at h
        by_cases h2 : 0 < k ∧ b = 0
        · rw [if_pos h2, Prod.mk.injEq] at h; omega
        · rw [if_neg h2, Prod.mk.injEq] at h
          have e : (bytesOf b.toNat) = [b] := by
            rw [bytesOf_small (by omega)]
            congr 1
            omega
          refine ⟨b.toNat, ?_, ?_, ?_, ?_, ?_⟩
          · rw [← h.1, Nat.mod_eq_of_lt (by omega)]
          · rw [e]; simp; omega
          · rw [e]; simp
          · omega
          · have := Nat.pow_le_pow_right (n := 128) (by decide) (show 1 ≤ f + 1 by omega)
            omega
      · rw [if_neg h1] at h
        obtain ⟨n', e1, e2, e3, e4, e5⟩ := ih (k + 1) _ _ v s r (fun c hc => hl c (List.mem_cons_of_mem _ hc)) h hs
        have hn' := e4 (by omega)
        have eb : bytesOf (b.toNat % 128 + 128 * n') = b :: bytesOf n' := by
          rw [bytesOf_great (by omega)]
          congr 1
          · omega
          · congr 1; omega
        refine ⟨b.toNat % 128 + 128 * n', ?_, ?_, ?_, ?_, ?_⟩
        · rw [e1, Nat.mul_add, Nat.mul_assoc]; omega
        · rw [eb, e2]; simp; omega
        · rw [eb]; simp only [List.length_cons, List.take_succ_cons, e3]
        · omega
        · rw [Nat.pow_succ]; omega
/-- What is got was put: the bytes that are taken are the number's. -/
theorem next_back {l : List Int} (hl : ∀ b ∈ l, 0 ≤ b ∧ b ≤ 255) (hs : 0 < (nextOf l).2) :
    (nextOf l).1 < 34359738368 ∧ (nextOf l).2 = (bytesOf (nextOf l).1).length ∧ l.take (nextOf l).2 = bytesOf (nextOf l).1 ∧ (nextOf l).2 ≤ l.length := by
  obtain ⟨n, e1, e2, e3, _, e5⟩ := nextGo_back 5 0 0 1 (nextOf l).1 (nextOf l).2 l hl rfl hs
  have e : (nextOf l).1 = n := by omega
  rw [e]
  have e2' : (nextOf l).2 = (bytesOf n).length := by omega
  refine ⟨by omega, e2', by rw [e2', e3], ?_⟩
  rw [e2']
  have := congrArg List.length e3
  rw [List.length_take] at this
  omega

theorem bytesOf_inj {m n : Nat} (hm : m < 34359738368) (hn : n < 34359738368) (h : bytesOf m = bytesOf n) : m = n := by
  have h1 := next_bytes [] hm
  have h2 := next_bytes [] hn
  rw [h] at h1
  have := h1.symm.trans h2
  simpa using (Prod.mk.inj this).1

theorem zig_lo {n : Int} : 0 ≤ zig n := by unfold zig; split <;> omega
theorem zig_hi {n : Int} (h0 : -2147483648 ≤ n) (h1 : n ≤ 2147483647) : zig n ≤ 4294967295 := by unfold zig; split <;> omega
theorem zag_zig (n : Int) : zag (zig n) = n := by
  unfold zag zig
  split <;> split <;> omega
theorem zig_zag {n : Int} (h : 0 ≤ n) : zig (zag n) = n := by
  unfold zag zig
  split <;> split <;> omega
theorem zag_range {n : Int} (h : 0 ≤ n) (h1 : n ≤ 4294967295) : -2147483648 ≤ zag n ∧ zag n ≤ 2147483647 := by
  unfold zag; split <;> omega
theorem zag_zero : zag 0 = 0 := by decide

/-- Each byte but the last one has its highest bit set. -/
theorem bytesOf_high (n : Nat) : ∀ i (h : i < (bytesOf n).length), (128 ≤ (bytesOf n)[i] ↔ i + 1 < (bytesOf n).length) := by
  induction n using Nat.strongRecOn with
  | ind n ih =>
    intro i hi
    by_cases hs : n < 128
    · have e := bytesOf_small hs
      simp only [e] at hi ⊢
      simp at hi
      subst hi
      simp
      omega
    · have e := bytesOf_great (show 128 ≤ n by omega)
      simp only [e] at hi ⊢
      cases i with
      | zero =>
        simp
        have := bytesOf_pos (n / 128)
        omega
      | succ i =>
        simp only [List.length_cons] at hi
        have := ih (n / 128) (by omega) i (by omega)
        simp only [List.getElem_cons_succ, List.length_cons]
        omega

theorem nextGo_zero (f : Nat) : ∀ (k N U : Nat) (l : List Int), (nextGo f k N U l).2 = 0 → nextGo f k N U l = (0, 0) := by
  induction f with
  | zero => intro k N U l _; cases l <;> rfl
  | succ f ih =>
    intro k N U l h
    cases l with
    | nil => rfl
    | cons b r =>
      simp only [nextGo] at h ⊢
      by_cases h1 : b < 128
      · rw [if_pos h1] at h ⊢
        by_cases h2 : 0 < k ∧ b = 0
        · rw [if_pos h2]
        · rw [if_neg h2] at h; simp at h
      · rw [if_neg h1] at h ⊢
        exact ih _ _ _ _ h
theorem next_zero {l : List Int} (h : (nextOf l).2 = 0) : (nextOf l).1 = 0 := by
  have := nextGo_zero 5 0 0 1 l h
  unfold nextOf
  rw [this]
theorem getR_ok {rest : List Int} {most : Int} (hs : 0 < (nextOf rest).2) (hv : ((nextOf rest).1 : Int) ≤ most) : getR rest false most = (((nextOf rest).1 : Int), rest.drop (nextOf rest).2, false) := by
  unfold getR; rw [if_pos ⟨rfl, hs, hv⟩]
theorem getR_no {rest : List Int} {bad : Bool} {most : Int} (h : bad = true ∨ (nextOf rest).2 = 0 ∨ most < ((nextOf rest).1 : Int)) : getR rest bad most = (0, rest, true) := by
  unfold getR
  rw [if_neg]
  rintro ⟨h1, h2, h3⟩
  rcases h with h | h | h
  · rw [h1] at h; cases h
  · omega
  · omega
end Go.Proofs.Ytikljohgdgibnaa
