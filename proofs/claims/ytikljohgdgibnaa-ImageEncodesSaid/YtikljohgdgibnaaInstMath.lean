/-
  Plain facts of instructions as bytes: which may be, what was put is got, and what was got was put.
-/
import Derived.Test.YtikljohgdgibnaaBitsMath
import Derived.Test.YtikljohgdgibnaaInstDefs
namespace Go.Proofs.Ytikljohgdgibnaa
set_option maxRecDepth 100000

open Go.ChangeShapes Go.WideShapes Go.ChangeAt Go.RowKit
/-- Its bytes. -/
def putI (op a b : Int) : List Int := bytesOf op.toNat ++ ((if 0 < argsI op then bytesOf a.toNat else []) ++ (if 1 < argsI op then bytesOf b.toNat else []))
/-- What a reader answers: the instruction, what is left, is it bad? -/
def getI (rest : List Int) (bad : Bool) : (Int × Int × Int) × List Int × Bool :=
  let g := getR rest bad 34
  let h := if 0 < argsI g.1 then getR g.2.1 g.2.2 255 else (0, g.2)
  let k := if 1 < argsI g.1 then getR h.2.1 h.2.2 255 else (0, h.2)
  ((g.1, h.1, k.1), k.2)

theorem get_put {n most : Int} (r : List Int) (h0 : 0 ≤ n) (h1 : n ≤ most) (h2 : most ≤ 34359738367) : getR (bytesOf n.toNat ++ r) false most = (n, r, false) := by
  have e := next_bytes (n := n.toNat) r (by omega)
  have hp := bytesOf_pos n.toNat
  unfold getR
  rw [e, if_pos ⟨rfl, hp, by dsimp only; omega⟩]
  have e2 : (n.toNat : Int) = n := by omega
  simp [e2]
theorem get_bad' (rest : List Int) (most : Int) : getR rest true most = (0, rest, true) := getR_no (.inl rfl)
theorem get_back {l r : List Int} {n most : Int} (hl : ∀ b ∈ l, 0 ≤ b ∧ b ≤ 255) (h : getR l false most = (n, r, false)) : l = bytesOf n.toNat ++ r ∧ 0 ≤ n ∧ n ≤ most := by
  unfold getR at h
  split at h
  · rename_i g
    obtain ⟨_, g1, g2⟩ := g
    obtain ⟨b1, b2, b3, b4⟩ := next_back hl g1
    simp only [Prod.mk.injEq] at h
    obtain ⟨rfl, rfl, _⟩ := h
    refine ⟨?_, by omega, g2⟩
    rw [Int.toNat_natCast, ← b3, List.take_append_drop]
  · simp at h

theorem getI_put {op a b : Int} (r : List Int) (h : instrB op a b = true) : getI (putI op a b ++ r) false = ((op, a, b), r, false) := by
  obtain ⟨o0, o1, a0, a1, b0, b1⟩ := instr_bounds h
  have h := instr_iff.mp h
  have e0 : putI op a b ++ r = bytesOf op.toNat ++ ((if 0 < argsI op then bytesOf a.toNat else []) ++ ((if 1 < argsI op then bytesOf b.toNat else []) ++ r)) := by simp [putI]
  have g0 := get_put ((if 0 < argsI op then bytesOf a.toNat else []) ++ ((if 1 < argsI op then bytesOf b.toNat else []) ++ r)) (n := op) (most := 34) (by omega) o1 (by omega)
  rw [← e0] at g0
  unfold getI
  simp only [g0]
  by_cases c1 : 0 < argsI op
  · have g1 := get_put ((if 1 < argsI op then bytesOf b.toNat else []) ++ r) (n := a) (most := 255) a0 a1 (by omega)
    simp only [if_pos c1, g1]
    by_cases c2 : 1 < argsI op
    · have g2 := get_put r (n := b) (most := 255) b0 b1 (by omega)
      simp only [if_pos c2, g2]
    · have : b = 0 := by omega
      subst this
      simp only [if_neg c2, List.nil_append]
  · have : a = 0 := by omega
    subst this
    have c2 : ¬ 1 < argsI op := by omega
    have : b = 0 := by omega
    subst this
    simp only [if_neg c1, if_neg c2, List.nil_append]

theorem getI_back {l r : List Int} {op a b : Int} (hl : ∀ b ∈ l, 0 ≤ b ∧ b ≤ 255) (h : getI l false = ((op, a, b), r, false)) : l = putI op a b ++ r ∧ 0 ≤ op ∧ op ≤ 34 ∧ 0 ≤ a ∧ a ≤ 255 ∧ 0 ≤ b ∧ b ≤ 255 ∧ (op = 0 ∨ instrB op a b = true) := by
  unfold getI at h
  obtain ⟨g, hg⟩ : ∃ g, getR l false 34 = g := ⟨_, rfl⟩
  rw [hg] at h
  obtain ⟨n0, r0, b0⟩ := g
  dsimp only at h
  obtain ⟨g1, hg1⟩ : ∃ g1, (if 0 < argsI n0 then getR r0 b0 255 else (0, r0, b0)) = g1 := ⟨_, rfl⟩
  rw [hg1] at h
  obtain ⟨n1, r1, b1⟩ := g1
  dsimp only at h
  obtain ⟨g2, hg2⟩ : ∃ g2, (if 1 < argsI n0 then getR r1 b1 255 else (0, r1, b1)) = g2 := ⟨_, rfl⟩
  rw [hg2] at h
  obtain ⟨n2, r2, b2⟩ := g2
  simp only [Prod.mk.injEq] at h
  obtain ⟨⟨rfl, rfl, rfl⟩, rfl, rfl⟩ := h
  have hb1 : b1 = false := by
    cases b1
    · rfl
    · split at hg2
      · rw [get_bad'] at hg2; simp at hg2
      · simp at hg2
  subst hb1
  have hb0 : b0 = false := by
    cases b0
    · rfl
    · split at hg1
      · rw [get_bad'] at hg1; simp at hg1
      · simp at hg1
  subst hb0
  obtain ⟨e0, o0, o1⟩ := get_back hl hg
  have hl0 : ∀ b ∈ r0, 0 ≤ b ∧ b ≤ 255 := fun b hb => hl b (by rw [e0]; exact List.mem_append_right _ hb)
  have hop : n0 = 0 ∨ 0 ≤ argsI n0 := by
    rcases Int.lt_or_le 0 n0 with g | g
    · exact .inr ((args_op n0).mpr ⟨g, o1⟩)
    · exact .inl (by omega)
  have hz : argsI 0 = -1 := by decide
  by_cases c1 : 0 < argsI n0
  · rw [if_pos c1] at hg1
    obtain ⟨e1, a0, a1⟩ := get_back hl0 hg1
    have hl1 : ∀ b ∈ r1, 0 ≤ b ∧ b ≤ 255 := fun b hb => hl0 b (by rw [e1]; exact List.mem_append_right _ hb)
    by_cases c2 : 1 < argsI n0
    · rw [if_pos c2] at hg2
      obtain ⟨e2, q0, q1⟩ := get_back hl1 hg2
      refine ⟨?_, o0, o1, a0, a1, q0, q1, .inr (instr_iff.mpr ⟨by omega, .inl (by omega), .inl (by omega), a0, a1, q0, q1⟩)⟩
      unfold putI
      rw [if_pos c1, if_pos c2, List.append_assoc, List.append_assoc, ← e2, ← e1]
      exact e0
    · rw [if_neg c2] at hg2
      simp only [Prod.mk.injEq] at hg2
      obtain ⟨rfl, rfl, _⟩ := hg2
      refine ⟨?_, o0, o1, a0, a1, by omega, by omega, .inr (instr_iff.mpr ⟨by omega, .inl (by omega), .inr rfl, a0, a1, by omega, by omega⟩)⟩
      unfold putI
      rw [if_pos c1, if_neg c2, List.append_nil, List.append_assoc, ← e1]
      exact e0
  · have c2 : ¬ 1 < argsI n0 := by omega
    rw [if_neg c1] at hg1
    simp only [Prod.mk.injEq] at hg1
    obtain ⟨rfl, rfl, _⟩ := hg1
    rw [if_neg c2] at hg2
    simp only [Prod.mk.injEq] at hg2
    obtain ⟨rfl, rfl, _⟩ := hg2
    refine ⟨?_, o0, o1, by omega, by omega, by omega, by omega, ?_⟩
    · unfold putI
      rw [if_neg c1, if_neg c2, List.append_nil, List.append_nil]
      exact e0
    · rcases hop with g | g
      · exact .inl g
      · exact .inr (instr_iff.mpr ⟨g, .inr rfl, .inr rfl, by omega, by omega, by omega, by omega⟩)

theorem putI_range (op a b : Int) : ∀ c ∈ putI op a b, 0 ≤ c ∧ c ≤ 255 := by
  intro c hc
  unfold putI at hc
  rcases List.mem_append.mp hc with h | h
  · exact bytesOf_range _ c h
  · rcases List.mem_append.mp h with h | h
    · split at h
      · exact bytesOf_range _ c h
      · simp at h
    · split at h
      · exact bytesOf_range _ c h
      · simp at h
theorem putI_len27 {op a b : Int} (h0 : op ≤ 9223372036854775807) (h1 : a ≤ 9223372036854775807) (h2 : b ≤ 9223372036854775807) : (putI op a b).length ≤ 27 := by
  have l0 := bytesOf_len9 (n := op.toNat) (by omega)
  have l1 := bytesOf_len9 (n := a.toNat) (by omega)
  have l2 := bytesOf_len9 (n := b.toNat) (by omega)
  unfold putI
  simp only [List.length_append]
  split <;> split <;> (try simp only [List.length_nil]) <;> omega
theorem putI_len {op a b : Int} (h : instrB op a b = true) : 1 ≤ (putI op a b).length ∧ (putI op a b).length ≤ 5 := by
  obtain ⟨o0, o1, a0, a1, b0, b1⟩ := instr_bounds h
  have l0 := bytesOf_len 0 op.toNat (by omega)
  have l1 := bytesOf_len 1 a.toNat (by omega)
  have l2 := bytesOf_len 1 b.toNat (by omega)
  have p0 := bytesOf_pos op.toNat
  unfold putI
  simp only [List.length_append]
  split <;> split <;> (try simp only [List.length_nil]) <;> omega
end Go.Proofs.Ytikljohgdgibnaa
