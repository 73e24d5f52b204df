/-
  Plain facts of what stands above a class, and of which type fits where.
-/
import Derived.Test.YtcehkmnneimdeaaSubDefs
namespace Go.Proofs.Ytcehkmnneimdeaa
set_option maxRecDepth 100000
set_option linter.unusedVariables false
set_option linter.unusedSimpArgs false

theorem aboveI_step {sup : List Int} {a : Int} {s : Int} (h0 : 0 ≤ a) (h : sup[a.toNat]? = some s) : aboveI sup a = a :: (if s < a then aboveI sup s else []) := by
  have e := aboveOf_some h
  have ea : (a.toNat : Int) = a := by omega
  rw [ea] at e
  rw [← e]
  unfold aboveI
  rw [if_pos h0]
theorem aboveI_bad {sup : List Int} {a : Int} (h : a < 0 ∨ (sup.length : Int) ≤ a) : aboveI sup a = [] := by
  unfold aboveI
  split
  · exact aboveOf_none (by omega)
  · rfl
theorem super_at {sup : List Int} {a : Int} (h0 : 0 ≤ a) (h1 : a < sup.length) : ∃ s, sup[a.toNat]? = some s :=
  ⟨_, List.getElem?_eq_getElem (show a.toNat < sup.length by omega)⟩

theorem above_self {sup : List Int} {a : Int} (h0 : 0 ≤ a) (h1 : a < sup.length) : a ∈ aboveI sup a := by
  obtain ⟨s, hs⟩ := super_at h0 h1
  rw [aboveI_step h0 hs]
  exact List.mem_cons_self
/-- What stands above a class: from 0 to its own number; the classes above that stand above the class, too; and of two that stand above it the lower one stands above the other. -/
theorem above_all (sup : List Int) (n : Nat) : ∀ a : Int, a < n → (∀ b ∈ aboveI sup a, 0 ≤ b ∧ b ≤ a ∧ a < sup.length) ∧ (∀ b ∈ aboveI sup a, ∀ c ∈ aboveI sup b, c ∈ aboveI sup a) ∧
    (∀ b ∈ aboveI sup a, ∀ c ∈ aboveI sup a, c ≤ b → c ∈ aboveI sup b) ∧ (aboveI sup a).Pairwise (· > ·) := by
  induction n with
  | zero =>
    intro a ha
    rw [aboveI_bad (.inl (by omega))]
    simp
  | succ n ih =>
    intro a ha
    by_cases hv : 0 ≤ a ∧ a < sup.length
    · obtain ⟨h0, h1⟩ := hv
      obtain ⟨s, hs⟩ := super_at h0 h1
      have e := aboveI_step h0 hs
      by_cases hsa : s < a
      · rw [if_pos hsa] at e
        obtain ⟨i1, i2, i3, i4⟩ := ih s (by omega)
        refine ⟨?_, ?_, ?_, ?_⟩
        · intro b hb
          rw [e] at hb
          rcases List.mem_cons.mp hb with rfl | hb
          · exact ⟨h0, by omega, h1⟩
          · have := i1 b hb
            exact ⟨this.1, by omega, h1⟩
        · intro b hb c hc
          rw [e] at hb
          rcases List.mem_cons.mp hb with rfl | hb
          · exact hc
          · rw [e]
            exact List.mem_cons_of_mem _ (i2 b hb c hc)
        · intro b hb c hc hcb
          have hb' := hb
          rw [e] at hb' hc
          rcases List.mem_cons.mp hb' with rfl | hb2
          · rw [e]; exact hc
          · rcases List.mem_cons.mp hc with rfl | hc2
            · have := i1 b hb2
              omega
            · exact i3 b hb2 c hc2 hcb
        · rw [e, List.pairwise_cons]
          exact ⟨fun b hb => by have := i1 b hb; omega, i4⟩
      · rw [if_neg hsa] at e
        rw [e]
        refine ⟨?_, ?_, ?_, by simp⟩
        · intro b hb
          simp at hb
          subst hb
          exact ⟨h0, by omega, h1⟩
        · intro b hb c hc
          simp at hb
          subst hb
          rw [← e]
          exact hc
        · intro b hb c hc _
          simp at hb
          subst hb
          rw [e]
          exact hc
    · rw [aboveI_bad (by omega)]
      simp
theorem above_range {sup : List Int} {a b : Int} (h : b ∈ aboveI sup a) : 0 ≤ b ∧ b ≤ a ∧ a < sup.length := (above_all sup (a.toNat + 1) a (by omega)).1 b h
theorem above_trans {sup : List Int} {a b c : Int} (h : b ∈ aboveI sup a) (g : c ∈ aboveI sup b) : c ∈ aboveI sup a := (above_all sup (a.toNat + 1) a (by omega)).2.1 b h c g
theorem above_line {sup : List Int} {a b c : Int} (h : b ∈ aboveI sup a) (g : c ∈ aboveI sup a) (l : c ≤ b) : c ∈ aboveI sup b := (above_all sup (a.toNat + 1) a (by omega)).2.2.1 b h c g l
theorem above_down (sup : List Int) (a : Int) : (aboveI sup a).Pairwise (· > ·) := (above_all sup (a.toNat + 1) a (by omega)).2.2.2
theorem above_anti {sup : List Int} {a b : Int} (h : b ∈ aboveI sup a) (g : a ∈ aboveI sup b) : a = b := by
  have := above_range h
  have := above_range g
  omega

theorem inB_iff {l : List Int} {n : Int} : inB l n = true ↔ n ∈ l := by unfold inB; simp

theorem sub_iff (sup : List Int) (k n k' n' : Int) : subB sup k n k' n' = true ↔ (k = 4 ∧ (k' = 2 ∨ k' = 3 ∨ k' = 4)) ∨ (k = 3 ∧ k' = 3 ∧ n' ∈ aboveI sup n) ∨ ((k = 1 ∨ k = 2) ∧ k = k' ∧ n = n') := by
  unfold subB
  by_cases h4 : k = 4
  · subst h4; simp [isRefB]
  · by_cases h3 : k = 3
    · subst h3; simp [inB]
    · simp [h3, h4]

end Go.Proofs.Ytcehkmnneimdeaa
