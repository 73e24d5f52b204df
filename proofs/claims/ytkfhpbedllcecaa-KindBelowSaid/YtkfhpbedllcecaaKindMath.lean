/-
  Plain facts of what stands above a class, of which type fits where, and of what two types join to.
-/
import Derived.Test.YtkfhpbedllcecaaRefJoin
namespace Go.Proofs.Ytkfhpbedllcecaa

theorem aboveI_step {sup : List Int} {a : Int} {s : Int} (h0 : 0 ≤ a) (h : sup[a.toNat]? = some s) : aboveI sup a = a :: (if s < a then aboveI sup s else []) := by
  have e := aboveOf_some h
  have ea : (a.toNat : Int) = a := by omega
  rw [ea] at e
  rw [← e]
  unfold aboveI
  rw [if_pos h0]
theorem aboveI_bad {sup : List Int} {a : Int} (h : a < 0 ∨ (sup.length : Int) ≤ a) : aboveI sup a = [] := by
  unfold aboveI
  split
  · exact aboveOf_none (by omega)
  · rfl
theorem super_at {sup : List Int} {a : Int} (h0 : 0 ≤ a) (h1 : a < sup.length) : ∃ s, sup[a.toNat]? = some s :=
  ⟨_, List.getElem?_eq_getElem (show a.toNat < sup.length by omega)⟩

theorem above_self {sup : List Int} {a : Int} (h0 : 0 ≤ a) (h1 : a < sup.length) : a ∈ aboveI sup a := by
  obtain ⟨s, hs⟩ := super_at h0 h1
  rw [aboveI_step h0 hs]
  exact List.mem_cons_self
/-- What stands above a class: from 0 to its own number; the classes above that stand above the class, too; and of two that stand above it the lower one stands above the other. -/
theorem above_all (sup : List Int) (n : Nat) : ∀ a : Int, a < n → (∀ b ∈ aboveI sup a, 0 ≤ b ∧ b ≤ a ∧ a < sup.length) ∧ (∀ b ∈ aboveI sup a, ∀ c ∈ aboveI sup b, c ∈ aboveI sup a) ∧
    (∀ b ∈ aboveI sup a, ∀ c ∈ aboveI sup a, c ≤ b → c ∈ aboveI sup b) ∧ (aboveI sup a).Pairwise (· > ·) := by
  induction n with
  | zero =>
    intro a ha
    rw [aboveI_bad (.inl (by omega))]
    simp
  | succ n ih =>
    intro a ha
    by_cases hv : 0 ≤ a ∧ a < sup.length
    · obtain ⟨h0, h1⟩ := hv
      obtain ⟨s, hs⟩ := super_at h0 h1
      have e := aboveI_step h0 hs
      by_cases hsa : s < a
      · rw [if_pos hsa] at e
        obtain ⟨i1, i2, i3, i4⟩ := ih s (by omega)
        refine ⟨?_, ?_, ?_, ?_⟩
        · intro b hb
          rw [e] at hb
          rcases List.mem_cons.mp hb with rfl | hb
          · exact ⟨h0, by omega, h1⟩
          · have := i1 b hb
            exact ⟨this.1, by omega, h1⟩
        · intro b hb c hc
          rw [e] at hb
          rcases List.mem_cons.mp hb with rfl | hb
          · exact hc
          · rw [e]
            exact List.mem_cons_of_mem _ (i2 b hb c hc)
        · intro b hb c hc hcb
          have hb' := hb
          rw [e] at hb' hc
          rcases List.mem_cons.mp hb' with rfl | hb2
          · rw [e]; exact hc
          · rcases List.mem_cons.mp hc with rfl | hc2
            · have := i1 b hb2
              omega
            · exact i3 b hb2 c hc2 hcb
        · rw [e, List.pairwise_cons]
          exact ⟨fun b hb => by have := i1 b hb; omega, i4⟩
      · rw [if_neg hsa] at e
        rw [e]
        refine ⟨?_, ?_, ?_, by simp⟩
        · intro b hb
          simp at hb
          subst hb
          exact ⟨h0, by omega, h1⟩
        · intro b hb c hc
          simp at hb
          subst hb
          rw [← e]
          exact hc
        · intro b hb c hc _
          simp at hb
          subst hb
          rw [e]
          exact hc
    · rw [aboveI_bad (by omega)]
      simp
theorem above_range {sup : List Int} {a b : Int} (h : b ∈ aboveI sup a) : 0 ≤ b ∧ b ≤ a ∧ a < sup.length := (above_all sup (a.toNat + 1) a (by omega)).1 b h
theorem above_trans {sup : List Int} {a b c : Int} (h : b ∈ aboveI sup a) (g : c ∈ aboveI sup b) : c ∈ aboveI sup a := (above_all sup (a.toNat + 1) a (by omega)).2.1 b h c g
theorem above_line {sup : List Int} {a b c : Int} (h : b ∈ aboveI sup a) (g : c ∈ aboveI sup a) (l : c ≤ b) : c ∈ aboveI sup b := (above_all sup (a.toNat + 1) a (by omega)).2.2.1 b h c g l
theorem above_down (sup : List Int) (a : Int) : (aboveI sup a).Pairwise (· > ·) := (above_all sup (a.toNat + 1) a (by omega)).2.2.2
theorem above_anti {sup : List Int} {a b : Int} (h : b ∈ aboveI sup a) (g : a ∈ aboveI sup b) : a = b := by
  have := above_range h
  have := above_range g
  omega

theorem inB_iff {l : List Int} {n : Int} : inB l n = true ↔ n ∈ l := by unfold inB; simp

/-- What the first common one is: none, or the greatest. -/
theorem firstIn_spec (m : List Int) : ∀ l : List Int, l.Pairwise (· > ·) → (firstIn l m = (0, 0) ∧ ∀ x ∈ l, x ∉ m) ∨ ∃ x, firstIn l m = (3, x) ∧ x ∈ l ∧ x ∈ m ∧ ∀ y ∈ l, y ∈ m → y ≤ x
  | [], _ => .inl ⟨rfl, by simp⟩
  | x :: r, h => by
    obtain ⟨h1, h2⟩ := List.pairwise_cons.mp h
    by_cases hx : x ∈ m
    · refine .inr ⟨x, by simp only [firstIn]; rw [if_pos (inB_iff.mpr hx)], List.mem_cons_self, hx, fun y hy _ => ?_⟩
      rcases List.mem_cons.mp hy with rfl | hy
      · omega
      · have := h1 y hy; omega
    · have e : firstIn (x :: r) m = firstIn r m := by simp only [firstIn]; rw [if_neg (fun g => hx (inB_iff.mp g))]
      rw [e]
      rcases firstIn_spec m r h2 with ⟨h3, h4⟩ | ⟨z, h3, h4, h5, h6⟩
      · refine .inl ⟨h3, fun y hy => ?_⟩
        rcases List.mem_cons.mp hy with rfl | hy
        · exact hx
        · exact h4 y hy
      · refine .inr ⟨z, h3, List.mem_cons_of_mem _ h4, h5, fun y hy hm => ?_⟩
        rcases List.mem_cons.mp hy with rfl | hy
        · exact absurd hm hx
        · exact h6 y hy hm

/-- Of two classes neither of which is below the other: their join is the greatest that stands above both. -/
theorem join33 {sup : List Int} {n n' : Int} (h1 : n' ∉ aboveI sup n) (h2 : n ∉ aboveI sup n') :
    (firstIn ((aboveI sup n).drop 1) (aboveI sup n') = (0, 0) ∧ ∀ x ∈ aboveI sup n, x ∉ aboveI sup n') ∨
    ∃ x, firstIn ((aboveI sup n).drop 1) (aboveI sup n') = (3, x) ∧ x ∈ aboveI sup n ∧ x ∈ aboveI sup n' ∧ ∀ y ∈ aboveI sup n, y ∈ aboveI sup n' → y ≤ x := by
  by_cases hv : 0 ≤ n ∧ n < sup.length
  · obtain ⟨s, hs⟩ := super_at hv.1 hv.2
    have hd := above_down sup n
    have e := aboveI_step hv.1 hs
    generalize aboveI sup n = L at *
    subst e
    simp only [List.drop_succ_cons, List.drop_zero]
    obtain ⟨g1, g2⟩ := List.pairwise_cons.mp hd
    rcases firstIn_spec (aboveI sup n') _ g2 with ⟨h3, h4⟩ | ⟨z, h3, h4, h5, h6⟩
    · refine .inl ⟨h3, fun y hy => ?_⟩
      rcases List.mem_cons.mp hy with rfl | hy
      · exact h2
      · exact h4 y hy
    · refine .inr ⟨z, h3, List.mem_cons_of_mem _ h4, h5, fun y hy hm => ?_⟩
      rcases List.mem_cons.mp hy with rfl | hy
      · exact absurd hm h2
      · exact h6 y hy hm
  · rw [aboveI_bad (show n < 0 ∨ (sup.length : Int) ≤ n by omega)]
    exact .inl ⟨rfl, by simp⟩

theorem sub_iff (sup : List Int) (k n k' n' : Int) : subB sup k n k' n' = true ↔ (k = 4 ∧ (k' = 2 ∨ k' = 3 ∨ k' = 4)) ∨ (k = 3 ∧ k' = 3 ∧ n' ∈ aboveI sup n) ∨ ((k = 1 ∨ k = 2) ∧ k = k' ∧ n = n') := by
  unfold subB
  by_cases h4 : k = 4
  · subst h4; simp [isRefB]
  · by_cases h3 : k = 3
    · subst h3; simp [inB]
    · simp [h3, h4]

theorem sub_trans' {sup : List Int} {k n k' n' k'' n'' : Int} (h : subB sup k n k' n' = true) (g : subB sup k' n' k'' n'' = true) : subB sup k n k'' n'' = true := by
  rw [sub_iff] at *
  rcases h with ⟨rfl, h⟩ | ⟨rfl, rfl, h⟩ | ⟨h0, rfl, rfl⟩
  · rcases g with ⟨rfl, g⟩ | ⟨rfl, rfl, g⟩ | ⟨g0, rfl, rfl⟩
    · exact .inl ⟨rfl, g⟩
    · exact .inl ⟨rfl, by omega⟩
    · exact .inl ⟨rfl, h⟩
  · rcases g with ⟨h4, _⟩ | ⟨_, rfl, g⟩ | ⟨g0, _, _⟩
    · omega
    · exact .inr (.inl ⟨rfl, rfl, above_trans h g⟩)
    · omega
  · exact g

theorem join_turned {sup : List Int} {k n k' n' : Int} (hno : ¬ (k = 4 ∧ k' = 4)) : joinR sup k n k' n' = joinR sup k' n' k n := by
  by_cases h1 : subB sup k n k' n' = true
  · by_cases h2 : subB sup k' n' k n = true
    · have e : (k, n) = (k', n') := by
        rw [sub_iff] at h1 h2
        rcases h1 with ⟨rfl, h⟩ | ⟨rfl, rfl, h⟩ | ⟨h0, rfl, rfl⟩
        · rcases h2 with ⟨h4, _⟩ | ⟨_, h4, _⟩ | ⟨_, h4, _⟩ <;> omega
        · rcases h2 with ⟨h4, _⟩ | ⟨_, _, g⟩ | ⟨h4, _, _⟩
          · omega
          · rw [above_anti g h]
          · omega
        · rfl
      simp only [joinR]
      rw [if_pos h1, if_pos h2]
      exact e.symm
    · simp only [joinR]
      rw [if_pos h1, if_neg h2, if_pos h1]
  · by_cases h2 : subB sup k' n' k n = true
    · simp only [joinR]
      rw [if_neg h1, if_pos h2, if_pos h2]
    · simp only [joinR]
      rw [if_neg h1, if_neg h2, if_neg h2, if_neg h1]
      by_cases h3 : k = 3 ∧ k' = 3
      · obtain ⟨rfl, rfl⟩ := h3
        rw [if_pos ⟨rfl, rfl⟩, if_pos ⟨rfl, rfl⟩]
        have a1 : n' ∉ aboveI sup n := fun h => h1 ((sub_iff ..).mpr (.inr (.inl ⟨rfl, rfl, h⟩)))
        have a2 : n ∉ aboveI sup n' := fun h => h2 ((sub_iff ..).mpr (.inr (.inl ⟨rfl, rfl, h⟩)))
        rcases join33 a1 a2 with ⟨e1, g1⟩ | ⟨x, e1, g1, g2, g3⟩
        · rcases join33 a2 a1 with ⟨e2, f1⟩ | ⟨y, e2, f1, f2, f3⟩
          · rw [e1, e2]
          · exact absurd f1 (g1 y f2)
        · rcases join33 a2 a1 with ⟨e2, f1⟩ | ⟨y, e2, f1, f2, f3⟩
          · exact absurd g1 (f1 x g2)
          · have := g3 y f2 f1
            have := f3 x g2 g1
            rw [e1, e2, show x = y by omega]
      · rw [if_neg h3, if_neg (fun h => h3 ⟨h.2, h.1⟩)]

/-- May a type be asked after: is its class there, if it has one? -/
def thereP (sup : List Int) (k n : Int) : Prop := k = 3 → 0 ≤ n ∧ n < sup.length

theorem sub_refl' {sup : List Int} {k n : Int} (hk : k = 1 ∨ k = 2 ∨ k = 3 ∨ k = 4) (ht : thereP sup k n) : subB sup k n k n = true := by
  rw [sub_iff]
  rcases hk with rfl | rfl | rfl | rfl
  · exact .inr (.inr ⟨.inl rfl, rfl, rfl⟩)
  · exact .inr (.inr ⟨.inr rfl, rfl, rfl⟩)
  · exact .inr (.inl ⟨rfl, rfl, above_self (ht rfl).1 (ht rfl).2⟩)
  · exact .inl ⟨rfl, by omega⟩
theorem sub_kinds {sup : List Int} {k n k' n' : Int} (h : subB sup k n k' n' = true) : (k = 1 ∨ k = 2 ∨ k = 3 ∨ k = 4) ∧ (k' = 1 ∨ k' = 2 ∨ k' = 3 ∨ k' = 4) := by
  rw [sub_iff] at h
  omega

/-- The join of two types: there is none, and no third one that both fit; or both fit it, and it fits whatever both fit. -/
theorem join_lattice {sup : List Int} {k n k' n' : Int} (ha : thereP sup k n) (hb : thereP sup k' n') :
    ((joinR sup k n k' n').1 = 0 ∧ ∀ j m, subB sup k n j m = true → subB sup k' n' j m = true → False) ∨
    (¬ (joinR sup k n k' n').1 = 0 ∧ subB sup k n (joinR sup k n k' n').1 (joinR sup k n k' n').2 = true ∧ subB sup k' n' (joinR sup k n k' n').1 (joinR sup k n k' n').2 = true ∧
      ∀ j m, subB sup k n j m = true → subB sup k' n' j m = true → subB sup (joinR sup k n k' n').1 (joinR sup k n k' n').2 j m = true) := by
  by_cases h1 : subB sup k n k' n' = true
  · have e : joinR sup k n k' n' = (k', n') := by simp only [joinR]; rw [if_pos h1]
    rw [e]
    have hk := (sub_kinds h1).2
    exact .inr ⟨by show ¬ k' = 0; omega, h1, sub_refl' hk hb, fun j m _ g => g⟩
  · by_cases h2 : subB sup k' n' k n = true
    · have e : joinR sup k n k' n' = (k, n) := by simp only [joinR]; rw [if_neg h1, if_pos h2]
      rw [e]
      have hk := (sub_kinds h2).2
      exact .inr ⟨by show ¬ k = 0; omega, sub_refl' hk ha, h2, fun j m g _ => g⟩
    · by_cases h3 : k = 3 ∧ k' = 3
      · have e : joinR sup k n k' n' = firstIn ((aboveI sup n).drop 1) (aboveI sup n') := by simp only [joinR]; rw [if_neg h1, if_neg h2, if_pos h3]
        obtain ⟨rfl, rfl⟩ := h3
        have a1 : n' ∉ aboveI sup n := fun h => h1 ((sub_iff ..).mpr (.inr (.inl ⟨rfl, rfl, h⟩)))
        have a2 : n ∉ aboveI sup n' := fun h => h2 ((sub_iff ..).mpr (.inr (.inl ⟨rfl, rfl, h⟩)))
        rw [e]
        rcases join33 a1 a2 with ⟨e1, g1⟩ | ⟨x, e1, g1, g2, g3⟩
        · rw [e1]
          refine .inl ⟨rfl, fun j m f g => ?_⟩
          rw [sub_iff] at f g
          rcases f with ⟨f, _⟩ | ⟨_, rfl, f⟩ | ⟨f, _, _⟩
          · omega
          · rcases g with ⟨g, _⟩ | ⟨_, _, g⟩ | ⟨g, _, _⟩
            · omega
            · exact g1 m f g
            · omega
          · omega
        · rw [e1]
          refine .inr ⟨by show ¬ (3 : Int) = 0; decide, (sub_iff ..).mpr (.inr (.inl ⟨rfl, rfl, g1⟩)), (sub_iff ..).mpr (.inr (.inl ⟨rfl, rfl, g2⟩)), fun j m f g => ?_⟩
          rw [sub_iff] at f g
          rcases f with ⟨f, _⟩ | ⟨_, rfl, f⟩ | ⟨f, _, _⟩
          · omega
          · rcases g with ⟨g, _⟩ | ⟨_, _, g⟩ | ⟨g, _, _⟩
            · omega
            · exact (sub_iff ..).mpr (.inr (.inl ⟨rfl, rfl, above_line g1 f (g3 m f g)⟩))
            · omega
          · omega
      · have e : joinR sup k n k' n' = (0, 0) := by simp only [joinR]; rw [if_neg h1, if_neg h2, if_neg h3]
        rw [e]
        refine .inl ⟨rfl, fun j m f g => ?_⟩
        rw [sub_iff] at f g h1 h2
        rcases f with ⟨rfl, f⟩ | ⟨rfl, rfl, f⟩ | ⟨f, rfl, rfl⟩
        · rcases g with ⟨rfl, g⟩ | ⟨rfl, rfl, g⟩ | ⟨g, rfl, rfl⟩
          · exact h1 (.inl ⟨rfl, by omega⟩)
          · exact h1 (.inl ⟨rfl, by omega⟩)
          · exact h1 (.inl ⟨rfl, f⟩)
        · rcases g with ⟨rfl, g⟩ | ⟨rfl, _, g⟩ | ⟨g, rfl, rfl⟩
          · exact h2 (.inl ⟨rfl, by omega⟩)
          · exact h3 ⟨rfl, rfl⟩
          · omega
        · exact h2 (g)
end Go.Proofs.Ytkfhpbedllcecaa
