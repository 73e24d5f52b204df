/-
  The statement's own list of regions, as it lies in memory: which changes keep it. Plain definitions and lemmas; no conditions.
-/
import Derived.Test.YtmjoollhkjgohaaMemUse
namespace Go.Proofs.Ytmjoollhkjgohaa
set_option maxRecDepth 100000
set_option linter.unusedVariables false
set_option linter.unusedSimpArgs false
open Go.ChangeShapes Go.WideShapes Go.ChangeAt Go.RowKit
set_option linter.unusedVariables false

/-- A region of the statement's own: its number, its cells, the block where they lie. -/
abbrev PlT := Nat × List Int × Nat
def plC (t : PlT) : List Value := [.int .i64 (t.1 : Int), .slice (some ⟨t.2.2, 0, none⟩) t.2.1.length t.2.1.length]
def plV (T : List PlT) : List Value := T.flatMap plC
def lT (T : List PlT) : List (Nat × List Int) := T.map fun t => (t.1, t.2.1)
theorem lT_len (T : List PlT) : (lT T).length = T.length := List.length_map ..
theorem lT_at {T : List PlT} {k : Nat} {t : PlT} (h : T[k]? = some t) : (lT T)[k]? = some (t.1, t.2.1) := by unfold lT; rw [List.getElem?_map, h]; rfl
theorem lT_has {T : List PlT} {n : Nat} (h : hasR (lT T) n) : ∃ (k : Nat) (t : PlT), T[k]? = some t ∧ t.1 = n := by
  obtain ⟨k, c, hk⟩ := h
  unfold lT at hk
  rw [List.getElem?_map] at hk
  cases e : T[k]? with
  | none => rw [e] at hk; cases hk
  | some t =>
    rw [e] at hk
    injection hk with hk
    injection hk with h1 h2
    exact ⟨k, t, e, h1⟩
theorem plV_len (T : List PlT) : (plV T).length = T.length * 2 := flat_length (f := plC) (k := 2) (fun _ => rfl) T
theorem plV_at {T : List PlT} {i : Nat} {t : PlT} (h : T[i]? = some t) : (plV T)[i * 2]? = some (.int .i64 (t.1 : Int)) ∧ (plV T)[i * 2 + 1]? = some (.slice (some ⟨t.2.2, 0, none⟩) t.2.1.length t.2.1.length) :=
  ⟨flat_get (f := plC) (k := 2) (fun _ => rfl) T i 0 t h (by decide), flat_get (f := plC) (k := 2) (fun _ => rfl) T i 1 t h (by decide)⟩
theorem plV_one (T : List PlT) : ∀ u ∈ plV T, u.oneCell' = true := fun u hu => by
  obtain ⟨t, _, h⟩ := List.mem_flatMap.mp hu
  simp [plC] at h
  rcases h with rfl | rfl <;> rfl
theorem plV_app (T S : List PlT) : plV (T ++ S) = plV T ++ plV S := by unfold plV; rw [List.flatMap_append]
/-- The same row, if a region has as many cells as it had. -/
theorem plV_set {T : List PlT} {k i q : Nat} {d e : List Int} (h : T[k]? = some (i, d, q)) (he : e.length = d.length) : plV (T.set k (i, e, q)) = plV T := by
  obtain ⟨hk, ht⟩ := List.getElem?_eq_some_iff.mp h
  have e1 : T = T.take k ++ (i, d, q) :: T.drop (k + 1) := (split_at h).1
  have e2 : T.set k (i, e, q) = T.take k ++ (i, e, q) :: T.drop (k + 1) := by
    conv => lhs; rw [e1]
    rw [List.set_append_right _ _ (by rw [List.length_take]; omega), List.length_take, show k - min k T.length = 0 by omega]
    rfl
  rw [e2]
  conv => rhs; rw [e1]
  rw [plV_app, plV_app]
  congr 1
  show plC _ ++ _ = plC _ ++ _
  unfold plC
  dsimp only
  rw [he]
structure PlIn (w : World) (B : Nat) (ρ : Nat → Nat) (v : Value) (T : List PlT) : Prop where
  row : w.ownsRow B 31 2 v T.length (plV T)
  role : ∀ b, v.ownBlock = some b → ρ b = 0
  at_ : ∀ t ∈ T, Whole w t.2.2 (i32V t.2.1) 21 ∧ ρ t.2.2 = 0 ∧ B ≤ t.2.2
  nod : (T.map (fun t => t.2.2)).Nodup
section
variable {w w' : World} {B : Nat} {ρ ρ' : Nat → Nat} {v : Value} {T : List PlT}
theorem PlIn.stay (h : PlIn w B ρ v T) (hS : MemStay w w' ρ ρ') : PlIn w' B ρ' v T where
  row := own_mem h.row hS h.role
  role := fun b hb => (hS.role b (own_block_lt h.row b hb)).trans (h.role b hb)
  at_ := fun t ht => by
    obtain ⟨h1, h2, h3⟩ := h.at_ t ht
    exact ⟨whole_mem h1 hS h2, (hS.role _ (Whole.lt h1)).trans h2, h3⟩
  nod := h.nod
theorem PlIn.keep (h : PlIn w B ρ v T) (hb : Below w.heap.size w w') : PlIn w' B ρ v T := h.stay (MemStay.below hb)
theorem PlIn.slice (h : PlIn w B ρ v T) : ∃ A c, v = .slice A T.length c ∧ T.length ≤ c ∧ c ≤ 9223372036854775807 := by
  rcases ownK_slice h.row with ⟨e, q⟩ | ⟨g, c, e, h1, h2⟩
  · exact ⟨none, 0, by rw [q]; exact e, by omega, by omega⟩
  · exact ⟨_, c, e, h1, h2⟩
/-- What the row has of a region. -/
theorem PlIn.cell {A : Option Addr} {n c : Nat} (h : PlIn w B ρ (.slice A n c) T) {k : Nat} {t : PlT} (hk : T[k]? = some t) :
    ∃ gr, A = some ⟨gr, 0, none⟩ ∧ w.cell? ⟨gr, k * 2, none⟩ = some (.int .i64 (t.1 : Int)) ∧ w.cell? ⟨gr, k * 2 + 1, none⟩ = some (.slice (some ⟨t.2.2, 0, none⟩) t.2.1.length t.2.1.length) ∧ gr < w.heap.size ∧ gr ≠ t.2.2 := by
  have hkl := (List.getElem?_eq_some_iff.mp hk).1
  obtain ⟨gr, c', rest, e, hB, hW⟩ := own_block h.row (by omega)
  injection e with e1 e2 e3
  subst e1
  obtain ⟨p0, p1⟩ := plV_at hk
  have hlt : ∀ j u, (plV T)[j]? = some u → w.cell? ⟨gr, j, none⟩ = some u := fun j u hj => hW.cells j u (by rw [List.getElem?_append_left (List.getElem?_eq_some_iff.mp hj).1]; exact hj)
  refine ⟨gr, rfl, hlt _ _ p0, hlt _ _ p1, Whole.lt hW, fun e => ?_⟩
  have h2 := (h.at_ t (List.mem_of_getElem? hk)).1
  rw [← e] at h2
  unfold Whole at hW h2
  rw [hW] at h2
  injection h2 with h2
  injection h2 with _ h3 _
  cases h3
/-- A cell of a region's is turned. -/
theorem PlIn.put (h : PlIn w B ρ v T) {k i q j : Nat} {d : List Int} (hk : T[k]? = some (i, d, q)) (x : Int) :
    PlIn (w.setCell ⟨q, j, none⟩ (.int .i32 x)) B ρ v (T.set k (i, d.set j x, q)) ∧ Only w (w.setCell ⟨q, j, none⟩ (.int .i32 x)) ρ 0 := by
  have hkl := (List.getElem?_eq_some_iff.mp hk).1
  obtain ⟨hq1, hq2, hq3⟩ := h.at_ _ (List.mem_of_getElem? hk)
  dsimp only at hq1 hq2 hq3
  have hids : (T.set k (i, d.set j x, q)).map (fun t => t.2.2) = T.map (fun t => t.2.2) := by
    rw [List.map_set]
    refine List.ext_getElem? fun p => ?_
    rw [List.getElem?_set]
    split
    · rename_i e
      subst e
      rw [if_pos (by simpa using hkl), List.getElem?_map, hk]
      rfl
    · rfl
  refine ⟨⟨?_, h.role, fun t ht => ?_, by rw [hids]; exact h.nod⟩, Only.cell (a := ⟨q, j, none⟩) hq2 _⟩
  · rw [plV_set hk List.length_set, List.length_set]
    obtain ⟨h1, h2⟩ := h.row
    refine ⟨h1, ?_⟩
    rcases h2 with h0 | ⟨gr, cap, cur, hv, hg, hh, rest⟩
    · exact .inl h0
    · refine .inr ⟨gr, cap, cur, hv, hg, ?_, rest⟩
      have hne : gr ≠ q := fun e => by
        subst e
        unfold Whole at hq1
        rw [hh] at hq1
        injection hq1 with hq1
        injection hq1 with _ h3 _
        cases h3
      exact (Below.heap_setCell w ⟨q, j, none⟩ _ gr hne).trans hh
  · obtain ⟨p, hp⟩ := List.getElem?_of_mem ht
    rw [List.getElem?_set] at hp
    split at hp
    · rename_i e
      subst e
      try rw [if_pos hkl] at hp
      injection hp with hp
      subst hp
      refine ⟨?_, hq2, hq3⟩
      have := Whole.set hq1 j (.int .i32 x)
      unfold i32V at this ⊢
      dsimp only
      rw [List.map_set]
      exact this
    · rename_i e
      obtain ⟨a1, a2, a3⟩ := h.at_ t (List.mem_of_getElem? hp)
      refine ⟨?_, a2, a3⟩
      have hne : t.2.2 ≠ q := fun e2 => by
        have hpl := (List.getElem?_eq_some_iff.mp hp).1
        refine e ((List.getElem_inj (i := k) (j := p) (xs := T.map (fun t => t.2.2)) (h₀ := by simpa using hkl) (h₁ := by simpa using hpl) h.nod).mp ?_)
        rw [List.getElem_map, List.getElem_map, (List.getElem?_eq_some_iff.mp hk).2, (List.getElem?_eq_some_iff.mp hp).2]
        exact e2.symm
      exact (Below.heap_setCell w ⟨q, j, none⟩ _ _ hne).trans a1
/-- A region more. -/
theorem PlIn.app {v' : Value} {i q : Nat} {d : List Int} (h : PlIn w B ρ v T) (hg : w.grownBy w' v.ownBlock) (hrow : w'.ownsRow B 31 2 v' (T.length + 1) (plV T ++ plC (i, d, q)))
    (hrole : ∀ b, v'.ownBlock = some b → ρ b = 0) (hq : Whole w' q (i32V d) 21) (hr : ρ q = 0) (hB : B ≤ q) (hn : ∀ t ∈ T, t.2.2 ≠ q) : PlIn w' B ρ v' (T ++ [(i, d, q)]) where
  row := by
    have e : plV (T ++ [(i, d, q)]) = plV T ++ plC (i, d, q) := by rw [plV_app]; unfold plV; simp
    rw [e, List.length_append]
    exact hrow
  role := hrole
  at_ := fun t ht => by
    rcases List.mem_append.mp ht with ht | ht
    · obtain ⟨h1, h2, h3⟩ := h.at_ t ht
      refine ⟨(hg.block _ (Whole.lt h1) (fun e => ?_)).trans h1, h2, h3⟩
      rcases h.row.2 with ⟨hv, _⟩ | ⟨gr, cap, cur, hv, hgr, hh, rest⟩
      · rw [hv] at e; cases e
      · rw [hv] at e
        have e : t.2.2 = gr := by simpa [Value.ownBlock] using e
        unfold Whole at h1
        rw [e, hh] at h1
        injection h1 with h1
        injection h1 with _ h4 _
        cases h4
    · rw [List.mem_singleton] at ht
      subst ht
      exact ⟨hq, hr, hB⟩
  nod := by
    rw [List.map_append, List.nodup_append]
    refine ⟨h.nod, by simp, fun a ha b hb => ?_⟩
    simp at hb
    subst hb
    obtain ⟨t, ht, rfl⟩ := List.mem_map.mp ha
    exact hn t ht
theorem PlIn.app' {v' : Value} {i q : Nat} {d : List Int} {o : Obj} (h : PlIn w B ρ v T) (hg : (w.alloc o).grownBy w' v.ownBlock) (hrow : w'.ownsRow B 31 2 v' (T.length + 1) (plV T ++ plC (i, d, q)))
    (hrole : ∀ b, v'.ownBlock = some b → ρ b = 0) (hq : Whole w' q (i32V d) 21) (hr : ρ q = 0) (hB : B ≤ q) (hn : ∀ t ∈ T, t.2.2 ≠ q) : PlIn w' B ρ v' (T ++ [(i, d, q)]) :=
  (h.keep ((Below.refl _ _).alloc (Nat.le_refl _) o)).app hg hrow hrole hq hr hB hn
theorem grown_farM {o : Obj} {r : Option Nat} {b : Nat} (hg : (w.alloc o).grownBy w' r) (hlt : b < w.heap.size) (hne : r ≠ some b) : w'.heap[b]? = w.heap[b]? :=
  (hg.block b (by simp; omega) (fun e => hne e.symm)).trans (Below.heap_alloc w o b hlt)
theorem own_neM {e k n b : Nat} {xs vs : List Value} {T' : TypeId} (h : w.ownsRow B e k v n xs) (hb : Whole w b vs T') (hT : e ≠ T') : v.ownBlock ≠ some b := fun e' => by
  rcases h.2 with ⟨hv, _⟩ | ⟨gr, cap, cur, hv, hgr, hh, rest⟩
  · rw [hv] at e'; cases e'
  · rw [hv] at e'
    have e2 : gr = b := by simpa [Value.ownBlock] using e'
    unfold Whole at hb
    rw [← e2, hh] at hb
    injection hb with hb
    injection hb with _ h4 _
    exact hT h4
/-- Another row, of some of the regions. -/
theorem PlIn.some_ {v' : Value} {S : List PlT} (h : PlIn w B ρ v T) (hS : S.Sublist T) (hb : Below w.heap.size w w') (hrow : w'.ownsRow B 31 2 v' S.length (plV S)) (hrole : ∀ b, v'.ownBlock = some b → ρ b = 0) : PlIn w' B ρ v' S where
  row := hrow
  role := hrole
  at_ := fun t ht => by
    obtain ⟨h1, h2, h3⟩ := h.at_ t (hS.subset ht)
    exact ⟨h1.keep hb (Whole.lt h1), h2, h3⟩
  nod := (hS.map (fun t => t.2.2)).nodup h.nod
end
end Go.Proofs.Ytmjoollhkjgohaa
