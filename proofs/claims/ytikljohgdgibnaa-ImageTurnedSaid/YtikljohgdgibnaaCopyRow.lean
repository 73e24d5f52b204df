/-
  Rows of the call's own whose elements are turned one by one. Plain definitions and lemmas; no conditions.
-/
import Derived.Test.YtikljohgdgibnaaHole
namespace Go.Proofs.Ytikljohgdgibnaa
set_option maxRecDepth 100000
open Go.ChangeShapes Go.WideShapes Go.ChangeAt Go.RowKit
set_option linter.unusedVariables false

theorem flatten_set {k : Nat} : ∀ (vss : List (List Value)) (i r : Nat) (vs : List Value) (u : Value), (∀ vs ∈ vss, vs.length = k) → vss[i]? = some vs → r < k → vss.flatten.set (i * k + r) u = (vss.set i (vs.set r u)).flatten
  | [], i, r, x, u, _, h, _ => by simp at h
  | y :: l, 0, r, x, u, hf, h, hr => by
    simp at h
    subst h
    have e := hf y List.mem_cons_self
    rw [List.flatten_cons, List.set_append_left _ _ (by omega)]
    simp
  | y :: l, i + 1, r, x, u, hf, h, hr => by
    have e := hf y List.mem_cons_self
    rw [List.flatten_cons, List.set_append_right _ _ (by rw [e, Nat.add_mul]; omega), e]
    rw [show (i + 1) * k + r - k = i * k + r by rw [Nat.add_mul]; omega]
    rw [flatten_set l i r x u (fun vs h => hf vs (List.mem_cons_of_mem _ h)) (by simpa using h) hr]
    simp
theorem flatten_len {k : Nat} : ∀ (vss : List (List Value)), (∀ vs ∈ vss, vs.length = k) → vss.flatten.length = vss.length * k
  | [], _ => by simp
  | y :: l, hf => by
    rw [List.flatten_cons, List.length_append, hf y List.mem_cons_self, flatten_len l fun vs h => hf vs (List.mem_cons_of_mem _ h), List.length_cons, Nat.add_mul]
    omega
/-- A cell of a row of the call's own is turned. -/
theorem own_turn {w : World} {base e k n g c j : Nat} {xs : List Value} (h : w.ownsRow base e k (.slice (some ⟨g, 0, none⟩) n c) n xs) (u : Value) : (w.setCell ⟨g, j, none⟩ u).ownsRow base e k (.slice (some ⟨g, 0, none⟩) n c) n (xs.set j u) := by
  refine ⟨by rw [List.length_set]; exact h.1, ?_⟩
  rcases h.2 with ⟨h1, _⟩ | ⟨g', cap, cur, h1, hb, hh, h2, h3, h4, h5⟩
  · cases h1
  · injection h1 with e1 e2 e3
    simp at e1
    subst e1 e3
    refine .inr ⟨g, c, cur.setIfInBounds j u, rfl, hb, ?_, h2, h3, by simpa using h4, ?_⟩
    · have hlt := lt_of_block hh
      have h' : w.heap[g] = .cells cur e (0, 0) := by simpa [Array.getElem?_eq_getElem hlt] using hh
      show (w.heap.modify g _)[g]? = _
      rw [Array.getElem?_eq_getElem (by simpa using hlt), Array.getElem_modify_self, h']
      simp
    · rw [← h5, Array.toList_setIfInBounds, List.take_set]
theorem own_freeK {w : World} {base e k n g c : Nat} {xs : List Value} (h : w.ownsRow base e k (.slice (some ⟨g, 0, none⟩) n c) n xs) (j : Nat) : w.frozen? ⟨g, j, none⟩ = false ∧ base ≤ g ∧ g < w.heap.size := by
  rcases h.2 with ⟨h1, _⟩ | ⟨g', cap, cur, h1, hb, hh, h2, h3, h4, h5⟩
  · cases h1
  · injection h1 with e1
    simp at e1
    subst e1
    exact ⟨by simp [World.frozen?, hh], hb, lt_of_block hh⟩

theorem own_block_ltK {w : World} {base e k n : Nat} {v : Value} {xs : List Value} (h : w.ownsRow base e k v n xs) : ∀ g, v.ownBlock = some g → g < w.heap.size := fun g hg => (h.lt g hg).2
section
variable {α : Type} (El : ElP α) (Sh : List Value → α → Prop) (e k base : Nat) (v : Value) (l : List α)
/-- The first i elements are of the call's own, the others are as they were copied. -/
def CStep (i : Nat) (w : World) : Prop :=
  ∃ vss : List (List Value), vss.length = l.length ∧ (∀ vs ∈ vss, vs.length = k) ∧ w.ownsRow base e k v l.length vss.flatten ∧
    ∀ (j : Nat) (vs : List Value) (x : α), vss[j]? = some vs → l[j]? = some x → (j < i → El (Hole (rowS base v) w) vs x) ∧ (i ≤ j → Sh vs x)
/-- The same, and element i is being turned: its cells now. -/
def CMid (i : Nat) (cs : List Value) (w : World) : Prop :=
  ∃ vss : List (List Value), vss.length = l.length ∧ (∀ vs ∈ vss, vs.length = k) ∧ w.ownsRow base e k v l.length vss.flatten ∧ vss[i]? = some cs ∧ i < l.length ∧
    ∀ (j : Nat) (vs : List Value) (x : α), vss[j]? = some vs → l[j]? = some x → (j < i → El (Hole (rowS base v) w) vs x) ∧ (i < j → Sh vs x)
end
section
variable {α : Type} {El : ElP α} {Sh : List Value → α → Prop} {e k base : Nat} {v : Value} {l : List α} {i : Nat} {cs : List Value} {w w' : World}
theorem CStep.opened (h : CStep El Sh e k base v l i w) (hi : i < l.length) : ∃ cs, cs.length = k ∧ Sh cs l[i] ∧ CMid El Sh e k base v l i cs w := by
  obtain ⟨vss, h1, h2, h3, h4⟩ := h
  have hv : vss[i]? = some vss[i] := List.getElem?_eq_getElem (by omega)
  exact ⟨vss[i], h2 _ (List.getElem_mem _), (h4 i _ _ hv (List.getElem?_eq_getElem hi)).2 (Nat.le_refl _), vss, h1, h2, h3, hv, hi, fun j vs x hj hx => ⟨(h4 j vs x hj hx).1, fun g => (h4 j vs x hj hx).2 (Nat.le_of_lt g)⟩⟩
theorem CMid.slice (h : CMid El Sh e k base v l i cs w) : ∃ g c, v = .slice (some ⟨g, 0, none⟩) l.length c := by
  obtain ⟨vss, h1, h2, h3, h4, h5, h6⟩ := h
  rcases ownK_slice h3 with ⟨_, hn⟩ | ⟨g, c, rfl, _, _⟩
  · omega
  · exact ⟨g, c, rfl⟩
theorem CMid.len (h : CMid El Sh e k base v l i cs w) : cs.length = k := by
  obtain ⟨vss, h1, h2, h3, h4, h5, h6⟩ := h
  exact h2 _ (List.mem_of_getElem? h4)
theorem CMid.cell {g c : Nat} (h : CMid El Sh e k base (.slice (some ⟨g, 0, none⟩) l.length c) l i cs w) : base ≤ g ∧ g < w.heap.size ∧ (∀ j, w.frozen? ⟨g, j, none⟩ = false) ∧ ∀ (r : Nat) (u : Value), cs[r]? = some u → w.cell? ⟨g, i * k + r, none⟩ = some u := by
  have hl := h.len
  obtain ⟨vss, h1, h2, h3, h4, h5, h6⟩ := h
  refine ⟨(own_freeK h3 0).2.1, (own_freeK h3 0).2.2, fun j => (own_freeK h3 j).1, fun r u hu => ?_⟩
  have hr : r < k := by
    rcases Nat.lt_or_ge r k with g | g
    · exact g
    · rw [List.getElem?_eq_none (by omega)] at hu; cases hu
  exact ((ownK_cell h3).2 _ u (by rw [flatten_get vss i r cs h2 h4 hr]; exact hu)).1
theorem CMid.turn {g c r : Nat} (h : CMid El Sh e k base (.slice (some ⟨g, 0, none⟩) l.length c) l i cs w) (hM : EMono El) (hr : r < k) (u : Value) : CMid El Sh e k base (.slice (some ⟨g, 0, none⟩) l.length c) l i (cs.set r u) (w.setCell ⟨g, i * k + r, none⟩ u) := by
  have hl := h.len
  obtain ⟨vss, h1, h2, h3, h4, h5, h6⟩ := h
  refine ⟨vss.set i (cs.set r u), by simpa using h1, fun vs hvs => ?_, by rw [← flatten_set vss i r cs u h2 h4 hr]; exact own_turn h3 u, by rw [List.getElem?_set_self (by omega)], h5, fun j vs x hj hx => ?_⟩
  · rcases List.mem_or_eq_of_mem_set hvs with h | h
    · exact h2 _ h
    · subst h; simpa using hl
  · refine ⟨fun g' => ?_, fun g' => ?_⟩
    · rw [List.getElem?_set_ne (by omega)] at hj
      refine elHole hM ((h6 j vs x hj hx).1 g') (by simp) fun b hb hs => ⟨hs, Below.heap_setCell _ _ _ _ ?_⟩
      have := (rowS_no.mp hs).2
      intro e
      exact this (by simp [Value.ownBlock, e])
    · rw [List.getElem?_set_ne (by omega)] at hj
      exact (h6 j vs x hj hx).2 g'
theorem CMid.keep (h : CMid El Sh e k base v l i cs w) (hM : EMono El) (hb : Below w.heap.size w w') : CMid El Sh e k base v l i cs w' := by
  obtain ⟨vss, h1, h2, h3, h4, h5, h6⟩ := h
  exact ⟨vss, h1, h2, own_below h3 hb (own_block_ltK h3), h4, h5, fun j vs x hj hx => ⟨fun g => elHole hM ((h6 j vs x hj hx).1 g) hb.size fun b hb' hs => ⟨hs, hb.block b hb'⟩, (h6 j vs x hj hx).2⟩⟩
theorem CMid.closed (h : CMid El Sh e k base v l i cs w) (hE : ∀ x, l[i]? = some x → El (Hole (rowS base v) w) cs x) : CStep El Sh e k base v l (i + 1) w := by
  obtain ⟨vss, h1, h2, h3, h4, h5, h6⟩ := h
  refine ⟨vss, h1, h2, h3, fun j vs x hj hx => ⟨fun g => ?_, fun g => (h6 j vs x hj hx).2 (by omega)⟩⟩
  rcases Nat.lt_or_eq_of_le (Nat.le_of_lt_succ g) with g' | g'
  · exact (h6 j vs x hj hx).1 g'
  · subst g'
    rw [h4] at hj
    injection hj with hj
    subst hj
    exact hE x hx
theorem CStep.keep (h : CStep El Sh e k base v l i w) (hM : EMono El) (hb : Below w.heap.size w w') : CStep El Sh e k base v l i w' := by
  obtain ⟨vss, h1, h2, h3, h6⟩ := h
  exact ⟨vss, h1, h2, own_below h3 hb (own_block_ltK h3), fun j vs x hj hx => ⟨fun g => elHole hM ((h6 j vs x hj hx).1 g) hb.size fun b hb' hs => ⟨hs, hb.block b hb'⟩, (h6 j vs x hj hx).2⟩⟩
/-- A cell elsewhere, in none of the row's blocks, is turned. -/
theorem CStep.other (h : CStep El Sh e k base v l i w) (hM : EMono El) {a : Addr} (ha : a.block < base) (u : Value) : CStep El Sh e k base v l i (w.setCell a u) := by
  obtain ⟨vss, h1, h2, h3, h6⟩ := h
  refine ⟨vss, h1, h2, ⟨h3.1, ?_⟩, fun j vs x hj hx => ⟨fun g => elHole hM ((h6 j vs x hj hx).1 g) (by simp) fun b hb' hs => ⟨hs, Below.heap_setCell _ _ _ _ (by have := (rowS_no.mp hs).1; omega)⟩, (h6 j vs x hj hx).2⟩⟩
  rcases h3.2 with h0 | ⟨g, cap, cur, hv, hb, hh, rest⟩
  · exact .inl h0
  · exact .inr ⟨g, cap, cur, hv, hb, by rw [Below.heap_setCell _ _ _ _ (by omega)]; exact hh, rest⟩
theorem CStep.done (h : CStep El Sh e k base v l i w) (hi : l.length ≤ i) : RowEl El w base e k v l := by
  obtain ⟨vss, h1, h2, h3, h6⟩ := h
  refine ⟨vss, h1, h2, h3, fun j vs x hj hx => (h6 j vs x hj hx).1 ?_⟩
  rcases Nat.lt_or_ge j l.length with g | g
  · omega
  · rw [List.getElem?_eq_none g] at hx; cases hx
end
end Go.Proofs.Ytikljohgdgibnaa
