/-
  Fixed arenas as plain data: regions one behind the other, what giving and dropping one does. Plain definitions and lemmas; no conditions.
-/
import Derived.RowKit
namespace Go.Proofs.Ytmjoollhkjgohaa
set_option maxRecDepth 100000
set_option linter.unusedVariables false
set_option linter.unusedSimpArgs false
set_option linter.unusedVariables false

/-- Where cells of the heap lie. -/
structure Rgn where
  there : Bool
  place : Nat
  cells : Nat
/-- Arenas: the stack's cells, the heap's, the regions by their numbers. -/
structure Ara where
  st : List Int
  hp : List Int
  rg : List Rgn
  used : Nat
  least : Nat
/-- The cells of all regions, one behind the other. -/
def flatR (L : List (Nat × List Int)) : List Int := (L.map (fun x => x.2)).flatten
/-- Where a region begins. -/
def posR (L : List (Nat × List Int)) (k : Nat) : Nat := (flatR (L.take k)).length
def hasR (L : List (Nat × List Int)) (n : Nat) : Prop := ∃ (k : Nat) (c : List Int), L[k]? = some (n, c)
theorem flatR_app (L M : List (Nat × List Int)) : flatR (L ++ M) = flatR L ++ flatR M := by simp [flatR]
theorem flatR_one (x : Nat × List Int) : flatR [x] = x.2 := by simp [flatR]
theorem flatR_cons (x : Nat × List Int) (M : List (Nat × List Int)) : flatR (x :: M) = x.2 ++ flatR M := by simp [flatR]
theorem split_at {α : Type} {L : List α} {k : Nat} {x : α} (h : L[k]? = some x) : L = L.take k ++ x :: L.drop (k + 1) ∧ k < L.length := by
  obtain ⟨hk, e⟩ := List.getElem?_eq_some_iff.mp h
  refine ⟨?_, hk⟩
  rw [← e, List.getElem_cons_drop, List.take_append_drop]
theorem flatR_split {L : List (Nat × List Int)} {k n : Nat} {c : List Int} (h : L[k]? = some (n, c)) : flatR L = flatR (L.take k) ++ (c ++ flatR (L.drop (k + 1))) := by
  have := (split_at h).1
  rw [this, flatR_app, flatR_cons]
  rw [← this]
theorem posR_len (L : List (Nat × List Int)) : posR L L.length = (flatR L).length := by unfold posR; rw [List.take_length]
theorem posR_le {L : List (Nat × List Int)} {k n : Nat} {c : List Int} (h : L[k]? = some (n, c)) : posR L k + c.length ≤ (flatR L).length := by
  rw [flatR_split h, List.length_append, List.length_append]
  unfold posR
  omega
theorem posR_succ {L : List (Nat × List Int)} {k n : Nat} {c : List Int} (h : L[k]? = some (n, c)) : posR L (k + 1) = posR L k + c.length := by
  obtain ⟨hk, e⟩ := List.getElem?_eq_some_iff.mp h
  unfold posR
  rw [List.take_succ_eq_append_getElem hk, flatR_app, flatR_one, List.length_append, e]
theorem posR_mono (L : List (Nat × List Int)) : ∀ {k j : Nat}, k ≤ j → posR L k ≤ posR L j := fun {k j} h => by
  unfold posR
  obtain ⟨d, rfl⟩ : ∃ d, j = k + d := ⟨j - k, by omega⟩
  rw [List.take_add, flatR_app, List.length_append]
  omega
theorem posR_app {L : List (Nat × List Int)} {k : Nat} (M : List (Nat × List Int)) (h : k ≤ L.length) : posR (L ++ M) k = posR L k := by
  unfold posR
  rw [List.take_append_of_le_length h]
theorem flatR_at {L : List (Nat × List Int)} {k n j : Nat} {c : List Int} (h : L[k]? = some (n, c)) (hj : j < c.length) : (flatR L)[posR L k + j]? = c[j]? := by
  rw [flatR_split h]
  unfold posR
  rw [List.getElem?_append_right (by omega), List.getElem?_append_left (by omega)]
  congr 1
  omega
theorem flatR_set {L : List (Nat × List Int)} {k n j : Nat} {c : List Int} (h : L[k]? = some (n, c)) (hj : j < c.length) (v : Int) : flatR (L.set k (n, c.set j v)) = (flatR L).set (posR L k + j) v := by
  obtain ⟨e, hk⟩ := split_at h
  rw [flatR_split h]
  have h2 : (L.set k (n, c.set j v))[k]? = some (n, c.set j v) := by rw [List.getElem?_set_self hk]
  rw [flatR_split h2, List.take_set_of_le (Nat.le_refl _), List.drop_set_of_lt (by omega)]
  unfold posR
  rw [List.set_append_right _ _ (by omega), List.set_append_left _ _ (by omega)]
  congr 3
  omega
theorem posR_set {L : List (Nat × List Int)} {k n : Nat} {c d : List Int} (h : L[k]? = some (n, c)) (hd : d.length = c.length) (i : Nat) : posR (L.set k (n, d)) i = posR L i := by
  obtain ⟨e, hk⟩ := split_at h
  unfold posR flatR
  rw [List.length_flatten, List.length_flatten]
  congr 1
  simp only [List.map_take, List.map_map, List.map_set]
  congr 1
  refine List.ext_getElem? fun q => ?_
  rw [List.getElem?_set]
  split
  · rename_i e2
    subst e2
    rw [if_pos (by simpa using hk), List.getElem?_map, h]
    simp [hd]
  · rfl

/-- What stands in the arenas: these regions, in this order. -/
structure OrdM (S : Ara) (L : List (Nat × List Int)) : Prop where
  hp : ∃ rest, S.hp = flatR L ++ rest
  used : S.used = (flatR L).length
  at_ : ∀ (k id : Nat) (c : List Int), L[k]? = some (id, c) → S.rg[id]? = some ⟨true, posR L k, c.length⟩
  there : ∀ (n : Nat) (r : Rgn), S.rg[n]? = some r → r.there = true → hasR L n
  gone : ∀ (n : Nat) (r : Rgn), S.rg[n]? = some r → r.there = false → r = ⟨false, 0, 0⟩
  nod : (L.map (fun x => x.1)).Nodup
  least : ∀ n, n < S.least → hasR L n
theorem OrdM.start (st hp : List Int) : OrdM ⟨st, hp, [], 0, 0⟩ [] where
  hp := ⟨hp, rfl⟩
  used := rfl
  at_ := fun k id c h => by simp at h
  there := fun n r h => by simp at h
  gone := fun n r h => by simp at h
  nod := List.nodup_nil
  least := fun n h => absurd h (Nat.not_lt_zero n)
theorem OrdM.used_le {S : Ara} {L : List (Nat × List Int)} (h : OrdM S L) : S.used ≤ S.hp.length := by
  obtain ⟨rest, e⟩ := h.hp
  rw [h.used, e, List.length_append]
  omega
theorem OrdM.uniq {S : Ara} {L : List (Nat × List Int)} (h : OrdM S L) {k j n : Nat} {c d : List Int} (hk : L[k]? = some (n, c)) (hj : L[j]? = some (n, d)) : k = j := by
  obtain ⟨a, ea⟩ := List.getElem?_eq_some_iff.mp hk
  obtain ⟨b, eb⟩ := List.getElem?_eq_some_iff.mp hj
  refine (List.getElem_inj (i := k) (j := j) (xs := L.map (fun x => x.1)) (h₀ := by simpa using a) (h₁ := by simpa using b) h.nod).mp ?_
  rw [List.getElem_map, List.getElem_map, ea, eb]
theorem OrdM.id_lt {S : Ara} {L : List (Nat × List Int)} (h : OrdM S L) {n : Nat} (hn : hasR L n) : n < S.rg.length := by
  obtain ⟨k, c, hk⟩ := hn
  exact (List.getElem?_eq_some_iff.mp (h.at_ k n c hk)).1
theorem OrdM.least_le {S : Ara} {L : List (Nat × List Int)} (h : OrdM S L) : S.least ≤ S.rg.length := by
  rcases Nat.eq_zero_or_pos S.least with e | e
  · omega
  · have := h.id_lt (h.least (S.least - 1) (by omega))
    omega
/-- What a number's region is. -/
theorem OrdM.none_ {S : Ara} {L : List (Nat × List Int)} (h : OrdM S L) {n : Nat} (hn : ¬ hasR L n) (hl : n < S.rg.length) : S.rg[n]? = some ⟨false, 0, 0⟩ := by
  have hg : S.rg[n]? = some S.rg[n] := List.getElem?_eq_getElem hl
  cases ht : S.rg[n].there with
  | true => exact absurd (h.there n _ hg ht) hn
  | false => rw [hg, h.gone n _ hg ht]
/-- A region more. -/
theorem OrdM.give {S : Ara} {L : List (Nat × List Int)} (h : OrdM S L) {id n : Nat} {rg' : List Rgn} (hid : ¬ hasR L id) (hlow : ∀ m, m < id → hasR L m) (hn : S.used + n ≤ S.hp.length)
    (hr1 : rg'[id]? = some ⟨true, S.used, n⟩) (hr2 : ∀ m, m ≠ id → rg'[m]? = S.rg[m]?) :
    OrdM ⟨S.st, S.hp.take S.used ++ (List.replicate n 0 ++ S.hp.drop (S.used + n)), rg', S.used + n, id⟩ (L ++ [(id, List.replicate n 0)]) where
  hp := by
    obtain ⟨rest, e⟩ := h.hp
    refine ⟨S.hp.drop (S.used + n), ?_⟩
    dsimp only
    rw [flatR_app, flatR_one, List.append_assoc, h.used, e, List.take_left']
    rfl
  used := by
    dsimp only
    rw [flatR_app, flatR_one, List.length_append, List.length_replicate, h.used]
  at_ := fun k i c hk => by
    dsimp only
    rcases Nat.lt_or_ge k L.length with q | q
    · rw [List.getElem?_append_left q] at hk
      have hne : i ≠ id := fun e => hid ⟨k, c, e ▸ hk⟩
      rw [hr2 i hne, h.at_ k i c hk, posR_app _ (by omega)]
    · have hk' : k < (L ++ [(id, List.replicate n 0)]).length := (List.getElem?_eq_some_iff.mp hk).1
      have : k = L.length := by simp at hk'; omega
      subst this
      rw [List.getElem?_append_right (Nat.le_refl _), Nat.sub_self] at hk
      simp at hk
      obtain ⟨rfl, rfl⟩ := hk
      rw [hr1, posR_app _ (Nat.le_refl _), posR_len, h.used, List.length_replicate]
  there := fun m r hm ht => by
    by_cases e : m = id
    · subst e
      exact ⟨L.length, List.replicate n 0, by rw [List.getElem?_append_right (Nat.le_refl _), Nat.sub_self]; rfl⟩
    · dsimp only at hm
      rw [hr2 m e] at hm
      obtain ⟨k, c, hk⟩ := h.there m r hm ht
      exact ⟨k, c, by rw [List.getElem?_append_left (List.getElem?_eq_some_iff.mp hk).1]; exact hk⟩
  gone := fun m r hm ht => by
    dsimp only at hm
    by_cases e : m = id
    · subst e
      rw [hr1] at hm
      injection hm with hm
      subst hm
      cases ht
    · rw [hr2 m e] at hm
      exact h.gone m r hm ht
  nod := by
    rw [List.map_append, List.nodup_append]
    refine ⟨h.nod, by simp, fun a ha b hb => ?_⟩
    simp at hb
    subst hb
    obtain ⟨x, hx, rfl⟩ := List.mem_map.mp ha
    intro e
    obtain ⟨k, hk⟩ := List.getElem?_of_mem hx
    exact hid ⟨k, x.2, by rw [← e]; exact hk⟩
  least := fun m hm => by
    obtain ⟨k, c, hk⟩ := hlow m hm
    exact ⟨k, c, by rw [List.getElem?_append_left (List.getElem?_eq_some_iff.mp hk).1]; exact hk⟩
/-- A cell of a region is turned. -/
theorem OrdM.put {S : Ara} {L : List (Nat × List Int)} (h : OrdM S L) {k n j : Nat} {c : List Int} (hk : L[k]? = some (n, c)) (hj : j < c.length) (v : Int) : OrdM { S with hp := S.hp.set (posR L k + j) v } (L.set k (n, c.set j v)) := by
  have hkl := (List.getElem?_eq_some_iff.mp hk).1
  have hids : (L.set k (n, c.set j v)).map (fun x => x.1) = L.map (fun x => x.1) := by
    rw [List.map_set]
    refine List.ext_getElem? fun q => ?_
    rw [List.getElem?_set]
    split
    · rename_i e2
      subst e2
      rw [if_pos (by simpa using hkl), List.getElem?_map, hk]
      rfl
    · rfl
  have hlen : (c.set j v).length = c.length := List.length_set
  have hhas : ∀ m, hasR L m → hasR (L.set k (n, c.set j v)) m := fun m ⟨i, d, hi⟩ => by
    by_cases e : k = i
    · subst e
      rw [hk] at hi
      injection hi with hi
      injection hi with h1 h2
      subst h1
      exact ⟨k, _, List.getElem?_set_self hkl⟩
    · exact ⟨i, d, by rw [List.getElem?_set, if_neg e]; exact hi⟩
  exact {
    hp := by
      obtain ⟨rest, e⟩ := h.hp
      refine ⟨rest, ?_⟩
      have hle := posR_le hk
      dsimp only
      rw [flatR_set hk hj, e, List.set_append_left _ _ (by omega)]
    used := by dsimp only; rw [flatR_set hk hj, List.length_set]; exact h.used
    at_ := fun i id d hi => by
      dsimp only
      rw [posR_set hk hlen]
      rw [List.getElem?_set] at hi
      split at hi
      · rename_i e2
        subst e2
        try rw [if_pos hkl] at hi
        injection hi with hi
        injection hi with h1 h2
        subst h1 h2
        rw [h.at_ k _ _ hk, hlen]
      · exact h.at_ i id d hi
    there := fun m r hm ht => hhas m (h.there m r hm ht)
    gone := h.gone
    nod := by rw [hids]; exact h.nod
    least := fun m hm => hhas m (h.least m hm) }
theorem erase_at {α : Type} {L : List α} {k : Nat} (hk : k < L.length) (i : Nat) : (L.eraseIdx k)[i]? = if i < k then L[i]? else L[i + 1]? := by
  rw [List.getElem?_eraseIdx]
theorem posR_erase_lt {L : List (Nat × List Int)} {k i : Nat} (h : i ≤ k) : posR (L.eraseIdx k) i = posR L i := by
  unfold posR
  rw [List.eraseIdx_eq_take_drop_succ]
  rcases Nat.le_total L.length k with q | q
  · rw [List.take_of_length_le q, List.drop_eq_nil_of_le (by omega), List.append_nil]
  · rw [List.take_append_of_le_length (by rw [List.length_take]; omega), List.take_take, Nat.min_eq_left h]
theorem posR_erase_ge {L : List (Nat × List Int)} {k n i : Nat} {c : List Int} (hk : L[k]? = some (n, c)) (h : k ≤ i) : posR (L.eraseIdx k) i + c.length = posR L (i + 1) := by
  have hkl := (List.getElem?_eq_some_iff.mp hk).1
  unfold posR
  obtain ⟨d, rfl⟩ : ∃ d, i = k + d := ⟨i - k, by omega⟩
  have e1 : (L.eraseIdx k).take (k + d) = L.take k ++ (L.drop (k + 1)).take d := by
    rw [List.eraseIdx_eq_take_drop_succ, List.take_append, List.take_take, List.length_take, show min (k + d) k = k by omega, show k + d - min k L.length = d by omega]
  have e2 : L.take (k + d + 1) = L.take k ++ (n, c) :: (L.drop (k + 1)).take d := by
    conv => lhs; rw [(split_at hk).1]
    rw [List.take_append, List.length_take, List.take_of_length_le (by rw [List.length_take]; omega), show k + d + 1 - min k L.length = d + 1 by omega, List.take_succ_cons]
  rw [e1, e2, flatR_app, flatR_app, flatR_cons, List.length_append, List.length_append, List.length_append]
  dsimp only
  omega
/-- What dropping a region does to the others' places. -/
def backR (p m : Nat) (r : Rgn) : Rgn := if p < r.place then ⟨r.there, r.place - m, r.cells⟩ else r
theorem OrdM.drop {S : Ara} {L : List (Nat × List Int)} (h : OrdM S L) {k n : Nat} {c : List Int} (hk : L[k]? = some (n, c)) :
    OrdM ⟨S.st, S.hp.take (posR L k) ++ ((S.hp.drop (posR L k + c.length)).take (S.used - (posR L k + c.length)) ++ S.hp.drop (posR L k + (S.used - (posR L k + c.length)))), (S.rg.set n ⟨false, 0, 0⟩).map (backR (posR L k) c.length), S.used - c.length, min S.least n⟩ (L.eraseIdx k) := by
  have hkl := (List.getElem?_eq_some_iff.mp hk).1
  have hle := posR_le hk
  have hnl := h.id_lt ⟨k, c, hk⟩
  have hfl : flatR (L.eraseIdx k) = flatR (L.take k) ++ flatR (L.drop (k + 1)) := by rw [List.eraseIdx_eq_take_drop_succ, flatR_app]
  have hpk : posR L k = (flatR (L.take k)).length := rfl
  have hsp := flatR_split hk
  have hlen := congrArg List.length hsp
  rw [List.length_append, List.length_append, ← hpk] at hlen
  have hother : ∀ i id d, (L.eraseIdx k)[i]? = some (id, d) → id ≠ n ∧ ∃ i', L[i']? = some (id, d) ∧ ((i < k ∧ i' = i) ∨ (k ≤ i ∧ i' = i + 1)) := fun i id d hi => by
    rw [erase_at hkl] at hi
    split at hi
    · exact ⟨fun e => by subst e; have := h.uniq hi hk; omega, i, hi, .inl ⟨by omega, rfl⟩⟩
    · exact ⟨fun e => by subst e; have := h.uniq hi hk; omega, i + 1, hi, .inr ⟨by omega, rfl⟩⟩
  have hstay : ∀ m, m ≠ n → hasR L m → hasR (L.eraseIdx k) m := fun m hm ⟨i, d, hi⟩ => by
    have hik : i ≠ k := fun e => by
      subst e
      rw [hk] at hi
      injection hi with hi
      injection hi with h1 _
      exact hm h1.symm
    rcases Nat.lt_or_gt_of_ne hik with q | q
    · exact ⟨i, d, by rw [erase_at hkl, if_pos q]; exact hi⟩
    · refine ⟨i - 1, d, ?_⟩
      rw [erase_at hkl, if_neg (by omega), show i - 1 + 1 = i by omega]
      exact hi
  have hrg : ∀ m r, ((S.rg.set n ⟨false, 0, 0⟩).map (backR (posR L k) c.length))[m]? = some r → (m = n ∧ r = ⟨false, 0, 0⟩) ∨ (m ≠ n ∧ ∃ r0, S.rg[m]? = some r0 ∧ r = backR (posR L k) c.length r0) := fun m r hm => by
    rw [List.getElem?_map, List.getElem?_set] at hm
    split at hm
    · rename_i e
      subst e
      try rw [if_pos hnl] at hm
      simp [backR] at hm
      exact .inl ⟨rfl, hm.symm⟩
    · rename_i e
      cases hr : S.rg[m]? with
      | none => rw [hr] at hm; cases hm
      | some r0 => rw [hr] at hm; simp at hm; exact .inr ⟨fun e' => e e'.symm, r0, rfl, hm.symm⟩
  exact {
    hp := by
      obtain ⟨rest, e⟩ := h.hp
      refine ⟨S.hp.drop (posR L k + (S.used - (posR L k + c.length))), ?_⟩
      dsimp only
      have e1 : S.hp.take (posR L k) = flatR (L.take k) := by rw [e, hsp, hpk, List.append_assoc, List.take_left']; rfl
      have e2 : (S.hp.drop (posR L k + c.length)).take (S.used - (posR L k + c.length)) = flatR (L.drop (k + 1)) := by
        have : S.hp = (flatR (L.take k) ++ c) ++ (flatR (L.drop (k + 1)) ++ rest) := by rw [e, hsp]; simp [List.append_assoc]
        rw [this, List.drop_left' (by rw [List.length_append, hpk]), List.take_left' (by rw [h.used]; omega)]
      rw [e1, e2, hfl, List.append_assoc]
    used := by
      dsimp only
      rw [hfl, List.length_append, h.used, ← hpk]
      omega
    at_ := fun i id d hi => by
      obtain ⟨hne, i', hi', ho⟩ := hother i id d hi
      dsimp only
      rw [List.getElem?_map, List.getElem?_set, if_neg (fun e => hne e.symm), h.at_ i' id d hi']
      simp only [Option.map_some, Option.some.injEq]
      unfold backR
      dsimp only
      rcases ho with ⟨q, rfl⟩ | ⟨q, rfl⟩
      · rw [posR_erase_lt (by omega), if_neg (by have := posR_mono L (show i' ≤ k by omega); omega)]
      · have := posR_erase_ge hk q
        have hm := posR_mono L (show k + 1 ≤ i + 1 by omega)
        rw [posR_succ hk] at hm
        split
        · congr 1
          omega
        · congr 1
          omega
    there := fun m r hm ht => by
      rcases hrg m r hm with ⟨_, rfl⟩ | ⟨hne, r0, h0, rfl⟩
      · cases ht
      · refine hstay m hne (h.there m r0 h0 ?_)
        unfold backR at ht
        split at ht <;> exact ht
    gone := fun m r hm ht => by
      rcases hrg m r hm with ⟨_, rfl⟩ | ⟨hne, r0, h0, rfl⟩
      · rfl
      · have ht0 : r0.there = false := by
          unfold backR at ht
          split at ht <;> exact ht
        rw [h.gone m r0 h0 ht0]
        simp [backR]
    nod := by
      have := h.nod
      exact (List.eraseIdx_sublist L k).map (fun x => x.1) |>.nodup this
    least := fun m hm => by
      have hm' : m < min S.least n := hm
      exact hstay m (by omega) (h.least m (by omega)) }
theorem OrdM.fit {S : Ara} {L : List (Nat × List Int)} (h : OrdM S L) {i : Nat} {r : Rgn} (hr : S.rg[i]? = some r) : r.place + r.cells ≤ S.used := by
  cases ht : r.there with
  | true =>
    obtain ⟨k, c, hk⟩ := h.there i r hr ht
    have e := h.at_ k i c hk
    rw [hr] at e
    injection e with e
    subst e
    have := posR_le hk
    rw [h.used]
    exact this
  | false =>
    rw [h.gone i r hr ht]
    exact Nat.zero_le _
theorem OrdM.far {S : Ara} {L : List (Nat × List Int)} (h : OrdM S L) {k n i : Nat} {c : List Int} {r : Rgn} (hk : L[k]? = some (n, c)) (hr : S.rg[i]? = some r) (hp : posR L k < r.place) : posR L k + c.length ≤ r.place := by
  cases ht : r.there with
  | true =>
    obtain ⟨j, d, hj⟩ := h.there i r hr ht
    have e := h.at_ j i d hj
    rw [hr] at e
    injection e with e
    subst e
    dsimp only at hp ⊢
    rcases Nat.lt_or_ge k j with q | q
    · have := posR_mono L (show k + 1 ≤ j by omega)
      rw [posR_succ hk] at this
      exact this
    · have := posR_mono L q
      omega
  | false =>
    rw [h.gone i r hr ht] at hp
    exact absurd hp (Nat.not_lt_zero _)
/-- Regions of which the first so many stand at their new places. -/
def doneR (p m : Nat) (l : List Rgn) (i : Nat) : List Rgn := (l.take i).map (backR p m) ++ l.drop i
theorem doneR_zero (p m : Nat) (l : List Rgn) : doneR p m l 0 = l := rfl
theorem doneR_all (p m : Nat) (l : List Rgn) : doneR p m l l.length = l.map (backR p m) := by unfold doneR; rw [List.take_length, List.drop_length, List.append_nil]
theorem doneR_len (p m : Nat) (l : List Rgn) (i : Nat) : (doneR p m l i).length = l.length := by unfold doneR; rw [List.length_append, List.length_map, List.length_take, List.length_drop]; omega
theorem doneR_at {p m : Nat} {l : List Rgn} {i : Nat} {r : Rgn} (h : l[i]? = some r) : (doneR p m l i)[i]? = some r := by
  have hi := (List.getElem?_eq_some_iff.mp h).1
  unfold doneR
  rw [List.getElem?_append_right (by rw [List.length_map, List.length_take]; omega), List.length_map, List.length_take, show i - min i l.length = 0 by omega, List.getElem?_drop, Nat.add_zero]
  exact h
theorem doneR_succ {p m : Nat} {l : List Rgn} {i : Nat} {r : Rgn} (h : l[i]? = some r) : doneR p m l (i + 1) = (doneR p m l i).set i (backR p m r) := by
  obtain ⟨hi, e⟩ := List.getElem?_eq_some_iff.mp h
  unfold doneR
  rw [List.set_append_right _ _ (by rw [List.length_map, List.length_take]; omega), List.length_map, List.length_take, show i - min i l.length = 0 by omega, List.take_succ_eq_append_getElem hi, List.map_append, e, List.append_assoc]
  congr 1
  rw [← List.getElem_cons_drop hi]
  rfl
theorem set_self {α : Type} {l : List α} {i : Nat} {x : α} (h : l[i]? = some x) : l.set i x = l := by
  refine List.ext_getElem? fun j => ?_
  rw [List.getElem?_set]
  split
  · rename_i e
    subst e
    rw [if_pos (List.getElem?_eq_some_iff.mp h).1, h]
  · rfl
end Go.Proofs.Ytmjoollhkjgohaa
