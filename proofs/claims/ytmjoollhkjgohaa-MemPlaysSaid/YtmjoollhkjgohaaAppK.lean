/-
  Rows of the call's own of things of some cells each: append onto them, and what they read as. Plain lemmas; no conditions.
-/
import Derived.Test.YtmjoollhkjgohaaRow
import Derived.Test.YtmjoollhkjgohaaRows
import Derived.ProofKit
import Derived.OpenShut
import Derived.ArgAppend
import Derived.OwnWalk
import Derived.Deep.RegionHeld3
namespace Go.Proofs.Ytmjoollhkjgohaa
set_option maxRecDepth 100000
set_option linter.unusedVariables false
set_option linter.unusedSimpArgs false
open Go.ChangeShapes Go.WideShapes Go.ChangeAt Go.RowKit
set_option linter.unusedVariables false

theorem run_append_owned_nil {P : Program} {w : World} (base : Nat) (t ty e : TypeId) (i : TypeInfo) (size c : Nat) (ht : P.underlying t = some (.slice e)) (hi : P.info? e = some i)
    (v : Value) (n : Nat) (xs : List Value) (hown : w.ownsRow base e size v n xs) :
    (Builtin.append_ #[t, t] ty #[v, .slice none 0 c]).run P w = .ok v w := by
  rcases hown.2 with ⟨rfl, rfl⟩ | ⟨g, cap, cur, rfl, _, _, hnc, _⟩
  · simp [Builtin.append_, run_underlying ht, sizeOf, typeInfo, hi, Builtin.lenOf, Builtin.firstCells]
  · simp [Builtin.append_, run_underlying ht, sizeOf, typeInfo, hi, Builtin.lenOf, Builtin.firstCells, hnc, storeCells]
/-- append onto a row of the call's own, of whatever lies behind a slice, nil or not: at the operation, for things of any size. -/
theorem wp_appK {P : Program} {w : World} {o : Oper} {a : Act} {K : Act → World → Prop} {Q : Exit → Act → World → Prop} (s x : Operand) (t : TypeId)
    (ho : o.op = .call { callee := .builtin .append, args := #[s, x], argTypes := #[t, t] })
    (base : Nat) (e : TypeId) (i : TypeInfo) (z : Value) (size bytes : Nat) (ht : P.underlying t = some (.slice e)) (hi : P.info? e = some i) (hz : i.zero = some z)
    (hsize : i.size = size) (hby : i.bytes = bytes) (hzs : z.cells.size = size) (hsz : 0 < size)
    (v : Value) (n : Nat) (xs : List Value) (hs : a.eval s = v) (hown : w.ownsRow base e size v n xs)
    (A : Option Addr) (m c B : Nat) (news : List Value) (hm : news.length = m * size) (hx : a.eval x = .slice A m c) (hl : Lies w B A news) (h1 : ∀ u ∈ news, u.oneCell' = true)
    (h63 : n + m ≤ maxLen) (hbytes : (n + m) * bytes ≤ 140737488355328) (hbase : base ≤ w.heap.size)
    (h : ∀ v' w', w'.ownsRow base e size v' (n + m) (xs ++ news) → w.grownBy w' v.ownBlock → K (a.put o.dst v') w') : o.wp P a w K Q := by
  rcases A with _ | ad
  · have hn : news = [] := by
      cases news with
      | nil => rfl
      | cons b r =>
        obtain ⟨ad, e, _⟩ := hl 0 b rfl
        cases e
    subst hn
    have hm0 : m = 0 := by
      rcases Nat.eq_zero_or_pos m with g | g
      · exact g
      · have : 0 < m * size := Nat.mul_pos g hsz
        simp at hm
        omega
    subst hm0
    have hrun := run_append_owned_nil (P := P) (w := w) base t o.type e i size c ht hi v n xs hown
    have hk := h v w (by simpa using hown) (World.grownBy.refl _ _)
    unfold Oper.wp
    simp [execOp, ho, resolve, invoke, builtin, hs, hx, hrun, Result.andThen]
    exact hk
  · refine wp_append_own w s x t ho base e i z size bytes ht hi hz hsize hby hzs hsz v n xs hs hown ad m c news hx hm (fun j u hu => ?_) h1 h63 hbytes hbase fun v' w' h2 h3 _ => h v' w' h2 h3
    obtain ⟨ad', e, _, hc⟩ := hl j u hu
    injection e with e
    subst e
    exact hc
theorem append_liesK {P : Program} {w : World} {ops : Array Oper} {rest : List Oper} {o : Oper} {a : Act} {Q : Exit → Act → World → Prop} (hgd : o.guard = none) (s x : Operand) (t : TypeId)
    (ho : o.op = .call { callee := .builtin .append, args := #[s, x], argTypes := #[t, t] })
    (base : Nat) (e : TypeId) (i : TypeInfo) (z : Value) (size bytes : Nat) (ht : P.underlying t = some (.slice e)) (hi : P.info? e = some i) (hz : i.zero = some z)
    (hsize : i.size = size) (hby : i.bytes = bytes) (hzs : z.cells.size = size) (hsz : 0 < size)
    (v : Value) (n : Nat) (xs : List Value) (hs : a.eval s = v) (hown : w.ownsRow base e size v n xs)
    (A : Option Addr) (m c B : Nat) (news : List Value) (hm : news.length = m * size) (hx : a.eval x = .slice A m c) (hl : Lies w B A news) (h1 : ∀ u ∈ news, u.oneCell' = true)
    (h63 : n + m ≤ maxLen) (hbytes : (n + m) * bytes ≤ 140737488355328) (hbase : base ≤ w.heap.size)
    (h : ∀ v' w', w'.ownsRow base e size v' (n + m) (xs ++ news) → w.grownBy w' v.ownBlock → wpList P ops Q rest (a.put o.dst v') w') : wpList P ops Q (o :: rest) a w :=
  wpList_plain hgd fun _ hK => wp_appK s x t ho base e i z size bytes ht hi hz hsize hby hzs hsz v n xs hs hown A m c B news hm hx hl h1 h63 hbytes hbase fun v' w' h2 h3 => hK _ _ (h v' w' h2 h3)
theorem step_appK {P : Program} {w : World} {ops : Array Oper} {o : Oper} {a : Act} {K : Act → World → Prop} {Q : Exit → Act → World → Prop} {E : Prop} (hgd : o.guard = none) (s x : Operand) (t : TypeId)
    (ho : o.op = .call { callee := .builtin .append, args := #[s, x], argTypes := #[t, t] })
    (base : Nat) (e : TypeId) (i : TypeInfo) (z : Value) (size bytes : Nat) (ht : P.underlying t = some (.slice e)) (hi : P.info? e = some i) (hz : i.zero = some z)
    (hsize : i.size = size) (hby : i.bytes = bytes) (hzs : z.cells.size = size) (hsz : 0 < size)
    (v : Value) (n : Nat) (xs : List Value) (hs : a.eval s = v) (hown : w.ownsRow base e size v n xs)
    (A : Option Addr) (m c B : Nat) (news : List Value) (hm : news.length = m * size) (hx : a.eval x = .slice A m c) (hl : Lies w B A news) (h1 : ∀ u ∈ news, u.oneCell' = true)
    (h63 : n + m ≤ maxLen) (hbytes : (n + m) * bytes ≤ 140737488355328) (hbase : base ≤ w.heap.size)
    (h : ∀ v' w', w'.ownsRow base e size v' (n + m) (xs ++ news) → w.grownBy w' v.ownBlock → K (a.put o.dst v') w') :
    if Region.wanted o (yielded ops a.tmps) = true then Oper.wp P o a w K Q else E := by
  have hw : Region.wanted o (yielded ops a.tmps) = true := by simp [Region.wanted, hgd]
  rw [if_pos hw]
  exact wp_appK s x t ho base e i z size bytes ht hi hz hsize hby hzs hsz v n xs hs hown A m c B news hm hx hl h1 h63 hbytes hbase h

/-- Where a thing of a flat list comes from. -/
theorem flat_at {α β : Type} {f : α → List β} {k : Nat} (hk : 0 < k) (hf : ∀ x, (f x).length = k) : ∀ (l : List α) (j : Nat) (u : β), (l.flatMap f)[j]? = some u → ∃ i r x, j = i * k + r ∧ r < k ∧ l[i]? = some x ∧ (f x)[r]? = some u
  | [], j, u, h => by simp at h
  | x :: l, j, u, h => by
    rw [List.flatMap_cons] at h
    rcases Nat.lt_or_ge j k with g | g
    · rw [List.getElem?_append_left (by rw [hf]; exact g)] at h
      exact ⟨0, j, x, by simp, g, rfl, h⟩
    · rw [List.getElem?_append_right (by rw [hf]; exact g), hf] at h
      obtain ⟨i, r, y, hj, hr, hi, hu⟩ := flat_at hk hf l (j - k) u h
      exact ⟨i + 1, r, y, by rw [Nat.add_mul]; omega, hr, hi, hu⟩
theorem flat_get {α β : Type} {f : α → List β} {k : Nat} (hf : ∀ x, (f x).length = k) : ∀ (l : List α) (i r : Nat) (x : α), l[i]? = some x → r < k → (l.flatMap f)[i * k + r]? = (f x)[r]?
  | [], i, r, x, h, _ => by simp at h
  | y :: l, 0, r, x, h, hr => by
    simp at h
    subst h
    rw [List.flatMap_cons, List.getElem?_append_left (by rw [hf]; omega)]
    simp
  | y :: l, i + 1, r, x, h, hr => by
    rw [List.flatMap_cons, List.getElem?_append_right (by rw [hf, Nat.add_mul]; omega), hf]
    rw [show (i + 1) * k + r - k = i * k + r by rw [Nat.add_mul]; omega]
    exact flat_get hf l i r x (by simpa using h) hr
theorem flat_length {α β : Type} {f : α → List β} {k : Nat} (hf : ∀ x, (f x).length = k) : ∀ l : List α, (l.flatMap f).length = l.length * k
  | [] => by simp
  | x :: l => by rw [List.flatMap_cons, List.length_append, hf, flat_length hf l, List.length_cons, Nat.add_mul]; omega
/-- Types, cell by cell. -/
def tyC (t : Int × Int) : List Value := [.int .i64 t.1, .int .i64 t.2]
def tysV (l : List (Int × Int)) : List Value := l.flatMap tyC
theorem tysV_len (l : List (Int × Int)) : (tysV l).length = l.length * 2 := flat_length (f := tyC) (k := 2) (fun _ => rfl) l
theorem tysV_one (l : List (Int × Int)) : ∀ u ∈ tysV l, u.oneCell' = true := fun u hu => by
  obtain ⟨t, _, h⟩ := List.mem_flatMap.mp hu
  simp [tyC] at h
  rcases h with rfl | rfl <;> rfl
theorem tys_lie {w : World} {B : Nat} {A : Option Addr} {l : List (Int × Int)} (h : RowOf TyAt 2 w B A l) : Lies w B A (tysV l) := fun j u hu => by
  obtain ⟨i, r, t, rfl, hr, hi, hv⟩ := flat_at (f := tyC) (k := 2) (by decide) (fun _ => rfl) l j u hu
  obtain ⟨ad, e, hb, h0, h1⟩ := h i t hi
  refine ⟨ad, e, hb, ?_⟩
  match r, hr, hv with
  | 0, _, hv => simp [tyC] at hv; subst hv; exact h0
  | 1, _, hv =>
    simp [tyC] at hv
    subst hv
    rw [← addr_add_add]
    have e : (ad.add (i * 2)).add 1 = off_ (ad.add (i * 2)) 1 := by unfold Addr.add; simp
    rw [e]
    exact h1
/-- A row's cells, for things of any size. -/
theorem ownK_cell {w : World} {B e size n g c : Nat} {xs : List Value} (h : w.ownsRow B e size (.slice (some ⟨g, 0, none⟩) n c) n xs) : B ≤ g ∧ ∀ j u, xs[j]? = some u → w.cell? ⟨g, j, none⟩ = some u ∧ g < w.heap.size := by
  rcases h.2 with ⟨h1, _⟩ | ⟨g', cap, cur, h1, hb, hh, _, _, _, hx⟩
  · cases h1
  · injection h1 with h1
    simp at h1
    subst h1
    refine ⟨hb, fun j u hj => ?_⟩
    have hu : cur.toList[j]? = some u := by
      rw [← hx, List.getElem?_take] at hj
      split at hj
      · exact hj
      · cases hj
    have hc : w.cell? ⟨g, j, none⟩ = some u := by simp [World.cell?, hh]; simpa using hu
    exact ⟨hc, World.block_lt_of_cell? w _ hc⟩
theorem ownK_slice {w : World} {B e size n : Nat} {v : Value} {xs : List Value} (h : w.ownsRow B e size v n xs) : (v = .slice none 0 0 ∧ n = 0) ∨ ∃ g c, v = .slice (some ⟨g, 0, none⟩) n c ∧ n ≤ c ∧ c ≤ 9223372036854775807 := by
  rcases h.2 with ⟨h1, h2⟩ | ⟨g', cap, cur, h1, hb, hh, h3, h4, _, hx⟩
  · exact .inl ⟨h1, h2⟩
  · exact .inr ⟨g', cap, h1, h3, by unfold maxLen at h4; omega⟩
/-- A row of types of the call's own is a slice of them. -/
theorem own_types {w : World} {B e : Nat} {v : Value} {l : List (Int × Int)} (h : w.ownsRow B e 2 v l.length (tysV l)) : ∃ A c, v = .slice A l.length c ∧ SlcIs TyAt 2 w w.heap.size A c l ∧ (A = none → c = 0) := by
  rcases ownK_slice h with ⟨rfl, hn⟩ | ⟨g, c, rfl, h1, h2⟩
  · have : l = [] := List.eq_nil_of_length_eq_zero hn
    subst this
    exact ⟨none, 0, rfl, ⟨Nat.le_refl _, by omega, RowOf.nil⟩, fun _ => rfl⟩
  · obtain ⟨hb, hc⟩ := ownK_cell h
    refine ⟨_, c, rfl, ⟨h1, h2, fun i t hi => ?_⟩, fun x => by cases x⟩
    have e0 := flat_get (f := tyC) (k := 2) (fun _ => rfl) l i 0 t hi (by decide)
    have e1 := flat_get (f := tyC) (k := 2) (fun _ => rfl) l i 1 t hi (by decide)
    obtain ⟨c0, hg⟩ := hc _ _ e0
    obtain ⟨c1, _⟩ := hc _ _ e1
    have ea : (Addr.add ⟨g, 0, none⟩ (i * 2)) = ⟨g, i * 2, none⟩ := by
      unfold Addr.add; split
      · rename_i h0; rw [h0]
      · simp
    refine ⟨_, rfl, hg, ?_, ?_⟩
    · rw [ea]; exact c0
    · rw [ea]; exact c1
theorem own_ints {w : World} {B e : Nat} {v : Value} {l : List Int} (h : w.ownsRow B e 1 v l.length (l.map (Value.int .i64))) : ∃ A c, v = .slice A l.length c ∧ Lies w w.heap.size A (l.map (Value.int .i64)) ∧ l.length ≤ c ∧ c ≤ 9223372036854775807 := by
  rcases ownK_slice h with ⟨rfl, hn⟩ | ⟨g, c, rfl, h1, h2⟩
  · have : l = [] := List.eq_nil_of_length_eq_zero hn
    subst this
    exact ⟨none, 0, rfl, Lies.nil, Nat.le_refl _, by omega⟩
  · exact ⟨_, c, rfl, Lies.of_own h, h1, h2⟩
theorem own_emptyK (w : World) (T : TypeId) (k : Nat) : (w.alloc (.cells #[] T)).ownsRow w.heap.size T k (.slice (some ⟨w.heap.size, 0, none⟩) 0 0) 0 [] :=
  ⟨by simp, .inr ⟨w.heap.size, 0, #[], rfl, Nat.le_refl _, heap_alloc_new _ _, Nat.le_refl _, by unfold maxLen; omega, by simp, by simp⟩⟩
/-- What an append onto a row leaves below. -/
theorem appK_more {B : Nat} {w w1 w2 : World} {v : Value} {e size n : Nat} {xs : List Value} (hb : Below B w w1) (hown : w1.ownsRow B e size v n xs) (hB : B ≤ w1.heap.size) (hg : w1.grownBy w2 v.ownBlock) : Below B w w2 :=
  hb.grown hg hB fun k hk => by
    rcases hown.2 with ⟨rfl, _⟩ | ⟨g', cap, cur, rfl, hb', _⟩
    · simp [Value.ownBlock] at hk
    · have : g' = k := by simpa [Value.ownBlock] using hk
      omega
end Go.Proofs.Ytmjoollhkjgohaa
