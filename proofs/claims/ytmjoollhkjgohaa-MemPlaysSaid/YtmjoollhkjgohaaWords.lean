/-
  Words for slices in memory: which cells a slice value stands for, and what keeps them. Plain definitions and lemmas; no conditions.
-/
import Derived.Test.YtmjoollhkjgohaaMath
import Derived.Below
import Derived.Laws.OwnMore
import Derived.Laws.AppendOwnNone
import Derived.Deep.AppendLies
import Derived.Deep.Draws
namespace Go.Proofs.Ytmjoollhkjgohaa
set_option maxRecDepth 100000
set_option linter.unusedVariables false
set_option linter.unusedSimpArgs false
open Go.RowKit

theorem addr_add_block (a : Addr) (n : Nat) : (a.add n).block = a.block := by
  unfold Addr.add; split <;> rfl
theorem addr_add_add (a : Addr) (i j : Nat) : (a.add i).add j = a.add (i + j) := by
  unfold Addr.add
  by_cases hi : i = 0 <;> by_cases hj : j = 0 <;> simp [hi, hj, Nat.add_assoc]

/-- Each of these values stands in the cell at its place behind A, in a block below B. -/
def Lies (w : World) (B : Nat) (A : Option Addr) (xs : List Value) : Prop :=
  ∀ j u, xs[j]? = some u → ∃ ad, A = some ad ∧ ad.block < B ∧ w.cell? (ad.add j) = some u

section
variable {w w' : World} {B B' : Nat} {A : Option Addr} {xs : List Value}
theorem Lies.nil : Lies w B A [] := fun _ _ h => by simp at h
theorem Lies.at_ {k : Nat} (h : Lies w B A xs) (hk : k < xs.length) : ∃ ad, A = some ad ∧ ad.block < B ∧ w.cell? (ad.add k) = some xs[k] :=
  h k _ (List.getElem?_eq_getElem hk)
theorem Lies.keep (h : Lies w B A xs) (hk : ∀ p : Addr, p.block < B → w'.cell? p = w.cell? p) : Lies w' B A xs := fun j u hu => by
  obtain ⟨ad, e, hb, hc⟩ := h j u hu
  exact ⟨ad, e, hb, (hk _ (by rw [addr_add_block]; exact hb)).trans hc⟩
theorem Lies.more (h : Lies w B A xs) (hB : B ≤ B') : Lies w B' A xs := fun j u hu => by
  obtain ⟨ad, e, hb, hc⟩ := h j u hu
  exact ⟨ad, e, Nat.lt_of_lt_of_le hb hB, hc⟩
theorem Lies.below (h : Lies w B A xs) (hb : Below B w w') : Lies w' B A xs := h.keep fun _ hp => hb.cell hp
theorem Lies.below_to {C : Nat} (h : Lies w B A xs) (hb : Below C w w') (hC : B ≤ C) : Lies w' B A xs := h.keep fun _ hp => hb.cell (Nat.lt_of_lt_of_le hp hC)
theorem Lies.drew (h : Lies w B A xs) : Lies w.drew B A xs := h
theorem Lies.drewN (h : Lies w B A xs) (k : Nat) : Lies (w.drewN k) B A xs := h
theorem Lies.drop_ (h : Lies w B A xs) (k : Nat) : Lies w B (A.map (·.add k)) (xs.drop k) := fun j u hu => by
  rw [List.getElem?_drop] at hu
  obtain ⟨ad, e, hb, hc⟩ := h _ _ hu
  exact ⟨ad.add k, by rw [e]; rfl, by rw [addr_add_block]; exact hb, by rw [addr_add_add]; exact hc⟩
theorem Lies.take_ (h : Lies w B A xs) (k : Nat) : Lies w B A (xs.take k) := fun j u hu => by
  rw [List.getElem?_take] at hu
  split at hu
  · exact h j u hu
  · cases hu
/-- What is left of a slice from k on, spelled as the model spells it. -/
theorem Lies.cut (h : Lies w B A xs) {k cap : Nat} (hc : xs.length ≤ cap) : Lies w B (if cap = k then A else A.map (·.add k)) (xs.drop k) := by
  split
  · rename_i e
    rw [List.drop_eq_nil_of_le (by omega)]
    exact Lies.nil
  · exact h.drop_ k
theorem Lies.of_own {base e n c : Nat} (h : w.ownsRow base e 1 (.slice A n c) n xs) : Lies w w.heap.size A xs := by
  rcases h.2 with ⟨hv, hn⟩ | ⟨g, cap, cur, hv, hb, hh, h1, h2, h3, h4⟩
  · have : xs = [] := List.eq_nil_of_length_eq_zero (by rw [h.1, hn])
    rw [this]
    exact Lies.nil
  · intro j u hu
    have hA : A = some ⟨g, 0, none⟩ := by injection hv
    have hg : g < w.heap.size := by
      rcases Nat.lt_or_ge g w.heap.size with hlt | hge
      · exact hlt
      · rw [Array.getElem?_eq_none hge] at hh; cases hh
    refine ⟨⟨g, 0, none⟩, hA, hg, ?_⟩
    have hju : cur.toList[j]? = some u := by
      rw [← h4, List.getElem?_take] at hu
      split at hu
      · exact hu
      · cases hu
    have hcell : w.cell? ⟨g, j, none⟩ = cur[j]? := cell_of_row w g j cur e (0, 0) hh
    have : (Addr.add ⟨g, 0, none⟩ j) = ⟨g, j, none⟩ := by
      unfold Addr.add; split
      · rename_i h0; subst h0; rfl
      · simp
    rw [this, hcell, ← hju]
    simp
end
theorem own_slice {w : World} {base e n : Nat} {v : Value} {xs : List Value} (h : w.ownsRow base e 1 v n xs) : ∃ A c, v = .slice A n c ∧ Lies w w.heap.size A xs := by
  rcases h.2 with ⟨rfl, rfl⟩ | ⟨g, cap, cur, rfl, _⟩
  · exact ⟨none, 0, rfl, Lies.of_own h⟩
  · exact ⟨_, cap, rfl, Lies.of_own h⟩

theorem own_lower {w : World} {base base' e size n : Nat} {v : Value} {xs : List Value} (h : w.ownsRow base e size v n xs) (hb : base' ≤ base) : w.ownsRow base' e size v n xs := by
  refine ⟨h.1, ?_⟩
  rcases h.2 with h0 | ⟨g, cap, cur, hv, hg, rest⟩
  · exact .inl h0
  · exact .inr ⟨g, cap, cur, hv, Nat.le_trans hb hg, rest⟩
/-- An owned row over a change that leaves the blocks below B alone stays, where its block lies below B. -/
theorem own_below {w w' : World} {base e size n B : Nat} {v : Value} {xs : List Value} (h : w.ownsRow base e size v n xs) (hb : Below B w w') (hB : ∀ g, v.ownBlock = some g → g < B) : w'.ownsRow base e size v n xs := by
  refine ⟨h.1, ?_⟩
  rcases h.2 with h0 | ⟨g, cap, cur, hv, hg, hh, rest⟩
  · exact .inl h0
  · refine .inr ⟨g, cap, cur, hv, hg, ?_, rest⟩
    rw [hb.block g (hB g (by rw [hv]; rfl))]
    exact hh
theorem own_block_lt {w : World} {base e size n : Nat} {v : Value} {xs : List Value} (h : w.ownsRow base e size v n xs) : ∀ g, v.ownBlock = some g → g < w.heap.size := by
  intro g hg
  rcases h.2 with ⟨rfl, _⟩ | ⟨g', cap, cur, rfl, hb, hh, _⟩
  · simp [Value.ownBlock] at hg
  · have : g' = g := by simpa [Value.ownBlock] using hg
    subst this
    rcases Nat.lt_or_ge g' w.heap.size with hlt | hge
    · exact hlt
    · rw [Array.getElem?_eq_none hge] at hh; cases hh

/-- append onto a row of the call's own, of whatever lies behind a slice, nil or not: at the operation. -/
theorem wp_app {P : Program} {w : World} {o : Oper} {a : Act} {K : Act → World → Prop} {Q : Exit → Act → World → Prop} (s x : Operand) (t : TypeId)
    (ho : o.op = .call { callee := .builtin .append, args := #[s, x], argTypes := #[t, t] })
    (base : Nat) (e : TypeId) (i : TypeInfo) (z : Value) (bytes : Nat) (ht : P.underlying t = some (.slice e)) (hi : P.info? e = some i) (hz : i.zero = some z)
    (hsize : i.size = 1) (hby : i.bytes = bytes) (hzs : z.cells.size = 1)
    (v : Value) (n : Nat) (xs : List Value) (hs : a.eval s = v) (hown : w.ownsRow base e 1 v n xs)
    (A : Option Addr) (m c B : Nat) (news : List Value) (hm : news.length = m) (hx : a.eval x = .slice A m c) (hA : A = none → c = 0) (hl : Lies w B A news) (h1 : ∀ u ∈ news, u.oneCell' = true)
    (h63 : n + m ≤ maxLen) (hbytes : (n + m) * bytes ≤ 140737488355328) (hbase : base ≤ w.heap.size)
    (h : ∀ v' w', w'.ownsRow base e 1 v' (n + m) (xs ++ news) → w.grownBy w' v.ownBlock → K (a.put o.dst v') w') : o.wp P a w K Q := by
  subst hm
  rcases A with _ | ad
  · have hc : c = 0 := hA rfl
    subst hc
    have hn : news = [] := by
      cases news with
      | nil => rfl
      | cons b r =>
        obtain ⟨ad, e, _⟩ := hl 0 b rfl
        cases e
    subst hn
    have hrun := run_append_owned_none (P := P) (w := w) base t o.type e i 1 ht hi v n xs hown
    have hk := h v w (by simpa using hown) (World.grownBy.refl _ _)
    unfold Oper.wp
    simp [execOp, ho, resolve, invoke, builtin, hs, hx, hrun, Result.andThen]
    exact hk
  · refine wp_append_own w s x t ho base e i z 1 bytes ht hi hz hsize hby hzs (by decide) v n xs hs hown ad news.length c news hx (by simp) (fun j u hu => ?_) h1 h63 hbytes hbase fun v' w' h2 h3 _ => h v' w' h2 h3
    obtain ⟨ad', e, _, hc⟩ := hl j u hu
    injection e with e
    subst e
    exact hc
/-- The same in a region's list of operations. -/
theorem append_lies {P : Program} {w : World} {ops : Array Oper} {rest : List Oper} {o : Oper} {a : Act} {Q : Exit → Act → World → Prop} (hgd : o.guard = none) (s x : Operand) (t : TypeId)
    (ho : o.op = .call { callee := .builtin .append, args := #[s, x], argTypes := #[t, t] })
    (base : Nat) (e : TypeId) (i : TypeInfo) (z : Value) (bytes : Nat) (ht : P.underlying t = some (.slice e)) (hi : P.info? e = some i) (hz : i.zero = some z)
    (hsize : i.size = 1) (hby : i.bytes = bytes) (hzs : z.cells.size = 1)
    (v : Value) (n : Nat) (xs : List Value) (hs : a.eval s = v) (hown : w.ownsRow base e 1 v n xs)
    (A : Option Addr) (m c B : Nat) (news : List Value) (hm : news.length = m) (hx : a.eval x = .slice A m c) (hA : A = none → c = 0) (hl : Lies w B A news) (h1 : ∀ u ∈ news, u.oneCell' = true)
    (h63 : n + m ≤ maxLen) (hbytes : (n + m) * bytes ≤ 140737488355328) (hbase : base ≤ w.heap.size)
    (h : ∀ v' w', w'.ownsRow base e 1 v' (n + m) (xs ++ news) → w.grownBy w' v.ownBlock → wpList P ops Q rest (a.put o.dst v') w') : wpList P ops Q (o :: rest) a w :=
  wpList_plain hgd fun _ hK => wp_app s x t ho base e i z bytes ht hi hz hsize hby hzs v n xs hs hown A m c B news hm hx hA hl h1 h63 hbytes hbase fun v' w' h2 h3 => hK _ _ (h v' w' h2 h3)
/-- The same at a step of a region that draws its order. -/
theorem step_app {P : Program} {w : World} {ops : Array Oper} {o : Oper} {a : Act} {K : Act → World → Prop} {Q : Exit → Act → World → Prop} {E : Prop} (hgd : o.guard = none) (s x : Operand) (t : TypeId)
    (ho : o.op = .call { callee := .builtin .append, args := #[s, x], argTypes := #[t, t] })
    (base : Nat) (e : TypeId) (i : TypeInfo) (z : Value) (bytes : Nat) (ht : P.underlying t = some (.slice e)) (hi : P.info? e = some i) (hz : i.zero = some z)
    (hsize : i.size = 1) (hby : i.bytes = bytes) (hzs : z.cells.size = 1)
    (v : Value) (n : Nat) (xs : List Value) (hs : a.eval s = v) (hown : w.ownsRow base e 1 v n xs)
    (A : Option Addr) (m c B : Nat) (news : List Value) (hm : news.length = m) (hx : a.eval x = .slice A m c) (hA : A = none → c = 0) (hl : Lies w B A news) (h1 : ∀ u ∈ news, u.oneCell' = true)
    (h63 : n + m ≤ maxLen) (hbytes : (n + m) * bytes ≤ 140737488355328) (hbase : base ≤ w.heap.size)
    (h : ∀ v' w', w'.ownsRow base e 1 v' (n + m) (xs ++ news) → w.grownBy w' v.ownBlock → K (a.put o.dst v') w') :
    if Region.wanted o (yielded ops a.tmps) = true then Oper.wp P o a w K Q else E := by
  have hw : Region.wanted o (yielded ops a.tmps) = true := by simp [Region.wanted, hgd]
  rw [if_pos hw]
  exact wp_app s x t ho base e i z bytes ht hi hz hsize hby hzs v n xs hs hown A m c B news hm hx hA hl h1 h63 hbytes hbase h
theorem lies_alloc {w : World} {B : Nat} {A : Option Addr} {xs : List Value} (H : Hid (Lies w B A xs)) (HB : Hid (B ≤ w.heap.size)) (o : Obj) : Lies (w.alloc o) B A xs :=
  H.out.keep fun p hp => World.cell?_alloc_lt w o p (Nat.lt_of_lt_of_le hp HB.out)
theorem own_empty (w : World) (T : TypeId) : (w.alloc (.cells #[] T)).ownsRow w.heap.size T 1 (.slice (some ⟨w.heap.size, 0, none⟩) 0 0) 0 [] :=
  ⟨rfl, .inr ⟨w.heap.size, 0, #[], rfl, Nat.le_refl _, heap_alloc_new _ _, Nat.le_refl _, by unfold maxLen; omega, rfl, rfl⟩⟩
/-- What such an append leaves, onto a row just made. -/
theorem app_out {W w1 : World} {e T : TypeId} {m : Nat} {v' : Value} {news : List Value} (hown : w1.ownsRow W.heap.size e 1 v' (0 + m) ([] ++ news)) (hgrow : (W.alloc (.cells #[] T)).grownBy w1 (Value.slice (some ⟨W.heap.size, 0, none⟩) 0 0).ownBlock) :
    w1.ownsRow W.heap.size e 1 v' m news ∧ Below W.heap.size W w1 := by
  refine ⟨by simpa using hown, ((Below.refl _ _).alloc (Nat.le_refl _) _).grown hgrow (by simp) fun k hk => ?_⟩
  have : W.heap.size = k := by simpa [Value.ownBlock] using hk
  omega
theorem u8_one (l : List Int) : ∀ u ∈ l.map (Value.int .u8), u.oneCell' = true := by
  intro u hu
  obtain ⟨n, _, rfl⟩ := List.mem_map.mp hu
  rfl
/-- A type as a value: its kind and its number. -/
abbrev tyV (k n : Int) : Value := .agg #[.int .i64 k, .int .i64 n]
/-- Of a slice of classes: the class above each one, as it stands in memory. -/
def Supers (w : World) (B : Nat) (A : Option Addr) (sup : List Int) : Prop :=
  ∀ i s, sup[i]? = some s → ∃ ad, A = some ad ∧ ad.block < B ∧ w.cell? (ad.add (i * 3)) = some (.int .i64 s)
theorem Supers.below_to {w w' : World} {B C : Nat} {A : Option Addr} {sup : List Int} (h : Supers w B A sup) (hb : Below C w w') (hC : B ≤ C) : Supers w' B A sup := fun i s hs => by
  obtain ⟨ad, e, hlt, hc⟩ := h i s hs
  exact ⟨ad, e, hlt, (hb.cell (by rw [addr_add_block]; omega)).trans hc⟩

/-- A row of the call's own with these bytes, written out. -/
theorem own_bytes {w : World} {B e : Nat} {v : Value} {l : List Int} (h : w.ownsRow B e 1 v l.length (l.map (Value.int .u8))) (hl : 0 < l.length) :
    ∃ g cap, v = .slice (some ⟨g, 0, none⟩) l.length cap ∧ l.length ≤ cap ∧ cap ≤ 9223372036854775807 ∧ B ≤ g ∧ g < w.heap.size ∧ Lies w w.heap.size (some ⟨g, 0, none⟩) (l.map (Value.int .u8)) := by
  have hlt := own_block_lt h
  rcases h.2 with ⟨_, hn⟩ | ⟨g, cap, cur, rfl, hb, _, h1, h2, _⟩
  · omega
  · exact ⟨g, cap, rfl, h1, by unfold maxLen at h2; omega, hb, hlt g rfl, Lies.of_own h⟩
theorem lies_cell {w : World} {B g : Nat} {xs : List Value} (h : Lies w B (some ⟨g, 0, none⟩) xs) (j : Nat) (hj : j < xs.length) : w.cell? ⟨g, j, none⟩ = some xs[j] := by
  obtain ⟨ad, e, _, hc⟩ := h.at_ hj
  injection e with e
  subst e
  have e : (Addr.add ⟨g, 0, none⟩ j) = ⟨g, j, none⟩ := by
    unfold Addr.add; split
    · rename_i h0; subst h0; rfl
    · simp
  rw [← e]
  exact hc
theorem below_drewN' {B : Nat} {a w : World} (h : Below B a w) (n : Nat) : Below B a (w.drewN n) := ⟨h.os, h.tape, h.output, h.size, h.block⟩
/-- What an append leaves, onto a row of the call's own. -/
theorem app_more {B : Nat} {w w1 w2 : World} {e : TypeId} {v v' : Value} {n m : Nat} {xs ys : List Int} (hb : Below B w w1) (hown : w1.ownsRow B e 1 v n (xs.map (Value.int .u8))) (hB : B ≤ w1.heap.size)
    (hown' : w2.ownsRow B e 1 v' (n + m) (xs.map (Value.int .u8) ++ ys.map (Value.int .u8))) (hgrow : w1.grownBy w2 v.ownBlock) : w2.ownsRow B e 1 v' (n + m) ((xs ++ ys).map (Value.int .u8)) ∧ Below B w w2 :=
  ⟨by simpa using hown', hb.grown hgrow hB (fun k hk => (hown.lt k hk).1)⟩
theorem own_slice_nil {w : World} {base e n : Nat} {v : Value} {xs : List Value} (h : w.ownsRow base e 1 v n xs) : ∃ A c, v = .slice A n c ∧ Lies w w.heap.size A xs ∧ (A = none → c = 0) := by
  rcases h.2 with ⟨rfl, rfl⟩ | ⟨g, cap, cur, rfl, _⟩
  · exact ⟨none, 0, rfl, Lies.of_own h, fun _ => rfl⟩
  · exact ⟨_, cap, rfl, Lies.of_own h, fun h => by cases h⟩
end Go.Proofs.Ytmjoollhkjgohaa
