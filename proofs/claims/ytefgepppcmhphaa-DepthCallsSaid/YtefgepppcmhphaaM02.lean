/-
  Rows of the call's own of things of some cells each: append onto them, and what they read as. Plain lemmas; no conditions.
  A block's cells, one by one. Plain definitions and lemmas; no conditions.
  The cells of an image that was boxed, and of other boxes. Plain definitions and lemmas; no conditions.
  Images in a block of their own: they stay where what is made anew leaves them alone. Plain lemmas; no conditions.
  What the document's own answer for all fields of a class (Fields) comes to.
-/
import Derived.Test.YtefgepppcmhphaaM01
import Derived.Test.YtefgepppcmhphaaRows
import Derived.ProofKit
import Derived.OpenShut
import Derived.ArgAppend
import Derived.OwnWalk
import Derived.Deep.RegionHeld3
import Derived.Outline
import Derived.Deep.QuietTactic
import Derived.BigQuiet
import Derived.Deep.Cut
namespace Go.Proofs.Ytefgepppcmhphaa
set_option maxRecDepth 100000
set_option linter.unusedVariables false
set_option linter.unusedSimpArgs false
open Go.ChangeShapes Go.WideShapes Go.ChangeAt Go.RowKit
set_option linter.unusedVariables false

theorem run_append_owned_nil {P : Program} {w : World} (base : Nat) (t ty e : TypeId) (i : TypeInfo) (size c : Nat) (ht : P.underlying t = some (.slice e)) (hi : P.info? e = some i)
    (v : Value) (n : Nat) (xs : List Value) (hown : w.ownsRow base e size v n xs) :
    (Builtin.append_ #[t, t] ty #[v, .slice none 0 c]).run P w = .ok v w := by
  rcases hown.2 with ⟨rfl, rfl⟩ | ⟨g, cap, cur, rfl, _, _, hnc, _⟩
  · simp [Builtin.append_, run_underlying ht, sizeOf, typeInfo, hi, Builtin.lenOf, Builtin.firstCells]
  · simp [Builtin.append_, run_underlying ht, sizeOf, typeInfo, hi, Builtin.lenOf, Builtin.firstCells, hnc, storeCells]
/-- append onto a row of the call's own, of whatever lies behind a slice, nil or not: at the operation, for things of any size. -/
theorem wp_appK {P : Program} {w : World} {o : Oper} {a : Act} {K : Act → World → Prop} {Q : Exit → Act → World → Prop} (s x : Operand) (t : TypeId)
    (ho : o.op = .call { callee := .builtin .append, args := #[s, x], argTypes := #[t, t] })
    (base : Nat) (e : TypeId) (i : TypeInfo) (z : Value) (size bytes : Nat) (ht : P.underlying t = some (.slice e)) (hi : P.info? e = some i) (hz : i.zero = some z)
    (hsize : i.size = size) (hby : i.bytes = bytes) (hzs : z.cells.size = size) (hsz : 0 < size)
    (v : Value) (n : Nat) (xs : List Value) (hs : a.eval s = v) (hown : w.ownsRow base e size v n xs)
    (A : Option Addr) (m c B : Nat) (news : List Value) (hm : news.length = m * size) (hx : a.eval x = .slice A m c) (hl : Lies w B A news) (h1 : ∀ u ∈ news, u.oneCell' = true)
    (h63 : n + m ≤ maxLen) (hbytes : (n + m) * bytes ≤ 140737488355328) (hbase : base ≤ w.heap.size)
    (h : ∀ v' w', w'.ownsRow base e size v' (n + m) (xs ++ news) → w.grownBy w' v.ownBlock → K (a.put o.dst v') w') : o.wp P a w K Q := by
  rcases A with _ | ad
  · have hn : news = [] := by
      cases news with
      | nil => rfl
      | cons b r =>
        obtain ⟨ad, e, _⟩ := hl 0 b rfl
        cases e
    subst hn
    have hm0 : m = 0 := by
      rcases Nat.eq_zero_or_pos m with g | g
      · exact g
      · have : 0 < m * size := Nat.mul_pos g hsz
        simp at hm
        omega
    subst hm0
    have hrun := run_append_owned_nil (P := P) (w := w) base t o.type e i size c ht hi v n xs hown
    have hk := h v w (by simpa using hown) (World.grownBy.refl _ _)
    unfold Oper.wp
    simp [execOp, ho, resolve, invoke, builtin, hs, hx, hrun, Result.andThen]
    exact hk
  · refine wp_append_own w s x t ho base e i z size bytes ht hi hz hsize hby hzs hsz v n xs hs hown ad m c news hx hm (fun j u hu => ?_) h1 h63 hbytes hbase fun v' w' h2 h3 _ => h v' w' h2 h3
    obtain ⟨ad', e, _, hc⟩ := hl j u hu
    injection e with e
    subst e
    exact hc
theorem append_liesK {P : Program} {w : World} {ops : Array Oper} {rest : List Oper} {o : Oper} {a : Act} {Q : Exit → Act → World → Prop} (hgd : o.guard = none) (s x : Operand) (t : TypeId)
    (ho : o.op = .call { callee := .builtin .append, args := #[s, x], argTypes := #[t, t] })
    (base : Nat) (e : TypeId) (i : TypeInfo) (z : Value) (size bytes : Nat) (ht : P.underlying t = some (.slice e)) (hi : P.info? e = some i) (hz : i.zero = some z)
    (hsize : i.size = size) (hby : i.bytes = bytes) (hzs : z.cells.size = size) (hsz : 0 < size)
    (v : Value) (n : Nat) (xs : List Value) (hs : a.eval s = v) (hown : w.ownsRow base e size v n xs)
    (A : Option Addr) (m c B : Nat) (news : List Value) (hm : news.length = m * size) (hx : a.eval x = .slice A m c) (hl : Lies w B A news) (h1 : ∀ u ∈ news, u.oneCell' = true)
    (h63 : n + m ≤ maxLen) (hbytes : (n + m) * bytes ≤ 140737488355328) (hbase : base ≤ w.heap.size)
    (h : ∀ v' w', w'.ownsRow base e size v' (n + m) (xs ++ news) → w.grownBy w' v.ownBlock → wpList P ops Q rest (a.put o.dst v') w') : wpList P ops Q (o :: rest) a w :=
  wpList_plain hgd fun _ hK => wp_appK s x t ho base e i z size bytes ht hi hz hsize hby hzs hsz v n xs hs hown A m c B news hm hx hl h1 h63 hbytes hbase fun v' w' h2 h3 => hK _ _ (h v' w' h2 h3)
theorem step_appK {P : Program} {w : World} {ops : Array Oper} {o : Oper} {a : Act} {K : Act → World → Prop} {Q : Exit → Act → World → Prop} {E : Prop} (hgd : o.guard = none) (s x : Operand) (t : TypeId)
    (ho : o.op = .call { callee := .builtin .append, args := #[s, x], argTypes := #[t, t] })
    (base : Nat) (e : TypeId) (i : TypeInfo) (z : Value) (size bytes : Nat) (ht : P.underlying t = some (.slice e)) (hi : P.info? e = some i) (hz : i.zero = some z)
    (hsize : i.size = size) (hby : i.bytes = bytes) (hzs : z.cells.size = size) (hsz : 0 < size)
    (v : Value) (n : Nat) (xs : List Value) (hs : a.eval s = v) (hown : w.ownsRow base e size v n xs)
    (A : Option Addr) (m c B : Nat) (news : List Value) (hm : news.length = m * size) (hx : a.eval x = .slice A m c) (hl : Lies w B A news) (h1 : ∀ u ∈ news, u.oneCell' = true)
    (h63 : n + m ≤ maxLen) (hbytes : (n + m) * bytes ≤ 140737488355328) (hbase : base ≤ w.heap.size)
    (h : ∀ v' w', w'.ownsRow base e size v' (n + m) (xs ++ news) → w.grownBy w' v.ownBlock → K (a.put o.dst v') w') :
    if Region.wanted o (yielded ops a.tmps) = true then Oper.wp P o a w K Q else E := by
  have hw : Region.wanted o (yielded ops a.tmps) = true := by simp [Region.wanted, hgd]
  rw [if_pos hw]
  exact wp_appK s x t ho base e i z size bytes ht hi hz hsize hby hzs hsz v n xs hs hown A m c B news hm hx hl h1 h63 hbytes hbase h

/-- Where a thing of a flat list comes from. -/
theorem flat_at {α β : Type} {f : α → List β} {k : Nat} (hk : 0 < k) (hf : ∀ x, (f x).length = k) : ∀ (l : List α) (j : Nat) (u : β), (l.flatMap f)[j]? = some u → ∃ i r x, j = i * k + r ∧ r < k ∧ l[i]? = some x ∧ (f x)[r]? = some u
  | [], j, u, h => by simp at h
  | x :: l, j, u, h => by
    rw [List.flatMap_cons] at h
    rcases Nat.lt_or_ge j k with g | g
    · rw [List.getElem?_append_left (by rw [hf]; exact g)] at h
      exact ⟨0, j, x, by simp, g, rfl, h⟩
    · rw [List.getElem?_append_right (by rw [hf]; exact g), hf] at h
      obtain ⟨i, r, y, hj, hr, hi, hu⟩ := flat_at hk hf l (j - k) u h
      exact ⟨i + 1, r, y, by rw [Nat.add_mul]; omega, hr, hi, hu⟩
theorem flat_get {α β : Type} {f : α → List β} {k : Nat} (hf : ∀ x, (f x).length = k) : ∀ (l : List α) (i r : Nat) (x : α), l[i]? = some x → r < k → (l.flatMap f)[i * k + r]? = (f x)[r]?
  | [], i, r, x, h, _ => by simp at h
  | y :: l, 0, r, x, h, hr => by
    simp at h
    subst h
    rw [List.flatMap_cons, List.getElem?_append_left (by rw [hf]; omega)]
    simp
  | y :: l, i + 1, r, x, h, hr => by
    rw [List.flatMap_cons, List.getElem?_append_right (by rw [hf, Nat.add_mul]; omega), hf]
    rw [show (i + 1) * k + r - k = i * k + r by rw [Nat.add_mul]; omega]
    exact flat_get hf l i r x (by simpa using h) hr
theorem flat_length {α β : Type} {f : α → List β} {k : Nat} (hf : ∀ x, (f x).length = k) : ∀ l : List α, (l.flatMap f).length = l.length * k
  | [] => by simp
  | x :: l => by rw [List.flatMap_cons, List.length_append, hf, flat_length hf l, List.length_cons, Nat.add_mul]; omega
/-- Types, cell by cell. -/
def tyC (t : Int × Int) : List Value := [.int .i64 t.1, .int .i64 t.2]
def tysV (l : List (Int × Int)) : List Value := l.flatMap tyC
theorem tysV_len (l : List (Int × Int)) : (tysV l).length = l.length * 2 := flat_length (f := tyC) (k := 2) (fun _ => rfl) l
theorem tysV_one (l : List (Int × Int)) : ∀ u ∈ tysV l, u.oneCell' = true := fun u hu => by
  obtain ⟨t, _, h⟩ := List.mem_flatMap.mp hu
  simp [tyC] at h
  rcases h with rfl | rfl <;> rfl
theorem tys_lie {w : World} {B : Nat} {A : Option Addr} {l : List (Int × Int)} (h : RowOf TyAt 2 w B A l) : Lies w B A (tysV l) := fun j u hu => by
  obtain ⟨i, r, t, rfl, hr, hi, hv⟩ := flat_at (f := tyC) (k := 2) (by decide) (fun _ => rfl) l j u hu
  obtain ⟨ad, e, hb, h0, h1⟩ := h i t hi
  refine ⟨ad, e, hb, ?_⟩
  match r, hr, hv with
  | 0, _, hv => simp [tyC] at hv; subst hv; exact h0
  | 1, _, hv =>
    simp [tyC] at hv
    subst hv
    rw [← addr_add_add]
    have e : (ad.add (i * 2)).add 1 = off_ (ad.add (i * 2)) 1 := by unfold Addr.add; simp
    rw [e]
    exact h1
/-- A row's cells, for things of any size. -/
theorem ownK_cell {w : World} {B e size n g c : Nat} {xs : List Value} (h : w.ownsRow B e size (.slice (some ⟨g, 0, none⟩) n c) n xs) : B ≤ g ∧ ∀ j u, xs[j]? = some u → w.cell? ⟨g, j, none⟩ = some u ∧ g < w.heap.size := by
  rcases h.2 with ⟨h1, _⟩ | ⟨g', cap, cur, h1, hb, hh, _, _, _, hx⟩
  · cases h1
  · injection h1 with h1
    simp at h1
    subst h1
    refine ⟨hb, fun j u hj => ?_⟩
    have hu : cur.toList[j]? = some u := by
      rw [← hx, List.getElem?_take] at hj
      split at hj
      · exact hj
      · cases hj
    have hc : w.cell? ⟨g, j, none⟩ = some u := by simp [World.cell?, hh]; simpa using hu
    exact ⟨hc, World.block_lt_of_cell? w _ hc⟩
theorem ownK_slice {w : World} {B e size n : Nat} {v : Value} {xs : List Value} (h : w.ownsRow B e size v n xs) : (v = .slice none 0 0 ∧ n = 0) ∨ ∃ g c, v = .slice (some ⟨g, 0, none⟩) n c ∧ n ≤ c ∧ c ≤ 9223372036854775807 := by
  rcases h.2 with ⟨h1, h2⟩ | ⟨g', cap, cur, h1, hb, hh, h3, h4, _, hx⟩
  · exact .inl ⟨h1, h2⟩
  · exact .inr ⟨g', cap, h1, h3, by unfold maxLen at h4; omega⟩
/-- A row of types of the call's own is a slice of them. -/
theorem own_types {w : World} {B e : Nat} {v : Value} {l : List (Int × Int)} (h : w.ownsRow B e 2 v l.length (tysV l)) : ∃ A c, v = .slice A l.length c ∧ SlcIs TyAt 2 w w.heap.size A c l ∧ (A = none → c = 0) := by
  rcases ownK_slice h with ⟨rfl, hn⟩ | ⟨g, c, rfl, h1, h2⟩
  · have : l = [] := List.eq_nil_of_length_eq_zero hn
    subst this
    exact ⟨none, 0, rfl, ⟨Nat.le_refl _, by omega, RowOf.nil⟩, fun _ => rfl⟩
  · obtain ⟨hb, hc⟩ := ownK_cell h
    refine ⟨_, c, rfl, ⟨h1, h2, fun i t hi => ?_⟩, fun x => by cases x⟩
    have e0 := flat_get (f := tyC) (k := 2) (fun _ => rfl) l i 0 t hi (by decide)
    have e1 := flat_get (f := tyC) (k := 2) (fun _ => rfl) l i 1 t hi (by decide)
    obtain ⟨c0, hg⟩ := hc _ _ e0
    obtain ⟨c1, _⟩ := hc _ _ e1
    have ea : (Addr.add ⟨g, 0, none⟩ (i * 2)) = ⟨g, i * 2, none⟩ := by
      unfold Addr.add; split
      · rename_i h0; rw [h0]
      · simp
    refine ⟨_, rfl, hg, ?_, ?_⟩
    · rw [ea]; exact c0
    · rw [ea]; exact c1
theorem own_ints {w : World} {B e : Nat} {v : Value} {l : List Int} (h : w.ownsRow B e 1 v l.length (l.map (Value.int .i64))) : ∃ A c, v = .slice A l.length c ∧ Lies w w.heap.size A (l.map (Value.int .i64)) ∧ l.length ≤ c ∧ c ≤ 9223372036854775807 := by
  rcases ownK_slice h with ⟨rfl, hn⟩ | ⟨g, c, rfl, h1, h2⟩
  · have : l = [] := List.eq_nil_of_length_eq_zero hn
    subst this
    exact ⟨none, 0, rfl, Lies.nil, Nat.le_refl _, by omega⟩
  · exact ⟨_, c, rfl, Lies.of_own h, h1, h2⟩
theorem own_emptyK (w : World) (T : TypeId) (k : Nat) : (w.alloc (.cells #[] T)).ownsRow w.heap.size T k (.slice (some ⟨w.heap.size, 0, none⟩) 0 0) 0 [] :=
  ⟨by simp, .inr ⟨w.heap.size, 0, #[], rfl, Nat.le_refl _, heap_alloc_new _ _, Nat.le_refl _, by unfold maxLen; omega, by simp, by simp⟩⟩
/-- What an append onto a row leaves below. -/
theorem appK_more {B : Nat} {w w1 w2 : World} {v : Value} {e size n : Nat} {xs : List Value} (hb : Below B w w1) (hown : w1.ownsRow B e size v n xs) (hB : B ≤ w1.heap.size) (hg : w1.grownBy w2 v.ownBlock) : Below B w w2 :=
  hb.grown hg hB fun k hk => by
    rcases hown.2 with ⟨rfl, _⟩ | ⟨g', cap, cur, rfl, hb', _⟩
    · simp [Value.ownBlock] at hk
    · have : g' = k := by simpa [Value.ownBlock] using hk
      omega
end Go.Proofs.Ytefgepppcmhphaa
namespace Go.Proofs.Ytefgepppcmhphaa
set_option maxRecDepth 100000
set_option linter.unusedVariables false
set_option linter.unusedSimpArgs false
open Go.ChangeShapes Go.WideShapes Go.ChangeAt Go.RowKit

/-- A block's cells, one by one. -/
def Cells (w : World) (N : Nat) (vs : List Value) : Prop := ∀ i v, vs[i]? = some v → w.cell? ⟨N, i, none⟩ = some v
theorem Cells.keep {w w' : World} {N B : Nat} {vs : List Value} (H : Cells w N vs) (hb : Below B w w') (hN : N < B) : Cells w' N vs := fun i v h => (hb.cell (p := ⟨N, i, none⟩) hN).trans (H i v h)
theorem cells_new (w : World) (vs : List Value) (T : TypeId) : Cells (w.alloc (.cells vs.toArray T)) w.heap.size vs := fun i v h => by
  rw [World.cell?_alloc_at _ _ _ _ rfl]
  simpa using h
end Go.Proofs.Ytefgepppcmhphaa
namespace Go.Proofs.Ytefgepppcmhphaa
set_option maxRecDepth 100000
set_option linter.unusedVariables false
set_option linter.unusedSimpArgs false
open Go.ChangeShapes Go.WideShapes Go.ChangeAt Go.RowKit
set_option linter.unusedVariables false

/-- The cells of an image that was boxed. -/
def ImgBox (w : World) (N : Nat) (h : Hnd) (m : Img) : Prop :=
  w.cell? ⟨N, 0, none⟩ = some (.slice h.A0 m.classes.length h.c0) ∧ w.cell? ⟨N, 1, none⟩ = some (.slice h.A1 m.statics.length h.c1) ∧ w.cell? ⟨N, 2, none⟩ = some (.slice h.A2 m.ints.length h.c2) ∧
  w.cell? ⟨N, 3, none⟩ = some (.slice h.A3 m.methods.length h.c3) ∧ w.cell? ⟨N, 4, none⟩ = some (.slice h.A4 m.entries.length h.c4) ∧ w.cell? ⟨N, 5, none⟩ = some (.int .i64 m.stack) ∧ w.cell? ⟨N, 6, none⟩ = some (.int .i64 m.heap)
theorem ImgBox.keep {w w' : World} {N B : Nat} {h : Hnd} {m : Img} (H : ImgBox w N h m) (hb : Below B w w') (hN : N < B) : ImgBox w' N h m := by
  obtain ⟨h0, h1, h2, h3, h4, h5, h6⟩ := H
  have c : ∀ i, w'.cell? ⟨N, i, none⟩ = w.cell? ⟨N, i, none⟩ := fun i => hb.cell (p := ⟨N, i, none⟩) hN
  exact ⟨(c 0).trans h0, (c 1).trans h1, (c 2).trans h2, (c 3).trans h3, (c 4).trans h4, (c 5).trans h5, (c 6).trans h6⟩
/-- The image's cells as a block. -/
abbrev imgO (h : Hnd) (m : Img) : Obj :=
  .cells #[.slice h.A0 m.classes.length h.c0, .slice h.A1 m.statics.length h.c1, .slice h.A2 m.ints.length h.c2, .slice h.A3 m.methods.length h.c3, .slice h.A4 m.entries.length h.c4, .int .i64 m.stack, .int .i64 m.heap] 28
theorem img_box (w : World) (h : Hnd) (m : Img) : ImgBox (w.alloc (imgO h m)) w.heap.size h m := by
  refine ⟨?_, ?_, ?_, ?_, ?_, ?_, ?_⟩ <;> (rw [World.cell?_alloc_at _ _ _ _ rfl]; rfl)
theorem box3 {w w1 : World} {x y z : Value} {T : TypeId} (hb : Below (w.alloc (.cells #[x, y, z] T)).heap.size (w.alloc (.cells #[x, y, z] T)) w1) :
    w1.cell? ⟨w.heap.size, 0, none⟩ = some x ∧ w1.cell? ⟨w.heap.size, 1, none⟩ = some y ∧ w1.cell? ⟨w.heap.size, 2, none⟩ = some z := by
  have hs : w.heap.size < (w.alloc (.cells #[x, y, z] T)).heap.size := by simp
  refine ⟨(hb.cell hs).trans ?_, (hb.cell hs).trans ?_, (hb.cell hs).trans ?_⟩ <;> (rw [World.cell?_alloc_at _ _ _ _ rfl]; rfl)
theorem box8 {w w1 : World} {x0 x1 x2 x3 x4 x5 x6 x7 : Value} {T : TypeId} (hb : Below (w.alloc (.cells #[x0, x1, x2, x3, x4, x5, x6, x7] T)).heap.size (w.alloc (.cells #[x0, x1, x2, x3, x4, x5, x6, x7] T)) w1) :
    w1.cell? ⟨w.heap.size, 0, none⟩ = some x0 ∧ w1.cell? ⟨w.heap.size, 1, none⟩ = some x1 ∧ w1.cell? ⟨w.heap.size, 2, none⟩ = some x2 ∧ w1.cell? ⟨w.heap.size, 3, none⟩ = some x3 ∧
    w1.cell? ⟨w.heap.size, 4, none⟩ = some x4 ∧ w1.cell? ⟨w.heap.size, 5, none⟩ = some x5 ∧ w1.cell? ⟨w.heap.size, 6, none⟩ = some x6 ∧ w1.cell? ⟨w.heap.size, 7, none⟩ = some x7 := by
  have hs : w.heap.size < (w.alloc (.cells #[x0, x1, x2, x3, x4, x5, x6, x7] T)).heap.size := by simp
  refine ⟨(hb.cell hs).trans ?_, (hb.cell hs).trans ?_, (hb.cell hs).trans ?_, (hb.cell hs).trans ?_, (hb.cell hs).trans ?_, (hb.cell hs).trans ?_, (hb.cell hs).trans ?_, (hb.cell hs).trans ?_⟩ <;> (rw [World.cell?_alloc_at _ _ _ _ rfl]; rfl)
theorem all_take {α : Type} {f : α → Bool} {l : List α} {k : Nat} (hk : k < l.length) (h : ∀ x ∈ l.take k, f x = true) (hx : f l[k] = true) : ∀ x ∈ l.take (k + 1), f x = true := by
  rw [List.take_add_one, List.getElem?_eq_getElem hk]
  intro x hm
  rcases List.mem_append.mp hm with g | g
  · exact h x g
  · simp at g; subst g; exact hx
theorem all_not {α : Type} {f : α → Bool} {l : List α} {k : Nat} (hk : k < l.length) (hx : f l[k] = false) : l.all f = false := by
  rw [Bool.eq_false_iff]
  intro h
  have := List.all_eq_true.mp h _ (List.getElem_mem hk)
  rw [hx] at this
  cases this
theorem all_end {α : Type} {f : α → Bool} {l : List α} {k : Nat} (h : ∀ x ∈ l.take k, f x = true) (hk : l.length ≤ k) : l.all f = true := by
  rw [List.take_of_length_le hk] at h
  exact List.all_eq_true.mpr h
end Go.Proofs.Ytefgepppcmhphaa
namespace Go.Proofs.Ytefgepppcmhphaa
set_option maxRecDepth 100000
set_option linter.unusedVariables false
set_option linter.unusedSimpArgs false
open Go.ChangeShapes Go.WideShapes Go.ChangeAt Go.RowKit
set_option linter.unusedVariables false

/-- A block that holds an image by value, and the image stands. -/
structure Boxed (w : World) (g : Nat) (h : Hnd) (m : Img) : Prop where
  box : ImgBox w g h m
  lt : g < w.heap.size
  img : ImgIn w w.heap.size h m
theorem ImgIn.now {w w' : World} {h : Hnd} {m : Img} (H : ImgIn w w.heap.size h m) (hb : Below w.heap.size w w') : ImgIn w' w'.heap.size h m :=
  (H.below_to hb (Nat.le_refl _)).more hb.size
theorem Boxed.keep {w w' : World} {g : Nat} {h : Hnd} {m : Img} (H : Boxed w g h m) (hb : Below w.heap.size w w') : Boxed w' g h m :=
  ⟨H.box.keep hb H.lt, Nat.lt_of_lt_of_le H.lt hb.size, H.img.now hb⟩
theorem Boxed.new {w : World} {h : Hnd} {m : Img} (H : ImgIn w w.heap.size h m) : Boxed (w.alloc (imgO h m)) w.heap.size h m :=
  ⟨img_box w h m, by simp, H.now ((Below.refl _ _).alloc (Nat.le_refl _) _)⟩
theorem below_box {w : World} {h : Hnd} {m : Img} : Below w.heap.size w (w.alloc (imgO h m)) := (Below.refl _ _).alloc (Nat.le_refl _) _

end Go.Proofs.Ytefgepppcmhphaa
namespace Go.Proofs.Ytefgepppcmhphaa
set_option maxRecDepth 100000
set_option linter.unusedVariables false
set_option linter.unusedSimpArgs false
open Go.ChangeShapes Go.WideShapes Go.ChangeAt Go.RowKit
set_option linter.unusedVariables false
set_option linter.unusedSimpArgs false

theorem info_type : (Try.prog.info? 49).map (fun i => (i.zero, i.size, i.bytes)) = some (some (.agg #[.int .i64 0, .int .i64 0]), 2, 16) := by kernel_rfl
theorem info_partsK {P : Program} {t : TypeId} {z : Value} {k b : Nat} (h : (P.info? t).map (fun i => (i.zero, i.size, i.bytes)) = some (some z, k, b)) : ∃ i, P.info? t = some i ∧ i.zero = some z ∧ i.size = k ∧ i.bytes = b := by
  cases hi : P.info? t with
  | none => rw [hi] at h; simp at h
  | some i =>
    rw [hi] at h
    simp only [Option.map_some, Option.some.injEq, Prod.mk.injEq] at h
    exact ⟨i, rfl, h.1, h.2.1, h.2.2⟩
/-- Types in a row of the call's own. -/
def OwnTypes (l : List (Int × Int)) (w : World) (e : Ending) (w' : World) : Prop :=
  ∃ v, e = .returned v ∧ w'.ownsRow w.heap.size 49 2 v l.length (tysV l) ∧ Below w.heap.size w w'
theorem int_lies {w : World} {B : Nat} {A : Option Addr} {l : List Int} (h : Lies w B A (l.map (Value.int .i64))) {k : Nat} (hk : k < l.length) : ∃ ad, A = some ad ∧ ad.block < B ∧ w.cell? (ad.add k) = some (.int .i64 l[k]) := by
  obtain ⟨ad, e, hb, hc⟩ := h.at_ (k := k) (by simpa using hk)
  simp only [List.getElem_map] at hc
  exact ⟨ad, e, hb, hc⟩
theorem fields_sum {cl : List Cls} (h : ∀ c ∈ cl, c.fields.length ≤ 1000) : ∀ l : List Int, (l.flatMap (fieldsAt cl)).length ≤ 1000 * l.length
  | [] => by simp
  | i :: l => by
    rw [List.flatMap_cons, List.length_append, List.length_cons]
    have := fields_sum h l
    have hi : (fieldsAt cl i).length ≤ 1000 := by
      unfold fieldsAt
      split
      · rename_i c hc
        exact h c (List.mem_of_getElem? hc)
      · simp
    omega

theorem rabove_is {sup U : List Int} {c : Int} {A : Option Addr} {cap n : Nat} {w : World} (HN : Hid (sup.length = n)) (hn : n ≤ 1048576) (HU : Hid (aboveI sup c = U)) (HS : Hid (Supers w w.heap.size A sup)) :
    Calls Try.prog 54 #[.slice A n cap, .int .i64 c] w (OwnInts U w) := by
  obtain rfl := HN.out
  have h := rabove_any sup c A cap w.heap.size w hn (Nat.le_refl _) HS.out
  rw [HU.out] at h
  exact h
theorem fieldsAt_get {cl : List Cls} {i : Nat} (h : i < cl.length) : fieldsAt cl (i : Int) = cl[i].fields := by
  unfold fieldsAt
  rw [Int.toNat_natCast, List.getElem?_eq_getElem h]

set_option maxHeartbeats 1600000 in
theorem rfields_any (m : Img) (c : Int) (h : Hnd) (w : World) (H : ImgIn w w.heap.size h m) (hn : m.classes.length ≤ 1000) (hf : ∀ x ∈ m.classes, x.fields.length ≤ 1000) :
    Calls Try.prog 49 #[imgV h m, .int .i64 c] w (OwnTypes (fieldsOf m.classes c) w) := by
  obtain ⟨i0, hi, hz0, hz1, hz2⟩ := info_partsK info_type
  have HW := Lib.hid ((Below.refl w.heap.size w).alloc (Nat.le_refl _) (imgO h m))
  have HIM := Lib.hid (H.now HW.out)
  have HBX := Lib.hid (img_box w h m)
  have HZ : Hid (w.heap.size < (w.alloc (imgO h m)).heap.size) := Lib.hid (by simp)
  have HF := Lib.hid hf
  have HS := Lib.hid (supers_of HIM.out.classes.row)
  have hsl : (supsOf m.classes).length = m.classes.length := supsOf_len _
  have HFO := Lib.hid (show fieldsOf m.classes c = (aboveI (supsOf m.classes) c).reverse.flatMap (fieldsAt m.classes) from rfl)
  obtain ⟨U, hU⟩ : ∃ U, aboveI (supsOf m.classes) c = U := ⟨_, rfl⟩
  have hUl : U.length ≤ 1000 := by rw [← hU]; have := aboveI_len (supsOf m.classes) c; omega
  have HUm : Hid (∀ i ∈ U, 0 ≤ i ∧ i < m.classes.length) := Lib.hid (by rw [← hU]; intro i hi; have := aboveI_lt hi; omega)
  have HU := Lib.hid hU
  rw [hU] at HFO
  have HSl := Lib.hid hsl
  clear hsl hU H hf
  go_enter Try.func49, Try.ntmps49
  go_upto_region 1 with fail
  generalize w.alloc (imgO h m) = w1 at *
  obtain ⟨q0, q1, q2, q3, q4, q5, q6⟩ := HBX.out
  go_upto_region 2 with (go_at_call 54; (with_reducible refine (rabove_is HSl (by omega) HU HS).mono ?_); rintro e w2 ⟨v2, rfl, ho, hb⟩; have HB2 := Lib.hid hb; obtain ⟨A2, c2, rfl, hl2, g1, g2⟩ := own_ints ho; have HL2 := Lib.hid hl2; clear hb ho hl2)
  have HI2 := Lib.hid (HIM.out.now HB2.out)
  clear q0 q1 q2 q3 q4 q5 q6
  obtain ⟨q0, q1, q2, q3, q4, q5, q6⟩ := HBX.out.keep HB2.out HZ.out
  go_wp2
  go_loopw [6, 7] (fun v i wr => ∃ (k : Nat) (z : Int), k ≤ U.length ∧ i = .int .i64 z ∧ z = (k : Int) - 1 ∧ Hid (wr.ownsRow w2.heap.size 49 2 v ((U.drop k).reverse.flatMap (fieldsAt m.classes)).length (tysV ((U.drop k).reverse.flatMap (fieldsAt m.classes)))) ∧ Hid (Below w2.heap.size w2 wr)) (fun _ i _ => (intOf i + 1).toNat)
  case atStart => exact ⟨U.length, _, Nat.le_refl _, rfl, rfl, Lib.hid (by rw [List.drop_length]; exact own_emptyK w2 _ 2), Lib.hid ((Below.refl _ _).alloc (Nat.le_refl _) _)⟩
  case round =>
    clear q0 q1 q2 q3 q4 q5 q6
    obtain ⟨k, z, hk, rfl, hz, HO, HX⟩ := hrel
    rcases k with _ | j
    · obtain rfl : z = -1 := by omega
      clear hz
      go_wp2_with fail
      go_ret
      refine ⟨_, rfl, ?_, HW.out.trans ((HB2.out.trans (HX.out.mono HB2.out.size)).mono (Nat.le_of_lt HZ.out))⟩
      rw [HFO.out]
      exact own_lower (by simpa using HO.out) (Nat.le_trans (Nat.le_of_lt HZ.out) HB2.out.size)
    · obtain rfl : z = (j : Int) := by omega
      clear hz
      have hjl : j < U.length := hk
      obtain ⟨q0, q1, q2, q3, q4, q5, q6⟩ := HBX.out.keep (HB2.out.trans (HX.out.mono HB2.out.size)) HZ.out
      obtain ⟨ad, rfl, had, hc⟩ := int_lies HL2.out hjl
      obtain ⟨u0, u1⟩ := HUm.out U[j] (List.getElem_mem hjl)
      have HT : Hid ((U.drop j).reverse.flatMap (fieldsAt m.classes) = (U.drop (j + 1)).reverse.flatMap (fieldsAt m.classes) ++ fieldsAt m.classes U[j]) := Lib.hid (by rw [List.drop_eq_getElem_cons hjl, List.reverse_cons, List.flatMap_append, List.flatMap_singleton])
      have hsum := fields_sum HF.out (U.drop (j + 1)).reverse
      have hsl : (U.drop (j + 1)).reverse.length ≤ 1000 := by rw [List.length_reverse, List.length_drop]; omega
      generalize U[j] = u at *
      obtain ⟨n, rfl⟩ := Int.eq_ofNat_of_zero_le u0
      have hnl : n < m.classes.length := by omega
      have hfx := HF.out _ (List.getElem_mem hnl)
      have HFA := Lib.hid (fieldsAt_get hnl)
      obtain ⟨adc, e0, hab, hcl⟩ := HI2.out.classes.row.at_ hnl
      generalize m.classes[n] = x at *
      rw [HFA.out] at HT
      obtain ⟨L, hL⟩ : ∃ L, (U.drop (j + 1)).reverse.flatMap (fieldsAt m.classes) = L := ⟨_, rfl⟩
      rw [hL] at HT HO hsum
      have hLl : L.length ≤ 1000000 := by omega
      obtain ⟨s0, ⟨A1, k1, s1, hs1⟩, _⟩ := hcl
      rw [e0] at q0
      have HC2 : Hid (∀ W, Below w2.heap.size w2 W → W.cell? (ad.add j) = some (.int .i64 (n : Int))) := Lib.hid (fun W hW => (hW.cell (p := ad.add j) (by rw [addr_add_block]; exact had)).trans hc)
      have HS2 : Hid (∀ W, Below w2.heap.size w2 W → W.cell? (off_ (adc.add (n * 3)) 1) = some (.slice A1 x.fields.length k1)) := Lib.hid (fun W hW => (hW.cell (p := off_ (adc.add (n * 3)) 1) (by show (adc.add _).block < _; rw [addr_add_block]; exact hab)).trans s1)
      have HQ2 : Hid (∀ W, Below w2.heap.size w2 W → W.cell? ⟨w.heap.size, 0, none⟩ = some (.slice (some adc) m.classes.length h.c0)) := Lib.hid (fun W hW => by have := (HBX.out.keep (HB2.out.trans (hW.mono HB2.out.size)) HZ.out).1; rw [e0] at this; exact this)
      have hc := HC2.out _ HX.out
      have s1 := HS2.out _ HX.out
      have HTL := Lib.hid (tys_lie (hs1.below_to TyAt.keeps HX.out (Nat.le_refl _)).row)
      have bc1 := HI2.out.classes.le
      have bc2 := HI2.out.classes.cap
      have hs2 := hs1.le
      have hs3 := hs1.cap
      have hsz := HX.out.size
      clear e0 hs1 hL hsum hsl s0 u0 u1
      go_upto_region 6 with fail
      have HO : Hid (wr.drew.ownsRow w2.heap.size 49 2 u6 L.length (tysV L)) := HO
      have HX : Hid (Below w2.heap.size w2 wr.drew) := Lib.hid HX.out.drew
      have HTL : Hid (Lies wr.drew w2.heap.size A1 (tysV x.fields)) := HTL
      have hsz : w2.heap.size ≤ wr.drew.heap.size := hsz
      refine wp_region_noPanic ?_
      refine wp_region_held_drew (S := (fun w' => w'.cell? ⟨w.heap.size, 0, none⟩ = some (.slice (some adc) m.classes.length h.c0) ∧ w'.cell? (ad.add j) = some (.int .i64 (n : Int)) ∧ w'.cell? (off_ (adc.add (n * 3)) 1) = some (.slice A1 x.fields.length k1))) (by kernel_rfl) ⟨q0, hc, s1⟩ (fun hHeld => ?_)
      refine wpAnyH_take (i := 0) (oi := _) (v := ?_) rfl (by kernel_rfl) (by kernel_rfl) (by kernel_rfl) (fun _ _ _ h => h) (Or.inl ⟨by rfl, ?_⟩) (by assumption) ?_
      rotate_left
      · (intro w hSw; (try dsimp only at hSw); go_simp <;> with_reducible rfl)
      try simp only [List.getElem_toArray, List.getElem_cons_succ, List.getElem_cons_zero, Act.put, List.setIfInBounds_toArray, List.set_cons_zero, List.set_cons_succ]
      refine wpAnyH_take (i := 1) (oi := _) (v := ?_) rfl (by kernel_rfl) (by kernel_rfl) (by kernel_rfl) (fun _ _ _ h => h) (Or.inl ⟨by rfl, ?_⟩) (by assumption) ?_
      rotate_left
      · (intro w hSw; (try dsimp only at hSw); go_simp <;> with_reducible rfl)
      try simp only [List.getElem_toArray, List.getElem_cons_succ, List.getElem_cons_zero, Act.put, List.setIfInBounds_toArray, List.set_cons_zero, List.set_cons_succ]
      refine wpAnyH_take (i := 2) (oi := _) (v := ?_) rfl (by kernel_rfl) (by kernel_rfl) (by kernel_rfl) (fun _ _ _ h => h) (Or.inl ⟨by rfl, ?_⟩) (by assumption) ?_
      rotate_left
      · (intro w hSw; (try dsimp only at hSw); go_simp <;> with_reducible rfl)
      try simp only [List.getElem_toArray, List.getElem_cons_succ, List.getElem_cons_zero, Act.put, List.setIfInBounds_toArray, List.set_cons_zero, List.set_cons_succ]
      refine wpAnyH_take (i := 3) (oi := _) (v := ?_) rfl (by kernel_rfl) (by kernel_rfl) (by kernel_rfl) (fun _ _ _ h => h) (Or.inl ⟨by rfl, ?_⟩) (by assumption) ?_
      rotate_left
      · (intro w hSw; (try dsimp only at hSw); go_simp <;> with_reducible rfl)
      try simp only [List.getElem_toArray, List.getElem_cons_succ, List.getElem_cons_zero, Act.put, List.setIfInBounds_toArray, List.set_cons_zero, List.set_cons_succ]
      refine wpAnyH_take (i := 4) (oi := _) (v := ?_) rfl (by kernel_rfl) (by kernel_rfl) (by kernel_rfl) (fun _ _ _ h => h) (Or.inl ⟨by rfl, ?_⟩) (by assumption) ?_
      rotate_left
      · (intro w hSw; (try dsimp only at hSw); go_simp <;> with_reducible rfl)
      try simp only [List.getElem_toArray, List.getElem_cons_succ, List.getElem_cons_zero, Act.put, List.setIfInBounds_toArray, List.set_cons_zero, List.set_cons_succ]
      refine wpAnyH_take (i := 5) (oi := _) (v := ?_) rfl (by kernel_rfl) (by kernel_rfl) (by kernel_rfl) (fun _ _ _ h => h) (Or.inl ⟨by rfl, ?_⟩) (by assumption) ?_
      rotate_left
      · (intro w hSw; (try dsimp only at hSw); go_simp <;> with_reducible rfl)
      try simp only [List.getElem_toArray, List.getElem_cons_succ, List.getElem_cons_zero, Act.put, List.setIfInBounds_toArray, List.set_cons_zero, List.set_cons_succ]
      refine wpAnyH_take (i := 6) (oi := _) (v := ?_) rfl (by kernel_rfl) (by kernel_rfl) (by kernel_rfl) (fun _ _ _ h => h) (Or.inl ⟨by rfl, ?_⟩) (by assumption) ?_
      rotate_left
      · (intro w hSw; (try dsimp only at hSw); go_simp <;> with_reducible rfl)
      try simp only [List.getElem_toArray, List.getElem_cons_succ, List.getElem_cons_zero, Act.put, List.setIfInBounds_toArray, List.set_cons_zero, List.set_cons_succ]
      refine wpAnyH_take (i := 7) (oi := _) (v := ?_) rfl (by kernel_rfl) (by kernel_rfl) (by kernel_rfl) (fun _ _ _ h => h) (Or.inl ⟨by rfl, ?_⟩) (by assumption) ?_
      rotate_left
      · (intro w hSw; (try dsimp only at hSw); go_simp <;> with_reducible rfl)
      try simp only [List.getElem_toArray, List.getElem_cons_succ, List.getElem_cons_zero, Act.put, List.setIfInBounds_toArray, List.set_cons_zero, List.set_cons_succ]
      refine wpAnyH_take (i := 8) (oi := _) (v := ?_) rfl (by kernel_rfl) (by kernel_rfl) (by kernel_rfl) (fun _ _ _ h => h) (Or.inl ⟨by rfl, ?_⟩) (by assumption) ?_
      rotate_left
      · (intro w hSw; (try dsimp only at hSw); go_simp <;> with_reducible rfl)
      try simp only [List.getElem_toArray, List.getElem_cons_succ, List.getElem_cons_zero, Act.put, List.setIfInBounds_toArray, List.set_cons_zero, List.set_cons_succ]
      refine wpAnyH_take (i := 9) (oi := _) (v := ?_) rfl (by kernel_rfl) (by kernel_rfl) (by kernel_rfl) (fun _ _ _ h => h) (Or.inl ⟨by rfl, ?_⟩) (by assumption) ?_
      rotate_left
      · (intro w hSw; (try dsimp only at hSw); go_simp <;> with_reducible rfl)
      try simp only [List.getElem_toArray, List.getElem_cons_succ, List.getElem_cons_zero, Act.put, List.setIfInBounds_toArray, List.set_cons_zero, List.set_cons_succ]
      refine wpAnyH_ready (rs := [10]) (by kernel_rfl) (by simp) ?_
      refine AllReadyH.cons (o := _) rfl (fun K hK => ?_) AllReadyH.nil
      (refine step_appK rfl _ _ 23 rfl w2.heap.size 49 i0 (.agg #[.int .i64 0, .int .i64 0]) 2 16 Try.underlying23 hi hz0 hz1 hz2 rfl (by decide) _ L.length (tysV L) rfl HO.out A1 x.fields.length k1 _ (tysV x.fields) (tysV_len _) rfl HTL.out (tysV_one _) (by unfold maxLen; omega) (by omega) hsz ?_; intro v6 w6 hown hgrow; have HX6 := Lib.hid (appK_more HX.out HO.out hsz hgrow); have HO6 := Lib.hid hown; clear hown hgrow)
      refine hK.out _ _ ⟨HQ2.out _ HX6.out, HC2.out _ HX6.out, HS2.out _ HX6.out⟩ (fun hHeld => ?_)
      clear hK K
      try simp only [List.getElem_toArray, List.getElem_cons_succ, List.getElem_cons_zero, Act.put, List.setIfInBounds_toArray, List.set_cons_zero, List.set_cons_succ]
      refine wpAnyH_take (i := 11) (oi := _) (v := ?_) rfl (by kernel_rfl) (by kernel_rfl) (by kernel_rfl) (fun _ _ _ h => h) (Or.inl ⟨by rfl, ?_⟩) (by assumption) ?_
      rotate_left
      · (intro w hSw; (try dsimp only at hSw); go_simp <;> with_reducible rfl)
      try simp only [List.getElem_toArray, List.getElem_cons_succ, List.getElem_cons_zero, Act.put, List.setIfInBounds_toArray, List.set_cons_zero, List.set_cons_succ]
      refine wpAnyH_done (by kernel_rfl) ?_ _
      refine NoPanic.normal ?_
      go_wp2_with fail
      go_roundw
      case rel =>
        refine ⟨j, (j : Int) - 1, by omega, by go_num, rfl, Lib.hid ?_, HX6⟩
        rw [HT.out]
        unfold tysV at HO6 ⊢
        rw [List.flatMap_append, List.length_append]
        exact HO6.out
      case measure => simp [intOf]
section
variable {m : Img} {h : Hnd} {w0 w : World} {c : Int}
theorem rfields_is {L : List (Int × Int)} (HI : Hid (ImgIn w0 w0.heap.size h m)) (HX : Hid (Below w0.heap.size w0 w)) (HL : Hid (fieldsOf m.classes c = L)) (hn : m.classes.length ≤ 1000) (HF : Hid (∀ x ∈ m.classes, x.fields.length ≤ 1000)) :
    Calls Try.prog 49 #[imgV h m, .int .i64 c] w (OwnTypes L w) := by
  have H := rfields_any m c h w (HI.out.now HX.out) hn HF.out
  rw [HL.out] at H
  exact H
end
theorem fieldsOf_len {cl : List Cls} (h : ∀ c ∈ cl, c.fields.length ≤ 1000) (hn : cl.length ≤ 1000) (c : Int) : (fieldsOf cl c).length ≤ 1000000 := by
  have h1 := fields_sum h (aboveI (supsOf cl) c).reverse
  have h2 := aboveI_len (supsOf cl) c
  rw [supsOf_len] at h2
  rw [List.length_reverse] at h1
  show ((aboveI (supsOf cl) c).reverse.flatMap (fieldsAt cl)).length ≤ 1000000
  omega
end Go.Proofs.Ytefgepppcmhphaa
