/-
  Worlds of which some blocks are blanked: what still stands there lies in none of them. Rows of the call's own that grow by one. What a reader's parts answer. Plain definitions and lemmas; no conditions.
-/
import Derived.Test.YtikljohgdgibnaaAppK
import Derived.Test.YtikljohgdgibnaaImg
import Derived.Test.YtikljohgdgibnaaInst
import Derived.Test.YtikljohgdgibnaaBitsLong
import Derived.Deep.AppendLies
namespace Go.Proofs.Ytikljohgdgibnaa
set_option maxRecDepth 100000
open Go.ChangeShapes Go.WideShapes Go.ChangeAt Go.RowKit
set_option linter.unusedVariables false

/-- A world with some blocks blanked. -/
def Hole (S : Nat → Bool) (w : World) : World := { w with heap := w.heap.mapIdx fun i o => if S i then .cells #[] 0 (0, 0) else o }
theorem hole_size (S : Nat → Bool) (w : World) : (Hole S w).heap.size = w.heap.size := by simp [Hole]
theorem hole_cell {S : Nat → Bool} {w : World} {q : Addr} {v : Value} : (Hole S w).cell? q = some v ↔ S q.block = false ∧ w.cell? q = some v := by
  unfold Hole World.cell?
  simp only [Array.getElem?_mapIdx]
  cases hs : S q.block <;> cases hq : w.heap[q.block]? <;> simp
theorem hole_frozen {S : Nat → Bool} {w : World} {q : Addr} (h : S q.block = false) : (Hole S w).frozen? q = w.frozen? q := by
  unfold Hole World.frozen?
  simp only [Array.getElem?_mapIdx]
  cases hq : w.heap[q.block]? <;> simp [h]
/-- The blocks that were there. -/
def old (w : World) : Nat → Bool := fun b => decide (b < w.heap.size)
theorem old_no {w : World} {b : Nat} : old w b = false ↔ w.heap.size ≤ b := by unfold old; simp

/-- It stays where more cells stand. -/
def Mono {α : Type} (At : AtP α) : Prop := ∀ ⦃w w' : World⦄ ⦃B C : Nat⦄ ⦃p : Addr⦄ ⦃x : α⦄, At w B p x → p.block < B → B ≤ C → (∀ q v, q.block < B → w.cell? q = some v → w'.cell? q = some v) → At w' C p x
theorem RowOf.mono {α : Type} {At : AtP α} (hK : Mono At) {k : Nat} {w w' : World} {B C : Nat} {A : Option Addr} {l : List α} (h : RowOf At k w B A l) (hC : B ≤ C) (hc : ∀ q v, q.block < B → w.cell? q = some v → w'.cell? q = some v) : RowOf At k w' C A l := fun i x hi => by
  obtain ⟨ad, e, hb, ha⟩ := h i x hi
  exact ⟨ad, e, Nat.lt_of_lt_of_le hb hC, hK ha (by rw [addr_add_block]; exact hb) hC hc⟩
theorem SlcIs.mono {α : Type} {At : AtP α} (hK : Mono At) {k : Nat} {w w' : World} {B C : Nat} {A : Option Addr} {cap : Nat} {l : List α} (h : SlcIs At k w B A cap l) (hC : B ≤ C) (hc : ∀ q v, q.block < B → w.cell? q = some v → w'.cell? q = some v) : SlcIs At k w' C A cap l :=
  ⟨h.le, h.cap, h.row.mono hK hC hc⟩
theorem IntAt.mono : Mono IntAt := fun _ _ _ _ p _ h hp _ hc => hc _ _ hp h
theorem LongAt.mono : Mono LongAt := fun _ _ _ _ p _ h hp _ hc => ⟨hc _ _ hp h.1, h.2⟩
theorem TyAt.mono : Mono TyAt := fun _ _ _ _ p _ h hp _ hc => ⟨hc _ _ hp h.1, hc (off_ p 1) _ hp h.2⟩
theorem CodeAt.mono : Mono CodeAt := fun _ _ _ _ p _ h hp _ hc => ⟨hc _ _ hp h.1, hc (off_ p 1) _ hp h.2.1, hc (off_ p 2) _ hp h.2.2⟩
theorem SlcAt.mono {α : Type} {At : AtP α} (hK : Mono At) (k : Nat) : Mono (SlcAt At k) := fun _ _ _ _ _ _ ⟨A, cap, h, hs⟩ hp hC hc => ⟨A, cap, hc _ _ hp h, hs.mono hK hC hc⟩
theorem ClsAt.mono : Mono ClsAt := fun _ _ _ _ _ _ h hp hC hc => ⟨hc _ _ hp h.sup, SlcAt.mono TyAt.mono 2 h.fields hp hC hc, SlcAt.mono IntAt.mono 1 h.slots hp hC hc, h.rng⟩
theorem MthAt.mono : Mono MthAt := fun _ _ _ _ p _ h hp hC hc =>
  ⟨SlcAt.mono TyAt.mono 2 h.args hp hC hc, SlcAt.mono TyAt.mono 2 h.locals hp hC hc, hc (off_ p 2) _ hp h.ret0, hc (off_ p 3) _ hp h.ret1, SlcAt.mono CodeAt.mono 3 h.code hp hC hc,
    hc (off_ p 5) _ hp h.depth, hc (off_ p 6) _ hp h.pot, SlcAt.mono IntAt.mono 1 h.phi hp hC hc⟩

theorem SlcIs.hole {α : Type} {At : AtP α} (hK : Mono At) {k : Nat} {S S' : Nat → Bool} {w w' : World} {B C : Nat} {A : Option Addr} {cap : Nat} {l : List α} (h : SlcIs At k (Hole S w) B A cap l) (hC : B ≤ C)
    (hs : ∀ b, b < B → S b = false → S' b = false ∧ w'.heap[b]? = w.heap[b]?) : SlcIs At k (Hole S' w') C A cap l :=
  h.mono hK hC fun q v hq hc => by
    obtain ⟨h1, h2⟩ := hole_cell.mp hc
    obtain ⟨g1, g2⟩ := hs _ hq h1
    exact hole_cell.mpr ⟨g1, (World.cell?_of_block (w := w) g2).trans h2⟩
theorem SlcIs.of_hole {α : Type} {At : AtP α} (hK : Mono At) {k : Nat} {S : Nat → Bool} {w : World} {B : Nat} {A : Option Addr} {cap : Nat} {l : List α} (h : SlcIs At k (Hole S w) B A cap l) : SlcIs At k w B A cap l :=
  h.mono hK (Nat.le_refl _) fun q v hq hc => (hole_cell.mp hc).2

/-- A block that is known whole, over a change elsewhere; with a cell turned. -/
theorem block_far {w w1 : World} {N b : Nat} {o : Obj} (h : w.heap[b]? = some o) (hg : w.grownBy w1 (some N)) (hne : b ≠ N) : w1.heap[b]? = some o := by
  rw [hg.block b (lt_of_block h) (fun e => hne (by injection e)), h]
theorem block_set {w : World} {b i : Nat} {vs : List Value} {T : TypeId} {fr : Nat × Nat} (h : w.heap[b]? = some (.cells vs.toArray T fr)) (v : Value) : (w.setCell ⟨b, i, none⟩ v).heap[b]? = some (.cells (vs.set i v).toArray T fr) := by
  have hlt := lt_of_block h
  have h' : w.heap[b] = .cells vs.toArray T fr := by simpa [Array.getElem?_eq_getElem hlt] using h
  show (w.heap.modify b _)[b]? = _
  rw [Array.getElem?_eq_getElem (by simpa using hlt), Array.getElem_modify_self, h']
  simp
theorem block_other {w : World} {b : Nat} {o : Obj} (h : w.heap[b]? = some o) {a : Addr} (ha : b ≠ a.block) (v : Value) : (w.setCell a v).heap[b]? = some o := (Below.heap_setCell w a v b ha).trans h
theorem block_cell {w : World} {b : Nat} {vs : List Value} {T : TypeId} {fr : Nat × Nat} (h : w.heap[b]? = some (.cells vs.toArray T fr)) (i : Nat) (v : Value) (hv : vs[i]? = some v) : w.cell? ⟨b, i, none⟩ = some v := by
  simp [World.cell?, h, hv]
theorem block_free {w : World} {b : Nat} {vs : List Value} {T : TypeId} (h : w.heap[b]? = some (.cells vs.toArray T (0, 0))) (i : Nat) : w.frozen? ⟨b, i, none⟩ = false := by
  simp [World.frozen?, h]

/-- What the cells of one element of a row stand for. -/
abbrev ElP (α : Type) := World → List Value → α → Prop
def EMono {α : Type} (El : ElP α) : Prop := ∀ ⦃W W' : World⦄ ⦃vs : List Value⦄ ⦃x : α⦄, El W vs x → W.heap.size ≤ W'.heap.size → (∀ q v, q.block < W.heap.size → W.cell? q = some v → W'.cell? q = some v ∧ W'.frozen? q = W.frozen? q) → El W' vs x
def ElInt : ElP Int := fun _ vs n => vs = [.int .i64 n]
def ElLong : ElP Int := fun _ vs n => vs = [.int .i32 n] ∧ -2147483648 ≤ n ∧ n ≤ 2147483647
def ElTy : ElP (Int × Int) := fun _ vs t => vs = [.int .i64 t.1, .int .i64 t.2]
def ElCode : ElP (Int × Int × Int) := fun _ vs i => vs = [.int .i64 i.1, .int .i64 i.2.1, .int .i64 i.2.2]
def ElCls : ElP Cls := fun W vs c => ∃ A1 k1 A2 k2, vs = [.int .i64 c.sup, .slice A1 c.fields.length k1, .slice A2 c.slots.length k2] ∧ SlcIs TyAt 2 W W.heap.size A1 k1 c.fields ∧ SlcIs IntAt 1 W W.heap.size A2 k2 c.slots ∧ -9223372036854775808 ≤ c.sup ∧ c.sup ≤ 9223372036854775807
def ElMth : ElP Mth := fun W vs x => ∃ A0 k0 A1 k1 A4 k4 A7 k7, vs = [.slice A0 x.args.length k0, .slice A1 x.locals.length k1, .int .i64 x.ret.1, .int .i64 x.ret.2, .slice A4 x.code.length k4, .int .i64 x.depth, .int .i64 x.pot, .slice A7 x.phi.length k7] ∧
  SlcIs TyAt 2 W W.heap.size A0 k0 x.args ∧ SlcIs TyAt 2 W W.heap.size A1 k1 x.locals ∧ SlcIs CodeAt 3 W W.heap.size A4 k4 x.code ∧ SlcIs IntAt 1 W W.heap.size A7 k7 x.phi
theorem ElInt.mono : EMono ElInt := fun _ _ _ _ h _ _ => h
theorem ElLong.mono : EMono ElLong := fun _ _ _ _ h _ _ => h
theorem ElTy.mono : EMono ElTy := fun _ _ _ _ h _ _ => h
theorem ElCode.mono : EMono ElCode := fun _ _ _ _ h _ _ => h
theorem ElCls.mono : EMono ElCls := fun _ _ _ _ ⟨A1, k1, A2, k2, e, h1, h2, h3⟩ hs hc => ⟨A1, k1, A2, k2, e, h1.mono TyAt.mono hs (fun q v h1 h2 => (hc q v h1 h2).1), h2.mono IntAt.mono hs (fun q v h1 h2 => (hc q v h1 h2).1), h3⟩
theorem ElMth.mono : EMono ElMth := fun _ _ _ _ ⟨A0, k0, A1, k1, A4, k4, A7, k7, e, h0, h1, h4, h7⟩ hs hc => ⟨A0, k0, A1, k1, A4, k4, A7, k7, e, h0.mono TyAt.mono hs (fun q v h1 h2 => (hc q v h1 h2).1), h1.mono TyAt.mono hs (fun q v h1 h2 => (hc q v h1 h2).1), h4.mono CodeAt.mono hs (fun q v h1 h2 => (hc q v h1 h2).1), h7.mono IntAt.mono hs (fun q v h1 h2 => (hc q v h1 h2).1)⟩
/-- It stands at an address, if its cells do. -/
def ElAt {α : Type} (El : ElP α) (At : AtP α) (k : Nat) : Prop := ∀ ⦃W : World⦄ ⦃vs : List Value⦄ ⦃x : α⦄ ⦃p : Addr⦄, El W vs x → (∀ j u, vs[j]? = some u → W.cell? (p.add j) = some u) → vs.length = k ∧ At W W.heap.size p x
theorem add_zero' (p : Addr) : p.add 0 = p := by simp [Addr.add]
theorem add_off' {n : Nat} (p : Addr) (h : 0 < n) : p.add n = off_ p n := by
  unfold Addr.add off_
  rw [if_neg (by omega)]
theorem ElInt.at_ : ElAt ElInt IntAt 1 := fun W vs x p e hc => by subst e; exact ⟨rfl, by have := hc 0 _ rfl; rwa [add_zero'] at this⟩
theorem ElLong.at_ : ElAt ElLong LongAt 1 := fun W vs x p e hc => by obtain ⟨rfl, h⟩ := e; exact ⟨rfl, by have := hc 0 _ rfl; rwa [add_zero'] at this, h⟩
theorem ElTy.at_ : ElAt ElTy TyAt 2 := fun W vs x p e hc => by
  subst e
  exact ⟨rfl, by have := hc 0 _ rfl; rwa [add_zero'] at this, by have := hc 1 _ rfl; rwa [add_off' _ (by decide)] at this⟩
theorem ElCode.at_ : ElAt ElCode CodeAt 3 := fun W vs x p e hc => by
  subst e
  exact ⟨rfl, by have := hc 0 _ rfl; rwa [add_zero'] at this, by have := hc 1 _ rfl; rwa [add_off' _ (by decide)] at this, by have := hc 2 _ rfl; rwa [add_off' _ (by decide)] at this⟩
theorem ElCls.at_ : ElAt ElCls ClsAt 3 := fun W vs x p e hc => by
  obtain ⟨A1, k1, A2, k2, rfl, h1, h2, h3⟩ := e
  exact ⟨rfl, by have := hc 0 _ rfl; rwa [add_zero'] at this, ⟨A1, k1, by have := hc 1 _ rfl; rwa [add_off' _ (by decide)] at this, h1⟩, ⟨A2, k2, by have := hc 2 _ rfl; rwa [add_off' _ (by decide)] at this, h2⟩, h3⟩
theorem ElMth.at_ : ElAt ElMth MthAt 8 := fun W vs x p e hc => by
  obtain ⟨A0, k0, A1, k1, A4, k4, A7, k7, rfl, h0, h1, h4, h7⟩ := e
  refine ⟨rfl, ⟨A0, k0, ?_, h0⟩, ⟨A1, k1, ?_, h1⟩, ?_, ?_, ⟨A4, k4, ?_, h4⟩, ?_, ?_, ⟨A7, k7, ?_, h7⟩⟩
  · have := hc 0 _ rfl; rwa [add_zero'] at this
  · have := hc 1 _ rfl; rwa [add_off' _ (by decide)] at this
  · have := hc 2 _ rfl; rwa [add_off' _ (by decide)] at this
  · have := hc 3 _ rfl; rwa [add_off' _ (by decide)] at this
  · have := hc 4 _ rfl; rwa [add_off' _ (by decide)] at this
  · have := hc 5 _ rfl; rwa [add_off' _ (by decide)] at this
  · have := hc 6 _ rfl; rwa [add_off' _ (by decide)] at this
  · have := hc 7 _ rfl; rwa [add_off' _ (by decide)] at this
theorem elHole {α : Type} {El : ElP α} (hM : EMono El) {S S' : Nat → Bool} {w w' : World} {vs : List Value} {x : α} (h : El (Hole S w) vs x) (hz : w.heap.size ≤ w'.heap.size)
    (hs : ∀ b, b < w.heap.size → S b = false → S' b = false ∧ w'.heap[b]? = w.heap[b]?) : El (Hole S' w') vs x :=
  hM h (by rw [hole_size, hole_size]; exact hz) fun q v hq hc => by
    rw [hole_size] at hq
    obtain ⟨h1, h2⟩ := hole_cell.mp hc
    obtain ⟨g1, g2⟩ := hs _ hq h1
    exact ⟨hole_cell.mpr ⟨g1, (World.cell?_of_block (w := w) g2).trans h2⟩, by rw [hole_frozen g1, hole_frozen h1]; exact World.frozen?_of_block (w := w) g2⟩

theorem flatten_get {k : Nat} : ∀ (vss : List (List Value)) (i r : Nat) (vs : List Value), (∀ vs ∈ vss, vs.length = k) → vss[i]? = some vs → r < k → vss.flatten[i * k + r]? = vs[r]?
  | [], i, r, x, _, h, _ => by simp at h
  | y :: l, 0, r, x, hf, h, hr => by
    simp at h
    subst h
    rw [List.flatten_cons, List.getElem?_append_left (by rw [hf _ List.mem_cons_self]; omega)]
    simp
  | y :: l, i + 1, r, x, hf, h, hr => by
    have e := hf y List.mem_cons_self
    rw [List.flatten_cons, List.getElem?_append_right (by rw [e, Nat.add_mul]; omega), e]
    rw [show (i + 1) * k + r - k = i * k + r by rw [Nat.add_mul]; omega]
    exact flatten_get l i r x (fun vs h => hf vs (List.mem_cons_of_mem _ h)) (by simpa using h) hr
/-- Blocks below base, and the row's own. -/
def rowS (base : Nat) (v : Value) : Nat → Bool := fun b => decide (b < base) || decide (v.ownBlock = some b)
theorem rowS_no {base b : Nat} {v : Value} : rowS base v b = false ↔ base ≤ b ∧ ¬ v.ownBlock = some b := by unfold rowS; simp
/-- A row of the call's own of things of k cells each; what they hold lies in blocks of the call's own beside the row. -/
def RowEl {α : Type} (El : ElP α) (w : World) (base e k : Nat) (v : Value) (l : List α) : Prop :=
  ∃ vss : List (List Value), vss.length = l.length ∧ (∀ vs ∈ vss, vs.length = k) ∧ w.ownsRow base e k v l.length vss.flatten ∧ ∀ (i : Nat) (vs : List Value) (x : α), vss[i]? = some vs → l[i]? = some x → El (Hole (rowS base v) w) vs x
section
variable {α : Type} {El : ElP α} {w w' : World} {base e k : Nat} {v : Value} {l : List α}
theorem RowEl.nil (w : World) : RowEl El w base e k (.slice none 0 0) ([] : List α) := ⟨[], rfl, by simp, World.ownsRow_nil _ _ _ _, fun _ _ _ h => by simp at h⟩
theorem RowEl.keep (hM : EMono El) (h : RowEl El w base e k v l) {N : Nat} (hg : w.grownBy w' (some N)) (hN : N < base) : RowEl El w' base e k v l := by
  obtain ⟨vss, h1, h2, h3, h4⟩ := h
  refine ⟨vss, h1, h2, h3.kept hg ?_, fun i vs x hi hx => elHole hM (h4 i vs x hi hx) hg.size fun b hb hs => ⟨hs, hg.block b hb ?_⟩⟩
  · rcases hv : v.ownBlock with _ | g
    · exact .inl rfl
    · exact .inr (fun e => by injection e with e; have := (h3.lt g hv).1; omega)
  · intro e
    injection e with e
    have := (rowS_no.mp hs).1
    omega
theorem RowEl.alloc (hM : EMono El) (h : RowEl El w base e k v l) (o : Obj) : RowEl El (w.alloc o) base e k v l := by
  obtain ⟨vss, h1, h2, h3, h4⟩ := h
  exact ⟨vss, h1, h2, h3.alloc o, fun i vs x hi hx => elHole hM (h4 i vs x hi hx) (by simp) fun b hb hs => ⟨hs, Below.heap_alloc w o b hb⟩⟩
/-- The row with one more, behind an append. -/
theorem RowEl.snoc (hM : EMono El) {vss : List (List Value)} (h1 : vss.length = l.length) (h2 : ∀ vs ∈ vss, vs.length = k) (h3 : w.ownsRow base e k v l.length vss.flatten)
    (h4 : ∀ (i : Nat) (vs : List Value) (x : α), vss[i]? = some vs → l[i]? = some x → El (Hole (rowS base v) w) vs x) {vs : List Value} {x : α} (hk : vs.length = k) {n : Nat} (hn : base ≤ n) (hv : ∀ g, v.ownBlock = some g → g < n)
    (hx : El (Hole (fun b => decide (b < n)) w) vs x) {g c : Nat} (hown : w'.ownsRow base e k (.slice (some ⟨g, 0, none⟩) (l.length + 1) c) (l.length + 1) (vss.flatten ++ vs)) (hgrow : w.grownBy w' v.ownBlock) (hor : v.ownBlock = some g ∨ g = w.heap.size) :
    RowEl El w' base e k (.slice (some ⟨g, 0, none⟩) (l.length + 1) c) (l ++ [x]) := by
  have hS : ∀ b, b < w.heap.size → rowS base v b = false → rowS base (.slice (some ⟨g, 0, none⟩) (l.length + 1) c) b = false ∧ w'.heap[b]? = w.heap[b]? := fun b hb hs => by
    obtain ⟨s1, s2⟩ := rowS_no.mp hs
    refine ⟨rowS_no.mpr ⟨s1, fun e => ?_⟩, hgrow.block b hb (fun e => s2 e.symm)⟩
    have e : g = b := by simpa [Value.ownBlock] using e
    rcases hor with h | h
    · exact s2 (by rw [h, e])
    · omega
  refine ⟨vss ++ [vs], by simp [h1], fun y hy => ?_, by simpa using hown, fun i ys y hi hy => ?_⟩
  · rcases List.mem_append.mp hy with h | h
    · exact h2 y h
    · simp at h; subst h; exact hk
  · rcases Nat.lt_or_ge i l.length with hlt | hge
    · rw [List.getElem?_append_left (by omega)] at hi hy
      exact elHole hM (h4 i ys y hi hy) hgrow.size hS
    · rw [List.getElem?_append_right (by omega)] at hi hy
      have e1 : i = l.length := by
        rcases Nat.lt_or_ge i (l.length + 1) with h | h
        · omega
        · rw [List.getElem?_eq_none (by simp; omega)] at hy; cases hy
      subst e1
      simp [h1] at hi hy
      subst hi hy
      exact elHole hM hx hgrow.size fun b hb hs => hS b hb (rowS_no.mpr ⟨by simp at hs; omega, fun e => by have := hv b e; simp at hs; omega⟩)
/-- As a slice, in blocks of the call's own. -/
theorem RowEl.slice {At : AtP α} (hE : ElAt El At k) (hM : EMono El) (hk : 0 < k) (h : RowEl El w base e k v l) :
    ∃ A c, v = .slice A l.length c ∧ SlcIs At k (Hole (fun b => decide (b < base)) w) w.heap.size A c l := by
  obtain ⟨vss, h1, h2, h3, h4⟩ := h
  rcases ownK_slice h3 with ⟨rfl, hn⟩ | ⟨g, c, rfl, hc, hm⟩
  · have : l = [] := List.eq_nil_of_length_eq_zero hn
    subst this
    exact ⟨none, 0, rfl, ⟨Nat.le_refl _, by omega, RowOf.nil⟩⟩
  · refine ⟨_, c, rfl, ⟨hc, hm, fun i x hx => ?_⟩⟩
    obtain ⟨hb, hcell⟩ := ownK_cell h3
    have hi : i < l.length := by
      rcases Nat.lt_or_ge i l.length with h | h
      · exact h
      · rw [List.getElem?_eq_none h] at hx; cases hx
    have hvs : vss[i]? = some vss[i] := List.getElem?_eq_getElem (by omega)
    have hl := h2 _ (List.getElem_mem (show i < vss.length by omega))
    have hel := h4 i _ x hvs hx
    have hcs : ∀ j u, vss[i][j]? = some u → w.cell? ((Addr.add ⟨g, 0, none⟩ (i * k)).add j) = some u ∧ g < w.heap.size := fun j u hu => by
      have hj : j < k := by
        rcases Nat.lt_or_ge j k with h | h
        · exact h
        · rw [List.getElem?_eq_none (by omega)] at hu; cases hu
      have := hcell (i * k + j) u (by rw [flatten_get vss i j _ h2 hvs hj]; exact hu)
      rw [addr_add_add]
      have e : (Addr.add ⟨g, 0, none⟩ (i * k + j)) = ⟨g, i * k + j, none⟩ := by
        unfold Addr.add; split
        · rename_i h0; rw [h0]
        · simp
      rw [e]
      exact this
    have hgw : g < w.heap.size := by
      cases hv : vss[i] with
      | nil => rw [hv] at hl; simp at hl; omega
      | cons a t => exact (hcs 0 a (by rw [hv]; rfl)).2
    refine ⟨_, rfl, hgw, ?_⟩
    have hA := hE (W := Hole (fun b => decide (b < base)) w) (p := Addr.add ⟨g, 0, none⟩ (i * k)) (elHole hM hel (Nat.le_refl _) fun b hb' hs => ⟨by have := (rowS_no.mp hs).1; simp; omega, rfl⟩) fun j u hu => hole_cell.mpr ⟨by rw [addr_add_block, addr_add_block]; simp; exact hb, (hcs j u hu).1⟩
    rw [hole_size] at hA
    exact hA.2
end
end Go.Proofs.Ytikljohgdgibnaa
