/-
  When all is there that an image names, as plain data: classes, methods, entries one behind the other. Plain facts; no conditions.
  What an image that fits is: each part small. Plain facts; no conditions.
  Blocks that are known whole; rows of one thing. Plain definitions and lemmas; no conditions.
  Blocks that are known whole; rows of one thing. Plain definitions and lemmas; no conditions.
  The type of a local, as plain data. Plain definitions and lemmas; no conditions.
  The method in a slot of a class, as plain data. Plain definitions and lemmas; no conditions.
  What an instruction does to types, as plain data: what it takes and gives, and a step. Plain definitions; no conditions.
  What holds of a sane image, as plain facts: bounds, types, and what an instruction names.
  Plain facts of what stands above a class, and of which type fits where.
  All classes that are below one, as plain data. Plain definitions and lemmas; no conditions.
-/
import Derived.Test.YtefgepppcmhphaaM09
import Derived.Test.YtefgepppcmhphaaM12
import Derived.Test.YtefgepppcmhphaaM02
import Derived.Test.YtefgepppcmhphaaM04
import Derived.Test.YtefgepppcmhphaaM01
namespace Go.Proofs.Ytefgepppcmhphaa
set_option maxRecDepth 100000
set_option linter.unusedVariables false
set_option linter.unusedSimpArgs false
open Go.ChangeShapes Go.WideShapes Go.ChangeAt Go.RowKit
set_option linter.unusedVariables false

/-- Are the first k classes right? -/
def clsOk (m : Img) (k : Nat) : Bool := (List.range k).all fun i => match m.classes[i]? with
  | some x => classB m (i : Int) x
  | none => true
theorem clsOk_zero (m : Img) : clsOk m 0 = true := rfl
theorem clsOk_succ {m : Img} {k : Nat} {x : Cls} (hx : m.classes[k]? = some x) : clsOk m (k + 1) = (clsOk m k && classB m (k : Int) x) := by
  unfold clsOk
  rw [List.range_succ, List.all_append]
  simp [hx]
theorem clsOk_at {m : Img} {k i : Nat} {x : Cls} (h : clsOk m k = true) (hi : i < k) (hx : m.classes[i]? = some x) : classB m (i : Int) x = true := by
  have := List.all_eq_true.mp h i (List.mem_range.mpr hi)
  rw [hx] at this
  exact this
theorem clsOk_not {m : Img} {k n : Nat} (h : clsOk m k = false) (hk : k ≤ n) : clsOk m n = false := by
  rw [Bool.eq_false_iff] at h ⊢
  intro g
  refine h (List.all_eq_true.mpr fun i hi => ?_)
  exact List.all_eq_true.mp g i (List.mem_range.mpr (Nat.lt_of_lt_of_le (List.mem_range.mp hi) hk))
theorem slotsFrom_at {m : Img} {c : Int} {ab : List Int} : ∀ (l : List Int) (k : Nat), slotsFrom m c ab k l = true → ∀ s ∈ l, ∃ j, slotB m c ab j s = true
  | [], _, _, s, hs => by simp at hs
  | a :: r, k, h, s, hs => by
    simp only [slotsFrom, Bool.and_eq_true] at h
    rcases List.mem_cons.mp hs with rfl | hs
    · exact ⟨k, h.1⟩
    · exact slotsFrom_at r (k + 1) h.2 s hs
theorem slotB_method {m : Img} {c : Int} {ab : List Int} {k : Nat} {s : Int} (h : slotB m c ab k s = true) : ∃ f, m.methods[s.toNat]? = some f ∧ 0 < f.args.length := by
  unfold slotB at h
  cases hf : m.methods[s.toNat]? with
  | none => rw [hf] at h; simp at h
  | some f =>
    rw [hf] at h
    cases ha : f.args with
    | nil => dsimp only at h; rw [ha] at h; simp at h
    | cons t r => exact ⟨f, rfl, by rw [ha]; simp⟩
theorem cls_slots {m : Img} {c : Int} {x : Cls} (h : classB m c x = true) : ∀ s ∈ x.slots, ∃ f, m.methods[s.toNat]? = some f ∧ 0 < f.args.length := fun s hs => by
  unfold classB at h
  simp only [Bool.and_eq_true] at h
  obtain ⟨j, hj⟩ := slotsFrom_at _ _ h.2.2.2.2 s hs
  exact slotB_method hj
theorem above_ok {m : Img} {i : Nat} {x : Cls} (h : clsOk m i = true) (hs : x.sup < (i : Int)) : ∀ q ∈ aboveSlots m x, ∃ g, m.methods[q.toNat]? = some g ∧ 0 < g.args.length := fun q hq => by
  unfold aboveSlots at hq
  split at hq
  · rename_i h0
    cases hy : m.classes[x.sup.toNat]? with
    | none => rw [hy] at hq; simp at hq
    | some y =>
      rw [hy] at hq
      exact cls_slots (clsOk_at h (show x.sup.toNat < i by omega) hy) q hq
  · simp at hq

def upTo {α : Type} (p : α → Bool) (l : List α) (k : Nat) : Bool := (l.take k).all p
theorem upTo_zero {α : Type} (p : α → Bool) (l : List α) : upTo p l 0 = true := by simp [upTo]
theorem upTo_succ {α : Type} {p : α → Bool} {l : List α} {k : Nat} (hk : k < l.length) : upTo p l (k + 1) = (upTo p l k && p l[k]) := by
  unfold upTo
  rw [List.take_add_one, List.getElem?_eq_getElem hk, List.all_append]
  simp
theorem upTo_end {α : Type} {p : α → Bool} {l : List α} {k : Nat} (hk : l.length ≤ k) : upTo p l k = l.all p := by
  unfold upTo
  rw [List.take_of_length_le hk]
theorem upTo_not {α : Type} {p : α → Bool} {l : List α} {k : Nat} (h : upTo p l k = false) : l.all p = false := by
  rw [Bool.eq_false_iff] at h ⊢
  intro g
  exact h (List.all_eq_true.mpr fun x hx => List.all_eq_true.mp g x (List.mem_of_mem_take hx))
/-- May a method be an entry? -/
def entryB (m : Img) (n : Int) : Bool := match m.methods[n.toNat]? with
  | none => false
  | some f => (decide (f.ret.1 = 1) || decide (f.ret.1 = 5)) && f.args.all fun t => decide (t.1 = 1)
theorem entry_none {m : Img} {n : Nat} (h : m.methods.length ≤ n) : entryB m (n : Int) = false := by
  unfold entryB
  rw [Int.toNat_natCast, List.getElem?_eq_none h]
theorem entry_some {m : Img} {n : Nat} {f : Mth} (h : m.methods[n]? = some f) : entryB m (n : Int) = ((decide (f.ret.1 = 1) || decide (f.ret.1 = 5)) && f.args.all fun t => decide (t.1 = 1)) := by
  unfold entryB
  rw [Int.toNat_natCast, h]
/-- Is all there that is named? -/
def okB (m : Img) : Bool := goodsB m.statics m.classes.length && (clsOk m m.classes.length && (m.methods.all (methodB m) && m.entries.all (entryB m)))
def saneR (m : Img) : Int := if fitsB m = false then 2 else if okB m = true then 0 else 3
theorem sane_not {m : Img} (h : fitsB m = false) : saneR m = 2 := if_pos h
theorem sane_yes {m : Img} (h : fitsB m = true) (g : okB m = true) : saneR m = 0 := by unfold saneR; rw [if_neg (by rw [h]; decide), if_pos g]
theorem sane_no {m : Img} (h : fitsB m = true) (g : okB m = false) : saneR m = 3 := by unfold saneR; rw [if_neg (by rw [h]; decide), if_neg (by rw [g]; decide)]
end Go.Proofs.Ytefgepppcmhphaa
namespace Go.Proofs.Ytefgepppcmhphaa
set_option maxRecDepth 100000
set_option linter.unusedVariables false
set_option linter.unusedSimpArgs false
open Go.ChangeShapes Go.WideShapes Go.ChangeAt Go.RowKit
set_option linter.unusedVariables false

theorem within_iff {n a b : Int} : withinB n a b = true ↔ a ≤ n ∧ n ≤ b := by unfold withinB; simp
theorem typB_small {t : Int × Int} (h : typB t = true) : 0 ≤ t.1 ∧ t.1 ≤ 5 ∧ 0 ≤ t.2 ∧ t.2 ≤ 7 := by
  have := of_decide_eq_true h
  omega
theorem typesB_small {l : List (Int × Int)} {n : Int} (h : typesB l n = true) : (l.length : Int) ≤ n ∧ ∀ t ∈ l, 0 ≤ t.1 ∧ t.1 ≤ 5 ∧ 0 ≤ t.2 ∧ t.2 ≤ 7 := by
  have := of_decide_eq_true h
  exact ⟨this.1, fun t ht => typB_small (this.2 t ht)⟩
theorem listB_small {l : List Int} {n most : Int} (h : listB l n most = true) : (l.length : Int) ≤ n ∧ ∀ t ∈ l, 0 ≤ t ∧ t ≤ most := of_decide_eq_true h
theorem codeB_in {l : List (Int × Int × Int)} (h : codeB l = true) : ∀ i ∈ l, instrB i.1 i.2.1 i.2.2 = true := fun i hi => List.all_eq_true.mp h i hi
structure ClsFits (c : Cls) : Prop where
  sup0 : -1 ≤ c.sup
  sup1 : c.sup ≤ 7
  fl : c.fields.length ≤ 8
  ft : ∀ t ∈ c.fields, 0 ≤ t.1 ∧ t.1 ≤ 5 ∧ 0 ≤ t.2 ∧ t.2 ≤ 7
  sl : c.slots.length ≤ 4
  st : ∀ t ∈ c.slots, 0 ≤ t ∧ t ≤ 11
theorem clsFits {c : Cls} (h : clsB c = true) : ClsFits c := by
  unfold clsB at h
  simp only [Bool.and_eq_true] at h
  obtain ⟨h1, h2, h3⟩ := h
  have h1 := within_iff.mp h1
  have h2 := typesB_small h2
  have h3 := listB_small h3
  exact ⟨h1.1, h1.2, by omega, h2.2, by omega, h3.2⟩
structure MthFits (x : Mth) : Prop where
  al : x.args.length ≤ 4
  at_ : ∀ t ∈ x.args, 0 ≤ t.1 ∧ t.1 ≤ 5 ∧ 0 ≤ t.2 ∧ t.2 ≤ 7
  ll : x.locals.length ≤ 8
  lt : ∀ t ∈ x.locals, 0 ≤ t.1 ∧ t.1 ≤ 5 ∧ 0 ≤ t.2 ∧ t.2 ≤ 7
  rt : 0 ≤ x.ret.1 ∧ x.ret.1 ≤ 5 ∧ 0 ≤ x.ret.2 ∧ x.ret.2 ≤ 7
  cl : x.code.length ≤ 64
  ct : ∀ i ∈ x.code, instrB i.1 i.2.1 i.2.2 = true
  d0 : 0 ≤ x.depth
  d1 : x.depth ≤ 8
  p0 : 0 ≤ x.pot
  p1 : x.pot ≤ 4096
  pl : x.phi.length ≤ 64
  pt : ∀ t ∈ x.phi, 0 ≤ t ∧ t ≤ 4096
theorem mthFits {x : Mth} (h : mthB x = true) : MthFits x := by
  unfold mthB at h
  simp only [Bool.and_eq_true, decide_eq_true_eq] at h
  obtain ⟨h1, h2, h3, h4, h5, h6, h7, h8⟩ := h
  have h1 := typesB_small h1
  have h2 := typesB_small h2
  have h3 := typB_small h3
  have h5 := within_iff.mp h5
  have h6 := within_iff.mp h6
  have h7 := listB_small h7
  exact ⟨by omega, h1.2, by omega, h2.2, h3, by omega, codeB_in h8, h5.1, h5.2, h6.1, h6.2, by omega, h7.2⟩
structure ImgFits (m : Img) : Prop where
  cl : m.classes.length ≤ 8
  ct : ∀ c ∈ m.classes, ClsFits c
  sl : m.statics.length ≤ 8
  st : ∀ t ∈ m.statics, 0 ≤ t.1 ∧ t.1 ≤ 5 ∧ 0 ≤ t.2 ∧ t.2 ≤ 7
  il : m.ints.length ≤ 16
  ml : m.methods.length ≤ 12
  mt : ∀ x ∈ m.methods, MthFits x
  el : m.entries.length ≤ 12
  et : ∀ t ∈ m.entries, 0 ≤ t ∧ t ≤ 11
  k0 : 0 ≤ m.stack
  k1 : m.stack ≤ 4096
  h0 : 0 ≤ m.heap
  h1 : m.heap ≤ 4096
theorem imgFits {m : Img} (h : fitsB m = true) : ImgFits m := by
  unfold fitsB headB at h
  simp only [Bool.and_eq_true, decide_eq_true_eq] at h
  obtain ⟨⟨h1, h2, h3, h4, h5, h6, h7⟩, h8, h9⟩ := h
  have h4 := typesB_small h4
  have h5 := listB_small h5
  have h6 := within_iff.mp h6
  have h7 := within_iff.mp h7
  exact ⟨by omega, fun c hc => clsFits (List.all_eq_true.mp h8 c hc), by omega, h4.2, by omega, by omega, fun x hx => mthFits (List.all_eq_true.mp h9 x hx), by omega, h5.2, h6.1, h6.2, h7.1, h7.2⟩
end Go.Proofs.Ytefgepppcmhphaa
namespace Go.Proofs.Ytefgepppcmhphaa
set_option maxRecDepth 100000
set_option linter.unusedVariables false
set_option linter.unusedSimpArgs false
open Go.ChangeShapes Go.WideShapes Go.ChangeAt Go.RowKit
set_option linter.unusedVariables false

/-- A block known whole, of which nothing is frozen. -/
def Whole (w : World) (g : Nat) (vs : List Value) (T : TypeId) : Prop := w.heap[g]? = some (.cells vs.toArray T (0, 0))
theorem Whole.new (w : World) (vs : List Value) (T : TypeId) : Whole (w.alloc (.cells vs.toArray T)) w.heap.size vs T := heap_alloc_new _ _
theorem Whole.at_ {w : World} {N : Nat} (hN : w.heap.size = N) (vs : List Value) (T : TypeId) : Whole (w.alloc (.cells vs.toArray T)) N vs T := by
  subst hN
  exact Whole.new w vs T
theorem Whole.lt {w : World} {g : Nat} {vs : List Value} {T : TypeId} (h : Whole w g vs T) : g < w.heap.size := by
  rcases Nat.lt_or_ge g w.heap.size with x | x
  · exact x
  · unfold Whole at h; rw [Array.getElem?_eq_none x] at h; cases h
theorem Whole.keep {w w' : World} {g B : Nat} {vs : List Value} {T : TypeId} (h : Whole w g vs T) (hb : Below B w w') (hg : g < B) : Whole w' g vs T := (hb.block g hg).trans h
theorem Whole.cells {w : World} {g : Nat} {vs : List Value} {T : TypeId} (h : Whole w g vs T) : Cells w g vs := fun i v hi => by
  unfold Whole at h
  simp [World.cell?, h, hi]
theorem Whole.free {w : World} {g : Nat} {vs : List Value} {T : TypeId} (h : Whole w g vs T) (i : Nat) : w.frozen? ⟨g, i, none⟩ = false := by
  unfold Whole at h
  simp [World.frozen?, h]
theorem Whole.set {w : World} {g : Nat} {vs : List Value} {T : TypeId} (h : Whole w g vs T) (i : Nat) (v : Value) : Whole (w.setCell ⟨g, i, none⟩ v) g (vs.set i v) T := by
  have := heap_setCell_same w g i vs.toArray T v h
  unfold Whole
  rw [this]
  simp
theorem slc_none {α : Type} {At : AtP α} {k : Nat} {w : World} {B : Nat} : SlcIs At k w B none 0 [] := ⟨Nat.le_refl _, by omega, RowOf.nil⟩
theorem cells_step {w : World} {N : Nat} (hN : w.heap.size = N) (vs : List Value) (T : TypeId) :
    Cells (w.alloc (.cells vs.toArray T)) N vs ∧ (w.alloc (.cells vs.toArray T)).heap.size = N + 1 ∧ Below N w (w.alloc (.cells vs.toArray T)) := by
  subst hN
  exact ⟨cells_new w vs T, by simp, (Below.refl _ _).alloc (Nat.le_refl _) _⟩
theorem row_one {α : Type} {At : AtP α} {k : Nat} {w : World} {B g : Nat} {x : α} (h : At w B ⟨g, 0, none⟩ x) (hg : g < B) : RowOf At k w B (some ⟨g, 0, none⟩) [x] := fun i y hi => by
  match i, hi with
  | 0, hi =>
    simp at hi
    subst hi
    refine ⟨_, rfl, hg, ?_⟩
    rw [Nat.zero_mul, show (⟨g, 0, none⟩ : Addr).add 0 = ⟨g, 0, none⟩ by simp [Addr.add]]
    exact h
end Go.Proofs.Ytefgepppcmhphaa
namespace Go.Proofs.Ytefgepppcmhphaa
set_option maxRecDepth 100000
set_option linter.unusedVariables false
set_option linter.unusedSimpArgs false
open Go.ChangeShapes Go.WideShapes Go.ChangeAt Go.RowKit
set_option linter.unusedVariables false

end Go.Proofs.Ytefgepppcmhphaa
namespace Go.Proofs.Ytefgepppcmhphaa
set_option maxRecDepth 100000
set_option linter.unusedVariables false
set_option linter.unusedSimpArgs false
open Go.ChangeShapes Go.WideShapes Go.ChangeAt Go.RowKit

/-- The type of a local, the arguments being the first ones; the zero type, if there is none. -/
def localOf (x : Mth) (n : Int) : Int × Int := if 0 ≤ n then (x.args ++ x.locals)[n.toNat]?.getD (0, 0) else (0, 0)
theorem localOf_neg {x : Mth} {n : Int} (h : n < 0) : localOf x n = (0, 0) := by unfold localOf; rw [if_neg (by omega)]
theorem localOf_arg {x : Mth} {j : Nat} (h : j < x.args.length) : localOf x j = x.args[j] := by
  unfold localOf
  rw [if_pos (by omega), Int.toNat_natCast, List.getElem?_append_left h, List.getElem?_eq_getElem h]
  rfl
theorem localOf_local {x : Mth} {j : Nat} (h : j < x.locals.length) : localOf x ((x.args.length + j : Nat) : Int) = x.locals[j] := by
  unfold localOf
  rw [if_pos (by omega), Int.toNat_natCast, List.getElem?_append_right (by omega), Nat.add_sub_cancel_left, List.getElem?_eq_getElem h]
  rfl
theorem localOf_none {x : Mth} {n : Int} (h : (x.args.length : Int) + x.locals.length ≤ n) : localOf x n = (0, 0) := by
  unfold localOf
  rw [if_pos (by omega), List.getElem?_eq_none (by rw [List.length_append]; omega)]
  rfl
end Go.Proofs.Ytefgepppcmhphaa
namespace Go.Proofs.Ytefgepppcmhphaa
set_option maxRecDepth 100000
set_option linter.unusedVariables false
set_option linter.unusedSimpArgs false
open Go.ChangeShapes Go.WideShapes Go.ChangeAt Go.RowKit

/-- The method in a slot of a class; whether there is one. -/
def slotOf (cl : List Cls) (c n : Int) : Option Int := if 0 ≤ c ∧ 0 ≤ n then cl[c.toNat]?.bind fun x => x.slots[n.toNat]? else none
theorem slotOf_yes {cl : List Cls} {i j : Nat} (hi : i < cl.length) (hj : j < cl[i].slots.length) : slotOf cl i j = some cl[i].slots[j] := by
  unfold slotOf
  rw [if_pos ⟨by omega, by omega⟩, Int.toNat_natCast, List.getElem?_eq_getElem hi, Int.toNat_natCast]
  simp [List.getElem?_eq_getElem hj]
theorem slotOf_class {cl : List Cls} {c n : Int} (h : c < 0 ∨ (cl.length : Int) ≤ c) : slotOf cl c n = none := by
  unfold slotOf
  split
  · rename_i g
    rw [List.getElem?_eq_none (by omega)]
    rfl
  · rfl
theorem slotOf_slot {cl : List Cls} {i : Nat} {n : Int} (hi : i < cl.length) (h : n < 0 ∨ (cl[i].slots.length : Int) ≤ n) : slotOf cl i n = none := by
  unfold slotOf
  split
  · rename_i g
    rw [Int.toNat_natCast, List.getElem?_eq_getElem hi]
    exact List.getElem?_eq_none (by omega)
  · rfl
def SlotOut (o : Option Int) (w : World) (e : Ending) (w' : World) : Prop := e = .returned (.tuple #[.int .i64 (o.getD 0), .bool o.isSome]) ∧ Below w.heap.size w w'
end Go.Proofs.Ytefgepppcmhphaa
namespace Go.Proofs.Ytefgepppcmhphaa
set_option maxRecDepth 100000
set_option linter.unusedVariables false
set_option linter.unusedSimpArgs false

/-- A method's result, if it has one. -/
def givesOf (x : Mth) : List (Int × Int) := if x.ret.1 = 5 then [] else [x.ret]
def mthN (m : Img) (a : Int) : Mth := m.methods[a.toNat]?.getD ⟨[], [], (0, 0), [], 0, 0, []⟩
def fieldN (m : Img) (a b : Int) : Int × Int := (fieldsOf m.classes a)[b.toNat]?.getD (0, 0)
def staticN (m : Img) (a : Int) : Int × Int := m.statics[a.toNat]?.getD (0, 0)
def slotN (m : Img) (a b : Int) : Int := (slotOf m.classes a b).getD 0
/-- What an instruction takes, the deepest one first. -/
def takeOf (m : Img) (x : Mth) (op a b : Int) : List (Int × Int) :=
  if op = 4 then [localOf x a] else if op = 5 then [(0, 0)] else if op = 19 then [(1, 0)] else if op = 20 then [(4, 0)] else if op = 21 then [(4, 0), (4, 0)] else
  if op = 23 then [(1, 0)] else if op = 24 then [(2, 0), (1, 0)] else if op = 25 then [(2, 0), (1, 0), (1, 0)] else if op = 26 then [(2, 0)] else if op = 27 then [(3, a)] else
  if op = 28 then [(3, a), fieldN m a b] else if op = 30 then [staticN m a] else if op = 34 then [(4, 0)] else if op = 33 then givesOf x else
  if op = 31 then (mthN m a).args else if op = 32 then (3, a) :: (mthN m (slotN m a b)).args.drop 1 else
  if 7 ≤ op ∧ op ≤ 17 then [(1, 0), (1, 0)] else []
/-- What it gives. -/
def giveOf (m : Img) (x : Mth) (op a b : Int) : List (Int × Int) :=
  if op = 1 then [(1, 0)] else if op = 2 then [(4, 0)] else if op = 3 then [localOf x a] else if op = 20 then [(1, 0)] else if op = 21 then [(1, 0)] else if op = 22 then [(3, a)] else
  if op = 23 then [(2, 0)] else if op = 24 then [(1, 0)] else if op = 26 then [(1, 0)] else if op = 27 then [fieldN m a b] else if op = 29 then [staticN m a] else
  if op = 34 then [(3, a)] else if op = 31 then givesOf (mthN m a) else if op = 32 then givesOf (mthN m (slotN m a b)) else
  if 7 ≤ op ∧ op ≤ 17 then [(1, 0)] else []
/-- Does an operand do where one is wanted? Kind 0: any; 4: any reference. -/
def doesB (sup : List Int) (op : Int) (have_ want : Int × Int) : Bool :=
  if want.1 = 0 then true else if want.1 = 4 then isRefB have_.1 && !(decide (op = 34) && decide (have_.1 = 2)) else subB sup have_.1 have_.2 want.1 want.2
/-- Where it goes on. -/
def nextOfOp (pc op a : Int) : List Int := if op = 18 then [a] else if op = 19 then [pc + 1, a] else if op = 33 then [] else [pc + 1]
/-- What a step comes to: the operands, where it goes on, the error. -/
structure StepR where
  after : List (Int × Int)
  next : List Int
  err : Int
deriving DecidableEq
def badStep (e : Int) : StepR := ⟨[], [], e⟩
def takes (m : Img) (x : Mth) (op a b : Int) (st : List (Int × Int)) : List (Int × Int) := if op = 6 ∧ st ≠ [] then [(0, 0)] else takeOf m x op a b
def gives (m : Img) (x : Mth) (op a b : Int) (st : List (Int × Int)) : List (Int × Int) := if op = 6 ∧ st ≠ [] then [st.getLast?.getD (0, 0), st.getLast?.getD (0, 0)] else giveOf m x op a b
def stepIn (m : Img) (x : Mth) (pc op a b : Int) (st : List (Int × Int)) : StepR :=
  if (nextOfOp pc op a).head?.any (fun n => decide ((x.code.length : Int) ≤ n)) = true then badStep 4 else
  if (op = 6 ∧ st = []) ∨ st.length < (takes m x op a b st).length ∨ 8 < st.length - (takes m x op a b st).length + (gives m x op a b st).length then badStep 4 else
  if ((st.drop (st.length - (takes m x op a b st).length)).zip (takes m x op a b st)).all (fun p => doesB (supsOf m.classes) op p.1 p.2) = true then
    ⟨st.take (st.length - (takes m x op a b st).length) ++ gives m x op a b st, nextOfOp pc op a, 0⟩ else badStep 4
def stepOf (m : Img) (f pc : Int) (st : List (Int × Int)) : StepR :=
  if 0 ≤ f ∧ f < m.methods.length ∧ 0 ≤ pc ∧ pc < (mthN m f).code.length then
    match (mthN m f).code[pc.toNat]? with
    | some i => stepIn m (mthN m f) pc i.1 i.2.1 i.2.2 st
    | none => badStep 1
  else badStep 1
end Go.Proofs.Ytefgepppcmhphaa
namespace Go.Proofs.Ytefgepppcmhphaa
set_option maxRecDepth 100000
set_option linter.unusedVariables false
set_option linter.unusedSimpArgs false

/-- What a sane image is known by. -/
structure SaneI (m : Img) : Prop where
  fits : ImgFits m
  st : ∀ t ∈ m.statics, goodB t.1 t.2 m.classes.length = true
  cls : ∀ (i : Nat) c, m.classes[i]? = some c → classB m (i : Int) c = true
  mth : ∀ x ∈ m.methods, methodB m x = true
theorem saneI {m : Img} (h : saneR m = 0) : SaneI m := by
  have hf : fitsB m = true := by
    cases hf : fitsB m with
    | true => rfl
    | false => rw [sane_not hf] at h; cases h
  have ho : okB m = true := by
    cases ho : okB m with
    | true => rfl
    | false => rw [sane_no hf ho] at h; cases h
  unfold okB at ho
  simp only [Bool.and_eq_true] at ho
  refine ⟨imgFits hf, fun t ht => List.all_eq_true.mp ho.1 t ht, fun i c hc => clsOk_at ho.2.1 ?_ hc, fun x hx => List.all_eq_true.mp ho.2.2.1 x hx⟩
  rcases Nat.lt_or_ge i m.classes.length with g | g
  · exact g
  · rw [List.getElem?_eq_none g] at hc; cases hc
/-- What a method of a sane image is known by. -/
structure SaneM (m : Img) (x : Mth) : Prop where
  fits : MthFits x
  at_ : ∀ t ∈ x.args, goodB t.1 t.2 m.classes.length = true
  lt : ∀ t ∈ x.locals, goodB t.1 t.2 m.classes.length = true
  rt : x.ret = (5, 0) ∨ goodB x.ret.1 x.ret.2 m.classes.length = true
  cp : 0 < x.code.length
  ph : x.phi.length = x.code.length
  all : x.args.length + x.locals.length ≤ 8
  co : ∀ i ∈ x.code, namedB m x i.1 i.2.1 i.2.2 = true
theorem SaneI.method {m : Img} (h : SaneI m) {x : Mth} (hx : x ∈ m.methods) : SaneM m x := by
  have h1 := h.mth x hx
  unfold methodB at h1
  simp only [Bool.and_eq_true, decide_eq_true_eq] at h1
  obtain ⟨a1, a2, a3, a4, a5, a6, a7⟩ := h1
  unfold retB at a3
  refine ⟨h.fits.mt x hx, fun t ht => List.all_eq_true.mp a1 t ht, fun t ht => List.all_eq_true.mp a2 t ht, ?_, by omega, by omega, by omega, fun i hi => List.all_eq_true.mp a7 i hi⟩
  rw [Bool.or_eq_true, decide_eq_true_eq] at a3
  exact a3
end Go.Proofs.Ytefgepppcmhphaa
namespace Go.Proofs.Ytefgepppcmhphaa
set_option maxRecDepth 100000
set_option linter.unusedVariables false
set_option linter.unusedSimpArgs false

theorem aboveI_step {sup : List Int} {a : Int} {s : Int} (h0 : 0 ≤ a) (h : sup[a.toNat]? = some s) : aboveI sup a = a :: (if s < a then aboveI sup s else []) := by
  have e := aboveOf_some h
  have ea : (a.toNat : Int) = a := by omega
  rw [ea] at e
  rw [← e]
  unfold aboveI
  rw [if_pos h0]
theorem aboveI_bad {sup : List Int} {a : Int} (h : a < 0 ∨ (sup.length : Int) ≤ a) : aboveI sup a = [] := by
  unfold aboveI
  split
  · exact aboveOf_none (by omega)
  · rfl
theorem super_at {sup : List Int} {a : Int} (h0 : 0 ≤ a) (h1 : a < sup.length) : ∃ s, sup[a.toNat]? = some s :=
  ⟨_, List.getElem?_eq_getElem (show a.toNat < sup.length by omega)⟩

theorem above_self {sup : List Int} {a : Int} (h0 : 0 ≤ a) (h1 : a < sup.length) : a ∈ aboveI sup a := by
  obtain ⟨s, hs⟩ := super_at h0 h1
  rw [aboveI_step h0 hs]
  exact List.mem_cons_self
/-- What stands above a class: from 0 to its own number; the classes above that stand above the class, too; and of two that stand above it the lower one stands above the other. -/
theorem above_all (sup : List Int) (n : Nat) : ∀ a : Int, a < n → (∀ b ∈ aboveI sup a, 0 ≤ b ∧ b ≤ a ∧ a < sup.length) ∧ (∀ b ∈ aboveI sup a, ∀ c ∈ aboveI sup b, c ∈ aboveI sup a) ∧
    (∀ b ∈ aboveI sup a, ∀ c ∈ aboveI sup a, c ≤ b → c ∈ aboveI sup b) ∧ (aboveI sup a).Pairwise (· > ·) := by
  induction n with
  | zero =>
    intro a ha
    rw [aboveI_bad (.inl (by omega))]
    simp
  | succ n ih =>
    intro a ha
    by_cases hv : 0 ≤ a ∧ a < sup.length
    · obtain ⟨h0, h1⟩ := hv
      obtain ⟨s, hs⟩ := super_at h0 h1
      have e := aboveI_step h0 hs
      by_cases hsa : s < a
      · rw [if_pos hsa] at e
        obtain ⟨i1, i2, i3, i4⟩ := ih s (by omega)
        refine ⟨?_, ?_, ?_, ?_⟩
        · intro b hb
          rw [e] at hb
          rcases List.mem_cons.mp hb with rfl | hb
          · exact ⟨h0, by omega, h1⟩
          · have := i1 b hb
            exact ⟨this.1, by omega, h1⟩
        · intro b hb c hc
          rw [e] at hb
          rcases List.mem_cons.mp hb with rfl | hb
          · exact hc
          · rw [e]
            exact List.mem_cons_of_mem _ (i2 b hb c hc)
        · intro b hb c hc hcb
          have hb' := hb
          rw [e] at hb' hc
          rcases List.mem_cons.mp hb' with rfl | hb2
          · rw [e]; exact hc
          · rcases List.mem_cons.mp hc with rfl | hc2
            · have := i1 b hb2
              omega
            · exact i3 b hb2 c hc2 hcb
        · rw [e, List.pairwise_cons]
          exact ⟨fun b hb => by have := i1 b hb; omega, i4⟩
      · rw [if_neg hsa] at e
        rw [e]
        refine ⟨?_, ?_, ?_, by simp⟩
        · intro b hb
          simp at hb
          subst hb
          exact ⟨h0, by omega, h1⟩
        · intro b hb c hc
          simp at hb
          subst hb
          rw [← e]
          exact hc
        · intro b hb c hc _
          simp at hb
          subst hb
          rw [e]
          exact hc
    · rw [aboveI_bad (by omega)]
      simp
theorem above_range {sup : List Int} {a b : Int} (h : b ∈ aboveI sup a) : 0 ≤ b ∧ b ≤ a ∧ a < sup.length := (above_all sup (a.toNat + 1) a (by omega)).1 b h
theorem above_trans {sup : List Int} {a b c : Int} (h : b ∈ aboveI sup a) (g : c ∈ aboveI sup b) : c ∈ aboveI sup a := (above_all sup (a.toNat + 1) a (by omega)).2.1 b h c g
theorem above_line {sup : List Int} {a b c : Int} (h : b ∈ aboveI sup a) (g : c ∈ aboveI sup a) (l : c ≤ b) : c ∈ aboveI sup b := (above_all sup (a.toNat + 1) a (by omega)).2.2.1 b h c g l
theorem above_down (sup : List Int) (a : Int) : (aboveI sup a).Pairwise (· > ·) := (above_all sup (a.toNat + 1) a (by omega)).2.2.2
theorem above_anti {sup : List Int} {a b : Int} (h : b ∈ aboveI sup a) (g : a ∈ aboveI sup b) : a = b := by
  have := above_range h
  have := above_range g
  omega

theorem inB_iff {l : List Int} {n : Int} : inB l n = true ↔ n ∈ l := by unfold inB; simp

theorem sub_iff (sup : List Int) (k n k' n' : Int) : subB sup k n k' n' = true ↔ (k = 4 ∧ (k' = 2 ∨ k' = 3 ∨ k' = 4)) ∨ (k = 3 ∧ k' = 3 ∧ n' ∈ aboveI sup n) ∨ ((k = 1 ∨ k = 2) ∧ k = k' ∧ n = n') := by
  unfold subB
  by_cases h4 : k = 4
  · subst h4; simp [isRefB]
  · by_cases h3 : k = 3
    · subst h3; simp [inB]
    · simp [h3, h4]

end Go.Proofs.Ytefgepppcmhphaa
namespace Go.Proofs.Ytefgepppcmhphaa
set_option maxRecDepth 100000
set_option linter.unusedVariables false
set_option linter.unusedSimpArgs false
open Go.ChangeShapes Go.WideShapes Go.ChangeAt Go.RowKit

/-- Of the first k classes those that are below one, rising. -/
def belowTo (sup : List Int) (c : Int) : Nat → List Int
  | 0 => []
  | k + 1 => if inB (aboveI sup k) c then belowTo sup c k ++ [(k : Int)] else belowTo sup c k
def belowOf (cl : List Cls) (c : Int) : List Int := belowTo (supsOf cl) c cl.length
theorem belowTo_len (sup : List Int) (c : Int) : ∀ k, (belowTo sup c k).length ≤ k
  | 0 => Nat.le_refl _
  | k + 1 => by
    unfold belowTo
    have := belowTo_len sup c k
    split
    · simp; omega
    · omega
theorem belowTo_mem (sup : List Int) (c : Int) : ∀ (k : Nat) (x : Int), x ∈ belowTo sup c k ↔ 0 ≤ x ∧ x < k ∧ inB (aboveI sup x) c = true
  | 0, x => by simp [belowTo]; omega
  | k + 1, x => by
    unfold belowTo
    have ih := belowTo_mem sup c k x
    split
    · rename_i g
      rw [List.mem_append, ih, List.mem_singleton]
      constructor
      · rintro (⟨a, b, d⟩ | rfl)
        · exact ⟨a, by omega, d⟩
        · exact ⟨by omega, by omega, g⟩
      · rintro ⟨a, b, d⟩
        by_cases e : x = k
        · exact .inr e
        · exact .inl ⟨a, by omega, d⟩
    · rename_i g
      rw [ih]
      constructor
      · rintro ⟨a, b, d⟩; exact ⟨a, by omega, d⟩
      · rintro ⟨a, b, d⟩
        refine ⟨a, ?_, d⟩
        by_cases e : x = k
        · subst e; exact absurd d g
        · omega
theorem belowTo_rise (sup : List Int) (c : Int) : ∀ k, (belowTo sup c k).Pairwise (· < ·)
  | 0 => List.Pairwise.nil
  | k + 1 => by
    unfold belowTo
    split
    · rw [List.pairwise_append]
      refine ⟨belowTo_rise sup c k, by simp, fun a ha b hb => ?_⟩
      rw [List.mem_singleton] at hb
      subst hb
      exact ((belowTo_mem sup c k a).mp ha).2.1
    · exact belowTo_rise sup c k
theorem belowTo_self {sup : List Int} {c : Nat} (h : c < sup.length) : belowTo sup c (c + 1) = [(c : Int)] := by
  have e : belowTo sup (c : Int) c = [] := by
    apply List.eq_nil_iff_forall_not_mem.mpr
    intro x hx
    obtain ⟨h0, h1, h2⟩ := (belowTo_mem sup c c x).mp hx
    have := above_range (inB_iff.mp h2)
    omega
  unfold belowTo
  rw [if_pos (inB_iff.mpr (above_self (by omega) (by omega))), e]
  rfl
theorem belowTo_no {sup : List Int} {c : Int} (h : c < 0 ∨ (sup.length : Int) ≤ c) (k : Nat) (hk : k ≤ sup.length) : belowTo sup c k = [] := by
  apply List.eq_nil_iff_forall_not_mem.mpr
  intro x hx
  obtain ⟨h0, h1, h2⟩ := (belowTo_mem sup c k x).mp hx
  have := above_range (inB_iff.mp h2)
  omega
theorem own_one (w : World) (z : Int) {N : Nat} {T : TypeId} (hN : w.heap.size = N := by rfl) : ∀ j u, [Value.int .i64 z][j]? = some u → (w.alloc (.cells #[.int .i64 z] T)).cell? ((⟨N, 0, none⟩ : Addr).add j) = some u := by
  subst hN
  intro j u hj
  match j, hj with
  | 0, hj => simp at hj; subst hj; simp [Addr.add]
theorem one_cell (z : Int) : ∀ u ∈ [Value.int .i64 z], u.oneCell' = true := by intro u hu; simp at hu; subst hu; rfl
end Go.Proofs.Ytefgepppcmhphaa
