/-
  When all is there that an image names, as plain data: classes, methods, entries one behind the other. Plain facts; no conditions.
  What an image that fits is: each part small. Plain facts; no conditions.
  What holds of a sane image, as plain facts: bounds, types, and what an instruction names.
  What the document's own answer for what an instruction takes and gives (Rule) comes to, at any instruction of a sane image.
  All classes that are below one, as plain data. Plain definitions and lemmas; no conditions.
  What the document's own step (Step) comes to: words.
  What flow's words for where an instruction goes on (goesOn), and whether one of the places lies behind the last instruction (leaves), come to.
-/
import Derived.Test.YtgpmdhdooglkfaaM16
import Derived.Test.YtgpmdhdooglkfaaM18
import Derived.Test.YtgpmdhdooglkfaaM03
import Derived.Test.YtgpmdhdooglkfaaM07
import Derived.Test.YtgpmdhdooglkfaaM08
import Derived.Test.YtgpmdhdooglkfaaM09
import Derived.Test.YtgpmdhdooglkfaaM10
import Derived.Test.YtgpmdhdooglkfaaM11
import Derived.Test.YtgpmdhdooglkfaaM01
import Derived.RegionTactic
import Derived.ChangeAlike
import Derived.Deep.RegionHeld3
import Derived.Deep.QuietTactic
import Derived.BigQuiet
import Derived.IntWalk
import Derived.Test.YtgpmdhdooglkfaaM06
namespace Go.Proofs.Ytgpmdhdooglkfaa
set_option maxRecDepth 100000
set_option linter.unusedVariables false
set_option linter.unusedSimpArgs false
open Go.ChangeShapes Go.WideShapes Go.ChangeAt Go.RowKit
set_option linter.unusedVariables false

/-- Are the first k classes right? -/
def clsOk (m : Img) (k : Nat) : Bool := (List.range k).all fun i => match m.classes[i]? with
  | some x => classB m (i : Int) x
  | none => true
theorem clsOk_zero (m : Img) : clsOk m 0 = true := rfl
theorem clsOk_succ {m : Img} {k : Nat} {x : Cls} (hx : m.classes[k]? = some x) : clsOk m (k + 1) = (clsOk m k && classB m (k : Int) x) := by
  unfold clsOk
  rw [List.range_succ, List.all_append]
  simp [hx]
theorem clsOk_at {m : Img} {k i : Nat} {x : Cls} (h : clsOk m k = true) (hi : i < k) (hx : m.classes[i]? = some x) : classB m (i : Int) x = true := by
  have := List.all_eq_true.mp h i (List.mem_range.mpr hi)
  rw [hx] at this
  exact this
theorem clsOk_not {m : Img} {k n : Nat} (h : clsOk m k = false) (hk : k ≤ n) : clsOk m n = false := by
  rw [Bool.eq_false_iff] at h ⊢
  intro g
  refine h (List.all_eq_true.mpr fun i hi => ?_)
  exact List.all_eq_true.mp g i (List.mem_range.mpr (Nat.lt_of_lt_of_le (List.mem_range.mp hi) hk))
theorem slotsFrom_at {m : Img} {c : Int} {ab : List Int} : ∀ (l : List Int) (k : Nat), slotsFrom m c ab k l = true → ∀ s ∈ l, ∃ j, slotB m c ab j s = true
  | [], _, _, s, hs => by simp at hs
  | a :: r, k, h, s, hs => by
    simp only [slotsFrom, Bool.and_eq_true] at h
    rcases List.mem_cons.mp hs with rfl | hs
    · exact ⟨k, h.1⟩
    · exact slotsFrom_at r (k + 1) h.2 s hs
theorem slotB_method {m : Img} {c : Int} {ab : List Int} {k : Nat} {s : Int} (h : slotB m c ab k s = true) : ∃ f, m.methods[s.toNat]? = some f ∧ 0 < f.args.length := by
  unfold slotB at h
  cases hf : m.methods[s.toNat]? with
  | none => rw [hf] at h; simp at h
  | some f =>
    rw [hf] at h
    cases ha : f.args with
    | nil => dsimp only at h; rw [ha] at h; simp at h
    | cons t r => exact ⟨f, rfl, by rw [ha]; simp⟩
theorem cls_slots {m : Img} {c : Int} {x : Cls} (h : classB m c x = true) : ∀ s ∈ x.slots, ∃ f, m.methods[s.toNat]? = some f ∧ 0 < f.args.length := fun s hs => by
  unfold classB at h
  simp only [Bool.and_eq_true] at h
  obtain ⟨j, hj⟩ := slotsFrom_at _ _ h.2.2.2.2 s hs
  exact slotB_method hj
theorem above_ok {m : Img} {i : Nat} {x : Cls} (h : clsOk m i = true) (hs : x.sup < (i : Int)) : ∀ q ∈ aboveSlots m x, ∃ g, m.methods[q.toNat]? = some g ∧ 0 < g.args.length := fun q hq => by
  unfold aboveSlots at hq
  split at hq
  · rename_i h0
    cases hy : m.classes[x.sup.toNat]? with
    | none => rw [hy] at hq; simp at hq
    | some y =>
      rw [hy] at hq
      exact cls_slots (clsOk_at h (show x.sup.toNat < i by omega) hy) q hq
  · simp at hq

def upTo {α : Type} (p : α → Bool) (l : List α) (k : Nat) : Bool := (l.take k).all p
theorem upTo_zero {α : Type} (p : α → Bool) (l : List α) : upTo p l 0 = true := by simp [upTo]
theorem upTo_succ {α : Type} {p : α → Bool} {l : List α} {k : Nat} (hk : k < l.length) : upTo p l (k + 1) = (upTo p l k && p l[k]) := by
  unfold upTo
  rw [List.take_add_one, List.getElem?_eq_getElem hk, List.all_append]
  simp
theorem upTo_end {α : Type} {p : α → Bool} {l : List α} {k : Nat} (hk : l.length ≤ k) : upTo p l k = l.all p := by
  unfold upTo
  rw [List.take_of_length_le hk]
theorem upTo_not {α : Type} {p : α → Bool} {l : List α} {k : Nat} (h : upTo p l k = false) : l.all p = false := by
  rw [Bool.eq_false_iff] at h ⊢
  intro g
  exact h (List.all_eq_true.mpr fun x hx => List.all_eq_true.mp g x (List.mem_of_mem_take hx))
/-- May a method be an entry? -/
def entryB (m : Img) (n : Int) : Bool := match m.methods[n.toNat]? with
  | none => false
  | some f => (decide (f.ret.1 = 1) || decide (f.ret.1 = 5)) && f.args.all fun t => decide (t.1 = 1)
theorem entry_none {m : Img} {n : Nat} (h : m.methods.length ≤ n) : entryB m (n : Int) = false := by
  unfold entryB
  rw [Int.toNat_natCast, List.getElem?_eq_none h]
theorem entry_some {m : Img} {n : Nat} {f : Mth} (h : m.methods[n]? = some f) : entryB m (n : Int) = ((decide (f.ret.1 = 1) || decide (f.ret.1 = 5)) && f.args.all fun t => decide (t.1 = 1)) := by
  unfold entryB
  rw [Int.toNat_natCast, h]
/-- Is all there that is named? -/
def okB (m : Img) : Bool := goodsB m.statics m.classes.length && (clsOk m m.classes.length && (m.methods.all (methodB m) && m.entries.all (entryB m)))
def saneR (m : Img) : Int := if fitsB m = false then 2 else if okB m = true then 0 else 3
theorem sane_not {m : Img} (h : fitsB m = false) : saneR m = 2 := if_pos h
theorem sane_yes {m : Img} (h : fitsB m = true) (g : okB m = true) : saneR m = 0 := by unfold saneR; rw [if_neg (by rw [h]; decide), if_pos g]
theorem sane_no {m : Img} (h : fitsB m = true) (g : okB m = false) : saneR m = 3 := by unfold saneR; rw [if_neg (by rw [h]; decide), if_neg (by rw [g]; decide)]
end Go.Proofs.Ytgpmdhdooglkfaa
namespace Go.Proofs.Ytgpmdhdooglkfaa
set_option maxRecDepth 100000
set_option linter.unusedVariables false
set_option linter.unusedSimpArgs false
open Go.ChangeShapes Go.WideShapes Go.ChangeAt Go.RowKit
set_option linter.unusedVariables false

theorem within_iff {n a b : Int} : withinB n a b = true ↔ a ≤ n ∧ n ≤ b := by unfold withinB; simp
theorem typB_small {t : Int × Int} (h : typB t = true) : 0 ≤ t.1 ∧ t.1 ≤ 5 ∧ 0 ≤ t.2 ∧ t.2 ≤ 7 := by
  have := of_decide_eq_true h
  omega
theorem typesB_small {l : List (Int × Int)} {n : Int} (h : typesB l n = true) : (l.length : Int) ≤ n ∧ ∀ t ∈ l, 0 ≤ t.1 ∧ t.1 ≤ 5 ∧ 0 ≤ t.2 ∧ t.2 ≤ 7 := by
  have := of_decide_eq_true h
  exact ⟨this.1, fun t ht => typB_small (this.2 t ht)⟩
theorem listB_small {l : List Int} {n most : Int} (h : listB l n most = true) : (l.length : Int) ≤ n ∧ ∀ t ∈ l, 0 ≤ t ∧ t ≤ most := of_decide_eq_true h
theorem codeB_in {l : List (Int × Int × Int)} (h : codeB l = true) : ∀ i ∈ l, instrB i.1 i.2.1 i.2.2 = true := fun i hi => List.all_eq_true.mp h i hi
structure ClsFits (c : Cls) : Prop where
  sup0 : -1 ≤ c.sup
  sup1 : c.sup ≤ 7
  fl : c.fields.length ≤ 8
  ft : ∀ t ∈ c.fields, 0 ≤ t.1 ∧ t.1 ≤ 5 ∧ 0 ≤ t.2 ∧ t.2 ≤ 7
  sl : c.slots.length ≤ 4
  st : ∀ t ∈ c.slots, 0 ≤ t ∧ t ≤ 11
theorem clsFits {c : Cls} (h : clsB c = true) : ClsFits c := by
  unfold clsB at h
  simp only [Bool.and_eq_true] at h
  obtain ⟨h1, h2, h3⟩ := h
  have h1 := within_iff.mp h1
  have h2 := typesB_small h2
  have h3 := listB_small h3
  exact ⟨h1.1, h1.2, by omega, h2.2, by omega, h3.2⟩
structure MthFits (x : Mth) : Prop where
  al : x.args.length ≤ 4
  at_ : ∀ t ∈ x.args, 0 ≤ t.1 ∧ t.1 ≤ 5 ∧ 0 ≤ t.2 ∧ t.2 ≤ 7
  ll : x.locals.length ≤ 8
  lt : ∀ t ∈ x.locals, 0 ≤ t.1 ∧ t.1 ≤ 5 ∧ 0 ≤ t.2 ∧ t.2 ≤ 7
  rt : 0 ≤ x.ret.1 ∧ x.ret.1 ≤ 5 ∧ 0 ≤ x.ret.2 ∧ x.ret.2 ≤ 7
  cl : x.code.length ≤ 64
  ct : ∀ i ∈ x.code, instrB i.1 i.2.1 i.2.2 = true
  d0 : 0 ≤ x.depth
  d1 : x.depth ≤ 8
  p0 : 0 ≤ x.pot
  p1 : x.pot ≤ 4096
  pl : x.phi.length ≤ 64
  pt : ∀ t ∈ x.phi, 0 ≤ t ∧ t ≤ 4096
theorem mthFits {x : Mth} (h : mthB x = true) : MthFits x := by
  unfold mthB at h
  simp only [Bool.and_eq_true, decide_eq_true_eq] at h
  obtain ⟨h1, h2, h3, h4, h5, h6, h7, h8⟩ := h
  have h1 := typesB_small h1
  have h2 := typesB_small h2
  have h3 := typB_small h3
  have h5 := within_iff.mp h5
  have h6 := within_iff.mp h6
  have h7 := listB_small h7
  exact ⟨by omega, h1.2, by omega, h2.2, h3, by omega, codeB_in h8, h5.1, h5.2, h6.1, h6.2, by omega, h7.2⟩
structure ImgFits (m : Img) : Prop where
  cl : m.classes.length ≤ 8
  ct : ∀ c ∈ m.classes, ClsFits c
  sl : m.statics.length ≤ 8
  st : ∀ t ∈ m.statics, 0 ≤ t.1 ∧ t.1 ≤ 5 ∧ 0 ≤ t.2 ∧ t.2 ≤ 7
  il : m.ints.length ≤ 16
  ml : m.methods.length ≤ 12
  mt : ∀ x ∈ m.methods, MthFits x
  el : m.entries.length ≤ 12
  et : ∀ t ∈ m.entries, 0 ≤ t ∧ t ≤ 11
  k0 : 0 ≤ m.stack
  k1 : m.stack ≤ 4096
  h0 : 0 ≤ m.heap
  h1 : m.heap ≤ 4096
theorem imgFits {m : Img} (h : fitsB m = true) : ImgFits m := by
  unfold fitsB headB at h
  simp only [Bool.and_eq_true, decide_eq_true_eq] at h
  obtain ⟨⟨h1, h2, h3, h4, h5, h6, h7⟩, h8, h9⟩ := h
  have h4 := typesB_small h4
  have h5 := listB_small h5
  have h6 := within_iff.mp h6
  have h7 := within_iff.mp h7
  exact ⟨by omega, fun c hc => clsFits (List.all_eq_true.mp h8 c hc), by omega, h4.2, by omega, by omega, fun x hx => mthFits (List.all_eq_true.mp h9 x hx), by omega, h5.2, h6.1, h6.2, h7.1, h7.2⟩
end Go.Proofs.Ytgpmdhdooglkfaa
namespace Go.Proofs.Ytgpmdhdooglkfaa
set_option maxRecDepth 100000
set_option linter.unusedVariables false
set_option linter.unusedSimpArgs false

/-- What a sane image is known by. -/
structure SaneI (m : Img) : Prop where
  fits : ImgFits m
  st : ∀ t ∈ m.statics, goodB t.1 t.2 m.classes.length = true
  cls : ∀ (i : Nat) c, m.classes[i]? = some c → classB m (i : Int) c = true
  mth : ∀ x ∈ m.methods, methodB m x = true
theorem saneI {m : Img} (h : saneR m = 0) : SaneI m := by
  have hf : fitsB m = true := by
    cases hf : fitsB m with
    | true => rfl
    | false => rw [sane_not hf] at h; cases h
  have ho : okB m = true := by
    cases ho : okB m with
    | true => rfl
    | false => rw [sane_no hf ho] at h; cases h
  unfold okB at ho
  simp only [Bool.and_eq_true] at ho
  refine ⟨imgFits hf, fun t ht => List.all_eq_true.mp ho.1 t ht, fun i c hc => clsOk_at ho.2.1 ?_ hc, fun x hx => List.all_eq_true.mp ho.2.2.1 x hx⟩
  rcases Nat.lt_or_ge i m.classes.length with g | g
  · exact g
  · rw [List.getElem?_eq_none g] at hc; cases hc
/-- What a method of a sane image is known by. -/
structure SaneM (m : Img) (x : Mth) : Prop where
  fits : MthFits x
  at_ : ∀ t ∈ x.args, goodB t.1 t.2 m.classes.length = true
  lt : ∀ t ∈ x.locals, goodB t.1 t.2 m.classes.length = true
  rt : x.ret = (5, 0) ∨ goodB x.ret.1 x.ret.2 m.classes.length = true
  cp : 0 < x.code.length
  ph : x.phi.length = x.code.length
  all : x.args.length + x.locals.length ≤ 8
  co : ∀ i ∈ x.code, namedB m x i.1 i.2.1 i.2.2 = true
theorem SaneI.method {m : Img} (h : SaneI m) {x : Mth} (hx : x ∈ m.methods) : SaneM m x := by
  have h1 := h.mth x hx
  unfold methodB at h1
  simp only [Bool.and_eq_true, decide_eq_true_eq] at h1
  obtain ⟨a1, a2, a3, a4, a5, a6, a7⟩ := h1
  unfold retB at a3
  refine ⟨h.fits.mt x hx, fun t ht => List.all_eq_true.mp a1 t ht, fun t ht => List.all_eq_true.mp a2 t ht, ?_, by omega, by omega, by omega, fun i hi => List.all_eq_true.mp a7 i hi⟩
  rw [Bool.or_eq_true, decide_eq_true_eq] at a3
  exact a3
end Go.Proofs.Ytgpmdhdooglkfaa
namespace Go.Proofs.Ytgpmdhdooglkfaa
set_option maxRecDepth 100000
set_option linter.unusedVariables false
set_option linter.unusedSimpArgs false
open Go.ChangeShapes Go.WideShapes Go.ChangeAt Go.RowKit

theorem named_get {m : Img} {x : Mth} {a b : Int} {op : Int} (ho : op = 3 ∨ op = 4) (h : namedB m x op a b = true) : a < x.args.length + x.locals.length := by
  rcases ho with rfl | rfl <;> simpa [namedB] using h
theorem named_static {m : Img} {x : Mth} {a b : Int} {op : Int} (ho : op = 29 ∨ op = 30) (h : namedB m x op a b = true) : a < m.statics.length := by
  rcases ho with rfl | rfl <;> simpa [namedB] using h
theorem named_class {m : Img} {x : Mth} {a b : Int} {op : Int} (ho : op = 22 ∨ op = 34) (h : namedB m x op a b = true) : a < m.classes.length := by
  rcases ho with rfl | rfl <;> simpa [namedB] using h
theorem named_field {m : Img} {x : Mth} {a b : Int} {op : Int} (ho : op = 27 ∨ op = 28) (h : namedB m x op a b = true) : a < m.classes.length ∧ b < (fieldsOf m.classes a).length := by
  rcases ho with rfl | rfl <;> simpa [namedB] using h
theorem named_jump {m : Img} {x : Mth} {a b : Int} {op : Int} (ho : op = 18 ∨ op = 19) (h : namedB m x op a b = true) : a < x.code.length := by
  rcases ho with rfl | rfl <;> simpa [namedB] using h
theorem named_call {m : Img} {x : Mth} {a b : Int} (h : namedB m x 31 a b = true) : a < m.methods.length := by simpa [namedB] using h
theorem named_virt {m : Img} {x : Mth} {a b : Int} (hm : SaneI m) (a0 : 0 ≤ a) (b0 : 0 ≤ b) (h : namedB m x 32 a b = true) :
    a < m.classes.length ∧ ∃ (k : Nat) (y : Mth), slotOf m.classes a b = some (k : Int) ∧ m.methods[k]? = some y ∧ 0 < y.args.length := by
  simp [namedB] at h
  obtain ⟨h1, h2⟩ := h
  obtain ⟨i, rfl⟩ := Int.eq_ofNat_of_zero_le a0
  obtain ⟨j, rfl⟩ := Int.eq_ofNat_of_zero_le b0
  have hi : i < m.classes.length := by omega
  unfold slotsN at h2
  rw [Int.toNat_natCast, List.getElem?_eq_getElem hi] at h2
  dsimp only at h2
  have hj : j < m.classes[i].slots.length := by omega
  have hc := hm.cls i _ (List.getElem?_eq_getElem hi)
  obtain ⟨y, hy, ha⟩ := cls_slots hc _ (List.getElem_mem hj)
  have hs := ((hm.fits.ct _ (List.getElem_mem hi)).st _ (List.getElem_mem hj)).1
  obtain ⟨k, hk⟩ := Int.eq_ofNat_of_zero_le hs
  refine ⟨h1, k, y, by rw [slotOf_yes hi hj, hk], ?_, ha⟩
  rw [hk, Int.toNat_natCast] at hy
  exact hy

theorem rule_any (m : Img) (x : Mth) (f : Nat) (op a b : Int) (h : Hnd) (w : World) (H : ImgIn w w.heap.size h m) (hm : SaneI m) (hg : m.methods[f]? = some x) (hi : instrB op a b = true) (hn : namedB m x op a b = true) :
    Calls Try.prog 40 #[imgV h m, .int .i64 f, insV op a b] w (TwoTypes (takeOf m x op a b) (giveOf m x op a b) w) := by
  obtain ⟨o0, o1, a0, a1, b0, b1⟩ := instr_bounds hi
  have hx := hm.method (List.mem_of_getElem? hg)
  have hal : x.args.length ≤ 1048576 := by have := hx.fits.al; omega
  have hll : x.locals.length ≤ 1048576 := by have := hx.fits.ll; omega
  have hcl : m.classes.length ≤ 1000 := by have := hm.fits.cl; omega
  have hfl : ∀ c ∈ m.classes, c.fields.length ≤ 1000 := fun c hc => by have := (hm.fits.ct c hc).fl; omega
  by_cases hmath : 7 ≤ op ∧ op ≤ 17
  · exact rule_math m x f op a b hmath.1 hmath.2 h w H
  · have hc : op = 1 ∨ op = 2 ∨ op = 3 ∨ op = 4 ∨ op = 5 ∨ op = 6 ∨ op = 18 ∨ op = 19 ∨ op = 20 ∨ op = 21 ∨ op = 22 ∨ op = 23 ∨ op = 24 ∨ op = 25 ∨ op = 26 ∨ op = 27 ∨ op = 28 ∨ op = 29 ∨ op = 30 ∨ op = 31 ∨ op = 32 ∨ op = 33 ∨ op = 34 := by omega
    rcases hc with rfl | rfl | rfl | rfl | rfl | rfl | rfl | rfl | rfl | rfl | rfl | rfl | rfl | rfl | rfl | rfl | rfl | rfl | rfl | rfl | rfl | rfl | rfl
    · exact rule_1 m x f a b h w
    · exact rule_2 m x f a b h w
    · exact rule_3 m x f a b hg hal hll (by omega) h w H
    · exact rule_4 m x f a b hg hal hll (by omega) h w H
    · exact rule_5 m x f a b h w
    · exact rule_6 m x f a b h w
    · exact rule_18 m x f a b h w
    · exact rule_19 m x f a b h w
    · exact rule_20 m x f a b h w
    · exact rule_21 m x f a b h w
    · exact rule_22 m x f a b h w
    · exact rule_23 m x f a b h w
    · exact rule_24 m x f a b h w
    · exact rule_25 m x f a b h w
    · exact rule_26 m x f a b h w
    · obtain ⟨k, rfl⟩ := Int.eq_ofNat_of_zero_le b0
      exact rule_27 m x f a k (by have := (named_field (op := 27) (by omega) hn).2; omega) hcl hfl h w H
    · obtain ⟨k, rfl⟩ := Int.eq_ofNat_of_zero_le b0
      exact rule_28 m x f a k (by have := (named_field (op := 28) (by omega) hn).2; omega) hcl hfl h w H
    · obtain ⟨j, rfl⟩ := Int.eq_ofNat_of_zero_le a0
      exact rule_29 m x f j b (by have := named_static (op := 29) (by omega) hn; omega) h w H
    · obtain ⟨j, rfl⟩ := Int.eq_ofNat_of_zero_le a0
      exact rule_30 m x f j b (by have := named_static (op := 30) (by omega) hn; omega) h w H
    · obtain ⟨j, rfl⟩ := Int.eq_ofNat_of_zero_le a0
      exact rule_31 m x f j b (by have := named_call hn; omega) h w H
    · obtain ⟨_, k, y, hs, hy, hp⟩ := named_virt hm a0 b0 hn
      exact rule_32 m x f a b k hs y hy hp (by have := (hm.method (List.mem_of_getElem? hy)).fits.al; omega) h w H
    · exact rule_33 m x f a b hg hal hll h w H
    · exact rule_34 m x f a b h w
end Go.Proofs.Ytgpmdhdooglkfaa
namespace Go.Proofs.Ytgpmdhdooglkfaa
set_option maxRecDepth 100000
set_option linter.unusedVariables false
set_option linter.unusedSimpArgs false
open Go.ChangeShapes Go.WideShapes Go.ChangeAt Go.RowKit

/-- Of the first k classes those that are below one, rising. -/
def belowTo (sup : List Int) (c : Int) : Nat → List Int
  | 0 => []
  | k + 1 => if inB (aboveI sup k) c then belowTo sup c k ++ [(k : Int)] else belowTo sup c k
def belowOf (cl : List Cls) (c : Int) : List Int := belowTo (supsOf cl) c cl.length
theorem belowTo_len (sup : List Int) (c : Int) : ∀ k, (belowTo sup c k).length ≤ k
  | 0 => Nat.le_refl _
  | k + 1 => by
    unfold belowTo
    have := belowTo_len sup c k
    split
    · simp; omega
    · omega
theorem belowTo_mem (sup : List Int) (c : Int) : ∀ (k : Nat) (x : Int), x ∈ belowTo sup c k ↔ 0 ≤ x ∧ x < k ∧ inB (aboveI sup x) c = true
  | 0, x => by simp [belowTo]; omega
  | k + 1, x => by
    unfold belowTo
    have ih := belowTo_mem sup c k x
    split
    · rename_i g
      rw [List.mem_append, ih, List.mem_singleton]
      constructor
      · rintro (⟨a, b, d⟩ | rfl)
        · exact ⟨a, by omega, d⟩
        · exact ⟨by omega, by omega, g⟩
      · rintro ⟨a, b, d⟩
        by_cases e : x = k
        · exact .inr e
        · exact .inl ⟨a, by omega, d⟩
    · rename_i g
      rw [ih]
      constructor
      · rintro ⟨a, b, d⟩; exact ⟨a, by omega, d⟩
      · rintro ⟨a, b, d⟩
        refine ⟨a, ?_, d⟩
        by_cases e : x = k
        · subst e; exact absurd d g
        · omega
theorem belowTo_rise (sup : List Int) (c : Int) : ∀ k, (belowTo sup c k).Pairwise (· < ·)
  | 0 => List.Pairwise.nil
  | k + 1 => by
    unfold belowTo
    split
    · rw [List.pairwise_append]
      refine ⟨belowTo_rise sup c k, by simp, fun a ha b hb => ?_⟩
      rw [List.mem_singleton] at hb
      subst hb
      exact ((belowTo_mem sup c k a).mp ha).2.1
    · exact belowTo_rise sup c k
theorem belowTo_self {sup : List Int} {c : Nat} (h : c < sup.length) : belowTo sup c (c + 1) = [(c : Int)] := by
  have e : belowTo sup (c : Int) c = [] := by
    apply List.eq_nil_iff_forall_not_mem.mpr
    intro x hx
    obtain ⟨h0, h1, h2⟩ := (belowTo_mem sup c c x).mp hx
    have := above_range (inB_iff.mp h2)
    omega
  unfold belowTo
  rw [if_pos (inB_iff.mpr (above_self (by omega) (by omega))), e]
  rfl
theorem belowTo_no {sup : List Int} {c : Int} (h : c < 0 ∨ (sup.length : Int) ≤ c) (k : Nat) (hk : k ≤ sup.length) : belowTo sup c k = [] := by
  apply List.eq_nil_iff_forall_not_mem.mpr
  intro x hx
  obtain ⟨h0, h1, h2⟩ := (belowTo_mem sup c k x).mp hx
  have := above_range (inB_iff.mp h2)
  omega
theorem own_one (w : World) (z : Int) {N : Nat} {T : TypeId} (hN : w.heap.size = N := by rfl) : ∀ j u, [Value.int .i64 z][j]? = some u → (w.alloc (.cells #[.int .i64 z] T)).cell? ((⟨N, 0, none⟩ : Addr).add j) = some u := by
  subst hN
  intro j u hj
  match j, hj with
  | 0, hj => simp at hj; subst hj; simp [Addr.add]
theorem one_cell (z : Int) : ∀ u ∈ [Value.int .i64 z], u.oneCell' = true := by intro u hu; simp at hu; subst hu; rfl
end Go.Proofs.Ytgpmdhdooglkfaa
namespace Go.Proofs.Ytgpmdhdooglkfaa
set_option maxRecDepth 100000
set_option linter.unusedVariables false
set_option linter.unusedSimpArgs false
open Go.ChangeShapes Go.WideShapes Go.ChangeAt Go.RowKit

/-- A step's answer, wherever its lists lie. -/
def StepIs (r : StepR) (w : World) (e : Ending) (w' : World) : Prop :=
  ∃ A c A' c', e = .returned (.tuple #[.slice A r.after.length c, .slice A' r.next.length c', .int .i64 r.err]) ∧ SlcIs TyAt 2 w' w'.heap.size A c r.after ∧ SlcIs IntAt 1 w' w'.heap.size A' c' r.next ∧ Below w.heap.size w w'
theorem step_bad (n : Int) {w w' : World} (hb : Below w.heap.size w w') : StepIs (badStep n) w (.returned (.tuple #[.slice none 0 0, .slice none 0 0, .int .i64 n])) w' :=
  ⟨none, 0, none, 0, rfl, ⟨Nat.le_refl _, by omega, fun i t hi => by simp [badStep] at hi⟩, ⟨Nat.le_refl _, by omega, fun i t hi => by simp [badStep] at hi⟩, hb⟩
theorem int_one {w : World} {g : Nat} {n : Int} (hg : g < w.heap.size) (h : w.cell? ⟨g, 0, none⟩ = some (.int .i64 n)) : SlcIs IntAt 1 w w.heap.size (some ⟨g, 0, none⟩) 1 [n] :=
  ⟨Nat.le_refl _, by omega, fun i t hi => by
    match i, hi with
    | 0, hi => simp at hi; subst hi; exact ⟨_, rfl, hg, h⟩
    | i + 1, hi => simp at hi⟩
/-- A step, once it is known what is taken, given, and where it goes on. -/
def stepTail (sup : List Int) (op : Int) (TK GV : List (Int × Int)) (nl : List Int) (st : List (Int × Int)) : StepR :=
  if st.length < TK.length ∨ 8 < st.length - TK.length + GV.length then badStep 4 else
  if ((st.drop (st.length - TK.length)).zip TK).all (fun p => doesB sup op p.1 p.2) = true then ⟨st.take (st.length - TK.length) ++ GV, nl, 0⟩ else badStep 4
theorem step_over {m : Img} {x : Mth} {pc op a b n : Int} {st : List (Int × Int)} {r : List Int} (e : nextOfOp pc op a = n :: r) (h : (x.code.length : Int) ≤ n) : stepIn m x pc op a b st = badStep 4 := by
  unfold stepIn
  rw [e, if_pos (by simpa using h)]
theorem step_none {m : Img} {x : Mth} {pc a b : Int} : stepIn m x pc 6 a b [] = badStep 4 := by
  unfold stepIn
  split
  · rfl
  · rw [if_pos (Or.inl ⟨rfl, rfl⟩)]
theorem step_tail {m : Img} {x : Mth} {pc op a b : Int} {st : List (Int × Int)} (h : ¬ (nextOfOp pc op a).head?.any (fun n => decide ((x.code.length : Int) ≤ n)) = true) (h6 : ¬ (op = 6 ∧ st = [])) :
    stepIn m x pc op a b st = stepTail (supsOf m.classes) op (takes m x op a b st) (gives m x op a b st) (nextOfOp pc op a) st := by
  unfold stepIn stepTail
  rw [if_neg h]
  by_cases g : st.length < (takes m x op a b st).length ∨ 8 < st.length - (takes m x op a b st).length + (gives m x op a b st).length
  · rw [if_pos (Or.inr g), if_pos g]
  · rw [if_neg g, if_neg (fun q => q.elim h6 g)]
theorem two_types (w : World) (T : TypeId) (vs us : List Value) : Cells ((w.alloc (.cells vs.toArray T)).alloc (.cells us.toArray T)).drew w.heap.size vs ∧ Cells ((w.alloc (.cells vs.toArray T)).alloc (.cells us.toArray T)).drew (w.heap.size + 1) us ∧
    Below w.heap.size w ((w.alloc (.cells vs.toArray T)).alloc (.cells us.toArray T)).drew ∧ w.heap.size < ((w.alloc (.cells vs.toArray T)).alloc (.cells us.toArray T)).drew.heap.size ∧ w.heap.size + 1 < ((w.alloc (.cells vs.toArray T)).alloc (.cells us.toArray T)).drew.heap.size := by
  have z1 : (w.alloc (.cells vs.toArray T)).heap.size = w.heap.size + 1 := by simp
  have z2 : ((w.alloc (.cells vs.toArray T)).alloc (.cells us.toArray T)).drew.heap.size = w.heap.size + 2 := by simp
  have hb : Below (w.heap.size + 1) (w.alloc (.cells vs.toArray T)) ((w.alloc (.cells vs.toArray T)).alloc (.cells us.toArray T)).drew := ((Below.refl _ _).alloc (by omega) _).drew
  have h2 := cells_new (w.alloc (.cells vs.toArray T)) us T
  rw [z1] at h2
  exact ⟨(cells_new w vs T).keep hb (by omega), h2, ((Below.refl _ _).alloc (Nat.le_refl _) _).trans (hb.mono (by omega)), by omega, by omega⟩
theorem givesOf_len (x : Mth) : (givesOf x).length ≤ 2 := by
  unfold givesOf
  split
  · exact Nat.zero_le _
  · exact Nat.le_succ _
theorem len_ite {c : Prop} [Decidable c] {A B : List (Int × Int)} (hA : A.length ≤ 2) (hB : B.length ≤ 2) : (if c then A else B).length ≤ 2 := by
  by_cases g : c
  · rw [if_pos g]; exact hA
  · rw [if_neg g]; exact hB
theorem giveOf_len (m : Img) (x : Mth) (op a b : Int) : (giveOf m x op a b).length ≤ 2 := by
  unfold giveOf
  repeat' apply len_ite
  all_goals first | exact givesOf_len _ | exact Nat.zero_le _ | exact Nat.le_succ _ | exact Nat.le_refl _
theorem tail_short {sup : List Int} {op : Int} {TK GV : List (Int × Int)} {nl : List Int} {st : List (Int × Int)} (h : st.length < TK.length) : stepTail sup op TK GV nl st = badStep 4 := by unfold stepTail; rw [if_pos (Or.inl h)]
theorem tail_high {sup : List Int} {op : Int} {TK GV : List (Int × Int)} {nl : List Int} {st : List (Int × Int)} {d : Nat} (hd : st.length - TK.length = d) (h : 8 < d + GV.length) : stepTail sup op TK GV nl st = badStep 4 := by unfold stepTail; rw [hd, if_pos (Or.inr h)]
theorem tail_on {sup : List Int} {op : Int} {TK GV : List (Int × Int)} {nl : List Int} {st : List (Int × Int)} {d : Nat} (hd : st.length - TK.length = d) (h0 : ¬ st.length < TK.length) (h : ¬ 8 < d + GV.length) :
    stepTail sup op TK GV nl st = if ((st.drop d).zip TK).all (fun p => doesB sup op p.1 p.2) = true then ⟨st.take d ++ GV, nl, 0⟩ else badStep 4 := by unfold stepTail; rw [hd, if_neg (fun q => q.elim h0 h)]
theorem does_any {sup : List Int} {op t0 t1 u1 : Int} : doesB sup op (t0, t1) (0, u1) = true := by unfold doesB; rw [if_pos rfl]
theorem does_ref {sup : List Int} {op t0 t1 u1 : Int} : doesB sup op (t0, t1) (4, u1) = (isRefB t0 && !(decide (op = 34) && decide (t0 = 2))) := by unfold doesB; rw [if_neg (show ¬ (4 : Int) = 0 by decide), if_pos rfl]
theorem does_sub {sup : List Int} {op t0 t1 u0 u1 : Int} (h0 : ¬ u0 = 0) (h4 : ¬ u0 = 4) : doesB sup op (t0, t1) (u0, u1) = subB sup t0 t1 u0 u1 := by unfold doesB; rw [if_neg h0, if_neg h4]
theorem ref_is {t0 t1 : Int} {w : World} {r : Bool} (HR : Hid (isRefB t0 = r)) : Calls Try.prog 41 #[tyV t0 t1] w fun e w' => e = .returned (.bool r) ∧ Below w.heap.size w w' := by
  have H := risref_any t0 t1 w
  rw [HR.out] at H
  exact H
theorem sub_any_is {m : Img} {h : Hnd} {x y t0 t1 : Int} {w0 w : World} {r : Bool} (HI : Hid (ImgIn w0 w0.heap.size h m)) (HX : Hid (Below w0.heap.size w0 w)) (HN : Hid (m.classes.length ≤ 1000)) (HR : Hid (subB (supsOf m.classes) x y t0 t1 = r)) :
    Calls Try.prog 42 #[.slice h.A0 m.classes.length h.c0, tyV x y, tyV t0 t1] w fun e w' => e = .returned (.bool r) ∧ Below w.heap.size w w' := by
  have H := rsub_any (supsOf m.classes) x y t0 t1 h.A0 h.c0 w.heap.size w (by rw [supsOf_len]; have := HN.out; omega) (Nat.le_refl _) (supers_of (HI.out.now HX.out).classes.row)
  rw [HR.out, supsOf_len] at H
  exact H
theorem own_row1 (w : World) (v : Value) (T : TypeId) : (w.alloc (.cells #[v] T)).ownsRow w.heap.size T 1 (.slice (some ⟨w.heap.size, 0, none⟩) 1 1) 1 [v] :=
  ⟨rfl, .inr ⟨w.heap.size, 1, #[v], rfl, Nat.le_refl _, heap_alloc_new _ _, Nat.le_refl _, by unfold maxLen; omega, rfl, rfl⟩⟩
theorem own_two {w : World} {B e : Nat} {v : Value} {p q : Int} (h : w.ownsRow B e 1 v ([p] ++ [q]).length (([p] ++ [q]).map (Value.int .i64))) :
    ∃ g c, v = .slice (some ⟨g, 0, none⟩) 2 c ∧ SlcIs IntAt 1 w w.heap.size (some ⟨g, 0, none⟩) c [p, q] ∧ w.cell? ⟨g, 0, none⟩ = some (.int .i64 p) := by
  rcases ownK_slice h with ⟨_, hn⟩ | ⟨g, c, hv, _⟩
  · cases hn
  · obtain ⟨A, c', hv', hl, g1, g2⟩ := own_ints h
    rw [hv] at hv'
    injection hv' with e1 e2 e3
    subst e1 e3
    have hS : SlcIs IntAt 1 w w.heap.size (some ⟨g, 0, none⟩) c [p, q] := ⟨g1, g2, fun i x hi => by
      obtain ⟨ad, e, hb, hc⟩ := hl i (.int .i64 x) (by rw [List.getElem?_map]; show Option.map _ ([p, q][i]?) = _; rw [hi]; rfl)
      exact ⟨ad, e, hb, by rw [Nat.mul_one]; exact hc⟩⟩
    refine ⟨g, c, hv, hS, ?_⟩
    obtain ⟨ad, e, hb, hc⟩ := hl 0 (.int .i64 p) rfl
    injection e with e
    subst e
    simpa [Addr.add] using hc
theorem int_none (w : World) (A : Option Addr) (B : Nat) : SlcIs IntAt 1 w B A 0 [] := ⟨Nat.le_refl _, by omega, fun i t hi => by simp at hi⟩
end Go.Proofs.Ytgpmdhdooglkfaa
namespace Go.Proofs.Ytgpmdhdooglkfaa
set_option maxRecDepth 100000
set_option linter.unusedVariables false
set_option linter.unusedSimpArgs false
open Go.ChangeShapes Go.WideShapes Go.ChangeAt Go.RowKit

/-- A list of numbers, wherever it lies. -/
def SomeInts (L : List Int) (w : World) (e : Ending) (w' : World) : Prop := ∃ A c, e = .returned (.slice A L.length c) ∧ SlcIs IntAt 1 w' w'.heap.size A c L ∧ Below w.heap.size w w'
/-- The same, in memory that was not there. -/
def NewInts (L : List Int) (w : World) (e : Ending) (w' : World) : Prop := ∃ A c, e = .returned (.slice A L.length c) ∧ SlcIs IntAt 1 w' w'.heap.size A c L ∧ (∀ ad, A = some ad → w.heap.size ≤ ad.block) ∧ Below w.heap.size w w'
theorem int_two {w : World} {g : Nat} {p q : Int} (hg : g < w.heap.size) (h0 : w.cell? ⟨g, 0, none⟩ = some (.int .i64 p)) (h1 : w.cell? ⟨g, 1, none⟩ = some (.int .i64 q)) : SlcIs IntAt 1 w w.heap.size (some ⟨g, 0, none⟩) 2 [p, q] :=
  ⟨Nat.le_refl _, by omega, fun i t hi => by
    match i, hi with
    | 0, hi => simp at hi; subst hi; exact ⟨_, rfl, hg, h0⟩
    | 1, hi => simp at hi; subst hi; exact ⟨_, rfl, hg, (show w.cell? _ = _ by simpa [Addr.add] using h1)⟩
    | i + 2, hi => simp at hi⟩
theorem fgoes_new (op a b : Int) (pc : Nat) (hpc : pc ≤ 1000000) (w : World) :
    Calls Try.prog 55 #[insV op a b, .int .i64 pc] w (NewInts (nextOfOp pc op a) w) := by
  have hw1 : IntKind.i64.wrap ((pc : Int) + 1) = (pc : Int) + 1 := IntWalk.i64_in _ (by omega)
  by_cases h18 : op = 18
  · subst h18
    have e : nextOfOp (pc : Int) 18 a = [a] := rfl
    rw [e]
    clear e
    go_enter Try.func55, Try.ntmps55
    go_wp2_with fail
    go_ret
    exact ⟨_, _, rfl, int_one (by simp) (by go_simp), (fun ad e => by injection e with e; subst e; simp), ((Below.refl _ _).alloc (Nat.le_refl _) _).alloc (by simp) _⟩
  · by_cases h19 : op = 19
    · subst h19
      have e : nextOfOp (pc : Int) 19 a = [(pc : Int) + 1, a] := rfl
      rw [e]
      clear e
      go_enter Try.func55, Try.ntmps55
      go_wp2_with fail
      go_ret
      exact ⟨_, _, rfl, int_two (by simp) (by go_simp) (by go_simp), (fun ad e => by injection e with e; subst e; simp), ((Below.refl _ _).alloc (Nat.le_refl _) _).alloc (by simp) _⟩
    · by_cases h33 : op = 33
      · subst h33
        have e : nextOfOp (pc : Int) 33 a = [] := rfl
        rw [e]
        clear e
        go_enter Try.func55, Try.ntmps55
        go_wp2_with fail
        go_ret
        exact ⟨_, _, rfl, slc_none, (fun ad e => by cases e), (Below.refl _ _).alloc (Nat.le_refl _) _⟩
      · have e : nextOfOp (pc : Int) op a = [(pc : Int) + 1] := by unfold nextOfOp; rw [if_neg h18, if_neg h19, if_neg h33]
        rw [e]
        clear e
        go_enter Try.func55, Try.ntmps55
        go_wp2_with fail
        go_ret
        exact ⟨_, _, rfl, int_one (by simp) (by go_simp), (fun ad e => by injection e with e; subst e; simp), ((Below.refl _ _).alloc (Nat.le_refl _) _).alloc (by simp) _⟩
theorem fgoes_any (op a b : Int) (pc : Nat) (hpc : pc ≤ 1000000) (w : World) :
    Calls Try.prog 55 #[insV op a b, .int .i64 pc] w (SomeInts (nextOfOp pc op a) w) :=
  (fgoes_new op a b pc hpc w).mono fun _ _ ⟨A, c, h1, h2, _, h4⟩ => ⟨A, c, h1, h2, h4⟩
theorem fgoes_nis {op a b : Int} {pc : Nat} {w : World} {L : List Int} (HL : Hid (nextOfOp pc op a = L)) (hpc : pc ≤ 1000000) :
    Calls Try.prog 55 #[insV op a b, .int .i64 pc] w (NewInts L w) := by
  have H := fgoes_new op a b pc hpc w
  rw [HL.out] at H
  exact H
theorem fgoes_is {op a b : Int} {pc : Nat} {w : World} {L : List Int} (HL : Hid (nextOfOp pc op a = L)) (hpc : pc ≤ 1000000) :
    Calls Try.prog 55 #[insV op a b, .int .i64 pc] w (SomeInts L w) := by
  have H := fgoes_any op a b pc hpc w
  rw [HL.out] at H
  exact H

/-- Is one of these numbers as great? -/
def farB (n : Int) (l : List Int) : Bool := l.any fun x => decide (n ≤ x)
abbrev leaveF (N : Nat) : Value := .func (.func 73) #[] #[.pointer (some ⟨N, 0, none⟩)]
theorem fleave1_any (x n : Int) (N : Nat) (w : World) (hc : w.cell? ⟨N, 0, none⟩ = some (.int .i64 n)) :
    Calls Try.prog 73 #[.int .i64 x, .pointer (some ⟨N, 0, none⟩)] w fun e w' => e = .returned (.bool (decide (n ≤ x))) ∧ w' = w := by
  go_enter Try.func73, Try.ntmps73
  go_wp2_with fail
  go_ret
  exact ⟨rfl, rfl⟩
theorem fleave1_is {x n : Int} {N : Nat} {w : World} {r : Bool} (hc : w.cell? ⟨N, 0, none⟩ = some (.int .i64 n)) (HR : Hid (decide (n ≤ x) = r)) :
    Calls Try.prog 73 #[.int .i64 x, .pointer (some ⟨N, 0, none⟩)] w fun e w' => e = .returned (.bool r) ∧ w' = w := by
  have H := fleave1_any x n N w hc
  rw [HR.out] at H
  exact H
theorem any_take {f : Int → Bool} {l : List Int} {k : Nat} (hk : k < l.length) (h : (l.take k).any f = false) (hx : f l[k] = false) : (l.take (k + 1)).any f = false := by
  rw [List.take_succ_eq_append_getElem hk, List.any_append, h]
  simp [hx]
theorem any_at {f : Int → Bool} {l : List Int} {k : Nat} (hk : k < l.length) (hx : f l[k] = true) : l.any f = true := List.any_eq_true.mpr ⟨_, List.getElem_mem hk, hx⟩
theorem findex_any (l : List Int) (n : Int) (N : Nat) (A : Option Addr) (c : Nat) (w : World) (hc : w.cell? ⟨N, 0, none⟩ = some (.int .i64 n)) (h : SlcIs IntAt 1 w w.heap.size A c l) :
    Calls Try.prog 89 #[.slice A l.length c, leaveF N] w fun e w' => ∃ z : Int, e = .returned (.int .i64 z) ∧ decide (z ≥ 0) = farB n l ∧ w' = w := by
  have hle := h.le
  have hcap := h.cap
  have HS := Lib.hid h
  clear h
  go_enter Try.func89, Try.ntmps89
  go_wp2_with fail
  go_loopw [8] (fun i wr => ∃ k : Nat, k ≤ l.length ∧ i = .int .i64 k ∧ Hid (farB n (l.take k) = false) ∧ wr = w) (fun i _ => l.length - (intOf i).toNat)
  case atStart => exact ⟨0, by omega, rfl, Lib.hid rfl, rfl⟩
  case round =>
    obtain ⟨k, hk, rfl, HA, rfl⟩ := hrel
    by_cases hlt : k < l.length
    · obtain ⟨ad, rfl, hab, hcz⟩ := HS.out.row.at_ hlt
      have hcz : wr.cell? (ad.add k) = some (.int .i64 l[k]) := by have := hcz; rw [Nat.mul_one] at this; exact this
      obtain ⟨r, hr⟩ : ∃ r, decide (n ≤ l[k]) = r := ⟨_, rfl⟩
      have HR := Lib.hid hr
      cases r
      · have HA2 : Hid (farB n (l.take (k + 1)) = false) := Lib.hid (any_take hlt HA.out hr)
        clear hr
        go_wp2_with (go_at_call 73; (with_reducible refine (fleave1_is hc HR).mono ?_); rintro e w1 ⟨rfl, rfl⟩)
        go_roundw
        case rel => exact ⟨k + 1, by omega, by go_num, HA2, trivial⟩
        case measure => simp [intOf]; omega
      · have HA2 : Hid (farB n l = true) := Lib.hid (any_at hlt hr)
        clear hr
        go_wp2_with (go_at_call 73; (with_reducible refine (fleave1_is hc HR).mono ?_); rintro e w1 ⟨rfl, rfl⟩)
        go_ret
        exact ⟨_, rfl, by rw [HA2.out]; simp, rfl⟩
    · have HA2 : Hid (farB n l = false) := Lib.hid (by have := HA.out; rwa [List.take_of_length_le (by omega)] at this)
      go_wp2_with fail
      go_ret
      exact ⟨_, rfl, by rw [HA2.out]; rfl, rfl⟩
theorem fcontains_any (l : List Int) (n : Int) (N : Nat) (A : Option Addr) (c : Nat) (w : World) (hc : w.cell? ⟨N, 0, none⟩ = some (.int .i64 n)) (h : SlcIs IntAt 1 w w.heap.size A c l) :
    Calls Try.prog 72 #[.slice A l.length c, leaveF N] w fun e w' => e = .returned (.bool (farB n l)) ∧ w' = w := by
  have HS := Lib.hid h
  have HC := Lib.hid hc
  clear h hc
  go_enter Try.func72, Try.ntmps72
  go_wp2_with (go_at_call 89; (with_reducible refine (findex_any l n N A c _ HC.out HS.out).mono ?_); rintro e w1 ⟨z, rfl, hz, rfl⟩; have HZ := Lib.hid hz; clear hz)
  go_ret
  exact ⟨by rw [← HZ.out]; rfl, rfl⟩
theorem fleaves_any (l : List Int) (n : Int) (A : Option Addr) (c : Nat) (w : World) (h : SlcIs IntAt 1 w w.heap.size A c l) :
    Calls Try.prog 56 #[.slice A l.length c, .int .i64 n] w fun e w' => e = .returned (.bool (farB n l)) ∧ Below w.heap.size w w' := by
  have hA : Below w.heap.size w (w.alloc (.cells #[.int .i64 n] 3)) := (Below.refl _ _).alloc (Nat.le_refl _) _
  have HA := Lib.hid hA
  have HS := Lib.hid ((h.below_to IntAt.keeps hA (Nat.le_refl _)).keep' IntAt.keeps hA.size (fun _ _ => rfl))
  have HC := Lib.hid (cells_new w [.int .i64 n] 3)
  clear h hA
  go_enter Try.func56, Try.ntmps56
  go_upto_region 1 with fail
  generalize w.alloc (.cells #[.int .i64 n] 3) = w1 at *
  have c0 := HC.out 0 _ rfl
  go_wp2_with (go_at_call 72; (with_reducible refine (fcontains_any l n w.heap.size A c w1 c0 HS.out).mono ?_); rintro e w2 ⟨rfl, rfl⟩)
  go_ret
  exact ⟨rfl, HA.out⟩
theorem fleaves_is {l : List Int} {n : Int} {A : Option Addr} {c : Nat} {w : World} {r : Bool} (h : SlcIs IntAt 1 w w.heap.size A c l) (HR : Hid (farB n l = r)) :
    Calls Try.prog 56 #[.slice A l.length c, .int .i64 n] w fun e w' => e = .returned (.bool r) ∧ Below w.heap.size w w' := by
  have H := fleaves_any l n A c w h
  rw [HR.out] at H
  exact H
end Go.Proofs.Ytgpmdhdooglkfaa
