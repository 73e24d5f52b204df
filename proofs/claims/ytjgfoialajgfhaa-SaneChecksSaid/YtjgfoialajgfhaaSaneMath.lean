/-
  When all is there that an image names, as plain data: classes, methods, entries one behind the other. Plain facts; no conditions.
-/
import Derived.Test.YtjgfoialajgfhaaRefClass
namespace Go.Proofs.Ytjgfoialajgfhaa
set_option maxRecDepth 100000
set_option linter.unusedVariables false
set_option linter.unusedSimpArgs false
open Go.ChangeShapes Go.WideShapes Go.ChangeAt Go.RowKit
set_option linter.unusedVariables false

/-- Are the first k classes right? -/
def clsOk (m : Img) (k : Nat) : Bool := (List.range k).all fun i => match m.classes[i]? with
  | some x => classB m (i : Int) x
  | none => true
theorem clsOk_zero (m : Img) : clsOk m 0 = true := rfl
theorem clsOk_succ {m : Img} {k : Nat} {x : Cls} (hx : m.classes[k]? = some x) : clsOk m (k + 1) = (clsOk m k && classB m (k : Int) x) := by
  unfold clsOk
  rw [List.range_succ, List.all_append]
  simp [hx]
theorem clsOk_at {m : Img} {k i : Nat} {x : Cls} (h : clsOk m k = true) (hi : i < k) (hx : m.classes[i]? = some x) : classB m (i : Int) x = true := by
  have := List.all_eq_true.mp h i (List.mem_range.mpr hi)
  rw [hx] at this
  exact this
theorem clsOk_not {m : Img} {k n : Nat} (h : clsOk m k = false) (hk : k ≤ n) : clsOk m n = false := by
  rw [Bool.eq_false_iff] at h ⊢
  intro g
  refine h (List.all_eq_true.mpr fun i hi => ?_)
  exact List.all_eq_true.mp g i (List.mem_range.mpr (Nat.lt_of_lt_of_le (List.mem_range.mp hi) hk))
theorem slotsFrom_at {m : Img} {c : Int} {ab : List Int} : ∀ (l : List Int) (k : Nat), slotsFrom m c ab k l = true → ∀ s ∈ l, ∃ j, slotB m c ab j s = true
  | [], _, _, s, hs => by simp at hs
  | a :: r, k, h, s, hs => by
    simp only [slotsFrom, Bool.and_eq_true] at h
    rcases List.mem_cons.mp hs with rfl | hs
    · exact ⟨k, h.1⟩
    · exact slotsFrom_at r (k + 1) h.2 s hs
theorem slotB_method {m : Img} {c : Int} {ab : List Int} {k : Nat} {s : Int} (h : slotB m c ab k s = true) : ∃ f, m.methods[s.toNat]? = some f ∧ 0 < f.args.length := by
  unfold slotB at h
  cases hf : m.methods[s.toNat]? with
  | none => rw [hf] at h; simp at h
  | some f =>
    rw [hf] at h
    cases ha : f.args with
    | nil => dsimp only at h; rw [ha] at h; simp at h
    | cons t r => exact ⟨f, rfl, by rw [ha]; simp⟩
theorem cls_slots {m : Img} {c : Int} {x : Cls} (h : classB m c x = true) : ∀ s ∈ x.slots, ∃ f, m.methods[s.toNat]? = some f ∧ 0 < f.args.length := fun s hs => by
  unfold classB at h
  simp only [Bool.and_eq_true] at h
  obtain ⟨j, hj⟩ := slotsFrom_at _ _ h.2.2.2.2 s hs
  exact slotB_method hj
theorem above_ok {m : Img} {i : Nat} {x : Cls} (h : clsOk m i = true) (hs : x.sup < (i : Int)) : ∀ q ∈ aboveSlots m x, ∃ g, m.methods[q.toNat]? = some g ∧ 0 < g.args.length := fun q hq => by
  unfold aboveSlots at hq
  split at hq
  · rename_i h0
    cases hy : m.classes[x.sup.toNat]? with
    | none => rw [hy] at hq; simp at hq
    | some y =>
      rw [hy] at hq
      exact cls_slots (clsOk_at h (show x.sup.toNat < i by omega) hy) q hq
  · simp at hq

def upTo {α : Type} (p : α → Bool) (l : List α) (k : Nat) : Bool := (l.take k).all p
theorem upTo_zero {α : Type} (p : α → Bool) (l : List α) : upTo p l 0 = true := by simp [upTo]
theorem upTo_succ {α : Type} {p : α → Bool} {l : List α} {k : Nat} (hk : k < l.length) : upTo p l (k + 1) = (upTo p l k && p l[k]) := by
  unfold upTo
  rw [List.take_add_one, List.getElem?_eq_getElem hk, List.all_append]
  simp
theorem upTo_end {α : Type} {p : α → Bool} {l : List α} {k : Nat} (hk : l.length ≤ k) : upTo p l k = l.all p := by
  unfold upTo
  rw [List.take_of_length_le hk]
theorem upTo_not {α : Type} {p : α → Bool} {l : List α} {k : Nat} (h : upTo p l k = false) : l.all p = false := by
  rw [Bool.eq_false_iff] at h ⊢
  intro g
  exact h (List.all_eq_true.mpr fun x hx => List.all_eq_true.mp g x (List.mem_of_mem_take hx))
/-- May a method be an entry? -/
def entryB (m : Img) (n : Int) : Bool := match m.methods[n.toNat]? with
  | none => false
  | some f => (decide (f.ret.1 = 1) || decide (f.ret.1 = 5)) && f.args.all fun t => decide (t.1 = 1)
theorem entry_none {m : Img} {n : Nat} (h : m.methods.length ≤ n) : entryB m (n : Int) = false := by
  unfold entryB
  rw [Int.toNat_natCast, List.getElem?_eq_none h]
theorem entry_some {m : Img} {n : Nat} {f : Mth} (h : m.methods[n]? = some f) : entryB m (n : Int) = ((decide (f.ret.1 = 1) || decide (f.ret.1 = 5)) && f.args.all fun t => decide (t.1 = 1)) := by
  unfold entryB
  rw [Int.toNat_natCast, h]
/-- Is all there that is named? -/
def okB (m : Img) : Bool := goodsB m.statics m.classes.length && (clsOk m m.classes.length && (m.methods.all (methodB m) && m.entries.all (entryB m)))
def saneR (m : Img) : Int := if fitsB m = false then 2 else if okB m = true then 0 else 3
theorem sane_not {m : Img} (h : fitsB m = false) : saneR m = 2 := if_pos h
theorem sane_yes {m : Img} (h : fitsB m = true) (g : okB m = true) : saneR m = 0 := by unfold saneR; rw [if_neg (by rw [h]; decide), if_pos g]
theorem sane_no {m : Img} (h : fitsB m = true) (g : okB m = false) : saneR m = 3 := by unfold saneR; rw [if_neg (by rw [h]; decide), if_neg (by rw [g]; decide)]
end Go.Proofs.Ytjgfoialajgfhaa
