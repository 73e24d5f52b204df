/-
  A row of what a function says, and one of its values turned. Plain definitions and lemmas; no conditions.
-/
import Derived.Test.YtmjoollhkjgohaaNumsIn
namespace Go.Proofs.Ytmjoollhkjgohaa
set_option maxRecDepth 100000
set_option linter.unusedVariables false
set_option linter.unusedSimpArgs false
open Go.ChangeShapes Go.WideShapes Go.ChangeAt Go.RowKit
set_option linter.unusedVariables false

/-- A function with one value turned. -/
def upd {α : Type} (f : Nat → α) (a : Nat) (b : α) : Nat → α := fun x => if x = a then b else f x
theorem upd_at {α : Type} (f : Nat → α) (a : Nat) (b : α) : upd f a b a = b := if_pos rfl
theorem upd_ne {α : Type} (f : Nat → α) {a x : Nat} (b : α) (h : x ≠ a) : upd f a b x = f x := if_neg h
def rowI (n : Nat) (f : Nat → Int) : List Int := (List.range n).map f
theorem rowI_len (n : Nat) (f : Nat → Int) : (rowI n f).length = n := by unfold rowI; rw [List.length_map, List.length_range]
theorem rowI_at {n v : Nat} (f : Nat → Int) (hv : v < n) : oN (rowI n f) v = f v := by
  rw [oN_at (by rw [rowI_len]; exact hv)]
  unfold rowI
  simp
theorem rowI_set {n v : Nat} (f : Nat → Int) (b : Int) : (rowI n f).set v b = rowI n (upd f v b) := by
  refine List.ext_getElem (by rw [List.length_set, rowI_len, rowI_len]) fun i h1 h2 => ?_
  rw [rowI_len] at h2
  have hl : v < n → v < (rowI n f).length := fun q => by rw [rowI_len]; exact q
  have hg : ∀ (F : Nat → Int) (h : i < (rowI n F).length), (rowI n F)[i] = F i := fun F h => (List.getElem_eq_iff h).mpr (by unfold rowI; rw [List.getElem?_map, List.getElem?_range h2]; rfl)
  rw [List.getElem_set, hg, hg]
  unfold upd
  by_cases e : v = i
  · subst e; simp
  · rw [if_neg e, if_neg (fun q : i = v => e q.symm)]
theorem whole_far {w : World} {g : Nat} {vs : List Value} {T : TypeId} (h : Whole w g vs T) {a : Addr} (ha : g ≠ a.block) (v : Value) : Whole (w.setCell a v) g vs T := (Below.heap_setCell w a v g ha).trans h
end Go.Proofs.Ytmjoollhkjgohaa
