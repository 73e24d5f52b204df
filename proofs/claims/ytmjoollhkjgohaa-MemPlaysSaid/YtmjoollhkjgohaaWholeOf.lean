/-
  Blocks that are known whole; rows of one thing. Plain definitions and lemmas; no conditions.
-/
import Derived.Test.YtmjoollhkjgohaaCellsOf
namespace Go.Proofs.Ytmjoollhkjgohaa
set_option maxRecDepth 100000
set_option linter.unusedVariables false
set_option linter.unusedSimpArgs false
open Go.ChangeShapes Go.WideShapes Go.ChangeAt Go.RowKit
set_option linter.unusedVariables false

/-- A block known whole, of which nothing is frozen. -/
def Whole (w : World) (g : Nat) (vs : List Value) (T : TypeId) : Prop := w.heap[g]? = some (.cells vs.toArray T (0, 0))
theorem Whole.new (w : World) (vs : List Value) (T : TypeId) : Whole (w.alloc (.cells vs.toArray T)) w.heap.size vs T := heap_alloc_new _ _
theorem Whole.at_ {w : World} {N : Nat} (hN : w.heap.size = N) (vs : List Value) (T : TypeId) : Whole (w.alloc (.cells vs.toArray T)) N vs T := by
  subst hN
  exact Whole.new w vs T
theorem Whole.lt {w : World} {g : Nat} {vs : List Value} {T : TypeId} (h : Whole w g vs T) : g < w.heap.size := by
  rcases Nat.lt_or_ge g w.heap.size with x | x
  · exact x
  · unfold Whole at h; rw [Array.getElem?_eq_none x] at h; cases h
theorem Whole.keep {w w' : World} {g B : Nat} {vs : List Value} {T : TypeId} (h : Whole w g vs T) (hb : Below B w w') (hg : g < B) : Whole w' g vs T := (hb.block g hg).trans h
theorem Whole.cells {w : World} {g : Nat} {vs : List Value} {T : TypeId} (h : Whole w g vs T) : Cells w g vs := fun i v hi => by
  unfold Whole at h
  simp [World.cell?, h, hi]
theorem Whole.free {w : World} {g : Nat} {vs : List Value} {T : TypeId} (h : Whole w g vs T) (i : Nat) : w.frozen? ⟨g, i, none⟩ = false := by
  unfold Whole at h
  simp [World.frozen?, h]
theorem Whole.set {w : World} {g : Nat} {vs : List Value} {T : TypeId} (h : Whole w g vs T) (i : Nat) (v : Value) : Whole (w.setCell ⟨g, i, none⟩ v) g (vs.set i v) T := by
  have := heap_setCell_same w g i vs.toArray T v h
  unfold Whole
  rw [this]
  simp
theorem slc_none {α : Type} {At : AtP α} {k : Nat} {w : World} {B : Nat} : SlcIs At k w B none 0 [] := ⟨Nat.le_refl _, by omega, RowOf.nil⟩
theorem cells_step {w : World} {N : Nat} (hN : w.heap.size = N) (vs : List Value) (T : TypeId) :
    Cells (w.alloc (.cells vs.toArray T)) N vs ∧ (w.alloc (.cells vs.toArray T)).heap.size = N + 1 ∧ Below N w (w.alloc (.cells vs.toArray T)) := by
  subst hN
  exact ⟨cells_new w vs T, by simp, (Below.refl _ _).alloc (Nat.le_refl _) _⟩
theorem row_one {α : Type} {At : AtP α} {k : Nat} {w : World} {B g : Nat} {x : α} (h : At w B ⟨g, 0, none⟩ x) (hg : g < B) : RowOf At k w B (some ⟨g, 0, none⟩) [x] := fun i y hi => by
  match i, hi with
  | 0, hi =>
    simp at hi
    subst hi
    refine ⟨_, rfl, hg, ?_⟩
    rw [Nat.zero_mul, show (⟨g, 0, none⟩ : Addr).add 0 = ⟨g, 0, none⟩ by simp [Addr.add]]
    exact h
end Go.Proofs.Ytmjoollhkjgohaa
