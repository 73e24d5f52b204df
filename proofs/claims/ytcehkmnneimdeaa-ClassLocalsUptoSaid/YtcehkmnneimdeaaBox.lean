/-
  The cells of an image that was boxed, and of other boxes. Plain definitions and lemmas; no conditions.
-/
import Derived.Test.YtcehkmnneimdeaaImg
import Derived.Test.YtcehkmnneimdeaaRows
import Derived.ProofKit
import Derived.OpenShut
import Derived.Outline
import Derived.Deep.QuietTactic
import Derived.BigQuiet
import Derived.Deep.Cut
namespace Go.Proofs.Ytcehkmnneimdeaa
set_option maxRecDepth 100000
set_option linter.unusedVariables false
set_option linter.unusedSimpArgs false
open Go.ChangeShapes Go.WideShapes Go.ChangeAt Go.RowKit
set_option linter.unusedVariables false

/-- The cells of an image that was boxed. -/
def ImgBox (w : World) (N : Nat) (h : Hnd) (m : Img) : Prop :=
  w.cell? ⟨N, 0, none⟩ = some (.slice h.A0 m.classes.length h.c0) ∧ w.cell? ⟨N, 1, none⟩ = some (.slice h.A1 m.statics.length h.c1) ∧ w.cell? ⟨N, 2, none⟩ = some (.slice h.A2 m.ints.length h.c2) ∧
  w.cell? ⟨N, 3, none⟩ = some (.slice h.A3 m.methods.length h.c3) ∧ w.cell? ⟨N, 4, none⟩ = some (.slice h.A4 m.entries.length h.c4) ∧ w.cell? ⟨N, 5, none⟩ = some (.int .i64 m.stack) ∧ w.cell? ⟨N, 6, none⟩ = some (.int .i64 m.heap)
theorem ImgBox.keep {w w' : World} {N B : Nat} {h : Hnd} {m : Img} (H : ImgBox w N h m) (hb : Below B w w') (hN : N < B) : ImgBox w' N h m := by
  obtain ⟨h0, h1, h2, h3, h4, h5, h6⟩ := H
  have c : ∀ i, w'.cell? ⟨N, i, none⟩ = w.cell? ⟨N, i, none⟩ := fun i => hb.cell (p := ⟨N, i, none⟩) hN
  exact ⟨(c 0).trans h0, (c 1).trans h1, (c 2).trans h2, (c 3).trans h3, (c 4).trans h4, (c 5).trans h5, (c 6).trans h6⟩
/-- The image's cells as a block. -/
abbrev imgO (h : Hnd) (m : Img) : Obj :=
  .cells #[.slice h.A0 m.classes.length h.c0, .slice h.A1 m.statics.length h.c1, .slice h.A2 m.ints.length h.c2, .slice h.A3 m.methods.length h.c3, .slice h.A4 m.entries.length h.c4, .int .i64 m.stack, .int .i64 m.heap] 28
theorem img_box (w : World) (h : Hnd) (m : Img) : ImgBox (w.alloc (imgO h m)) w.heap.size h m := by
  refine ⟨?_, ?_, ?_, ?_, ?_, ?_, ?_⟩ <;> (rw [World.cell?_alloc_at _ _ _ _ rfl]; rfl)
/-- A block's cells, one by one. -/
def Cells (w : World) (N : Nat) (vs : List Value) : Prop := ∀ i v, vs[i]? = some v → w.cell? ⟨N, i, none⟩ = some v
theorem Cells.keep {w w' : World} {N B : Nat} {vs : List Value} (H : Cells w N vs) (hb : Below B w w') (hN : N < B) : Cells w' N vs := fun i v h => (hb.cell (p := ⟨N, i, none⟩) hN).trans (H i v h)
theorem cells_new (w : World) (vs : List Value) (T : TypeId) : Cells (w.alloc (.cells vs.toArray T)) w.heap.size vs := fun i v h => by
  rw [World.cell?_alloc_at _ _ _ _ rfl]
  simpa using h
theorem box3 {w w1 : World} {x y z : Value} {T : TypeId} (hb : Below (w.alloc (.cells #[x, y, z] T)).heap.size (w.alloc (.cells #[x, y, z] T)) w1) :
    w1.cell? ⟨w.heap.size, 0, none⟩ = some x ∧ w1.cell? ⟨w.heap.size, 1, none⟩ = some y ∧ w1.cell? ⟨w.heap.size, 2, none⟩ = some z := by
  have hs : w.heap.size < (w.alloc (.cells #[x, y, z] T)).heap.size := by simp
  refine ⟨(hb.cell hs).trans ?_, (hb.cell hs).trans ?_, (hb.cell hs).trans ?_⟩ <;> (rw [World.cell?_alloc_at _ _ _ _ rfl]; rfl)
theorem box8 {w w1 : World} {x0 x1 x2 x3 x4 x5 x6 x7 : Value} {T : TypeId} (hb : Below (w.alloc (.cells #[x0, x1, x2, x3, x4, x5, x6, x7] T)).heap.size (w.alloc (.cells #[x0, x1, x2, x3, x4, x5, x6, x7] T)) w1) :
    w1.cell? ⟨w.heap.size, 0, none⟩ = some x0 ∧ w1.cell? ⟨w.heap.size, 1, none⟩ = some x1 ∧ w1.cell? ⟨w.heap.size, 2, none⟩ = some x2 ∧ w1.cell? ⟨w.heap.size, 3, none⟩ = some x3 ∧
    w1.cell? ⟨w.heap.size, 4, none⟩ = some x4 ∧ w1.cell? ⟨w.heap.size, 5, none⟩ = some x5 ∧ w1.cell? ⟨w.heap.size, 6, none⟩ = some x6 ∧ w1.cell? ⟨w.heap.size, 7, none⟩ = some x7 := by
  have hs : w.heap.size < (w.alloc (.cells #[x0, x1, x2, x3, x4, x5, x6, x7] T)).heap.size := by simp
  refine ⟨(hb.cell hs).trans ?_, (hb.cell hs).trans ?_, (hb.cell hs).trans ?_, (hb.cell hs).trans ?_, (hb.cell hs).trans ?_, (hb.cell hs).trans ?_, (hb.cell hs).trans ?_, (hb.cell hs).trans ?_⟩ <;> (rw [World.cell?_alloc_at _ _ _ _ rfl]; rfl)
end Go.Proofs.Ytcehkmnneimdeaa
