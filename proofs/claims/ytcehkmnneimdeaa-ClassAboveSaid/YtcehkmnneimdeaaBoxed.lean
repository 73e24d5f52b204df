/-
  Images in a block of their own: they stay where what is made anew leaves them alone. Plain lemmas; no conditions.
-/
import Derived.Test.YtcehkmnneimdeaaBox
namespace Go.Proofs.Ytcehkmnneimdeaa
set_option maxRecDepth 100000
set_option linter.unusedVariables false
set_option linter.unusedSimpArgs false
open Go.ChangeShapes Go.WideShapes Go.ChangeAt Go.RowKit
set_option linter.unusedVariables false

/-- A block that holds an image by value, and the image stands. -/
structure Boxed (w : World) (g : Nat) (h : Hnd) (m : Img) : Prop where
  box : ImgBox w g h m
  lt : g < w.heap.size
  img : ImgIn w w.heap.size h m
theorem ImgIn.now {w w' : World} {h : Hnd} {m : Img} (H : ImgIn w w.heap.size h m) (hb : Below w.heap.size w w') : ImgIn w' w'.heap.size h m :=
  (H.below_to hb (Nat.le_refl _)).more hb.size
theorem Boxed.keep {w w' : World} {g : Nat} {h : Hnd} {m : Img} (H : Boxed w g h m) (hb : Below w.heap.size w w') : Boxed w' g h m :=
  ⟨H.box.keep hb H.lt, Nat.lt_of_lt_of_le H.lt hb.size, H.img.now hb⟩
theorem Boxed.new {w : World} {h : Hnd} {m : Img} (H : ImgIn w w.heap.size h m) : Boxed (w.alloc (imgO h m)) w.heap.size h m :=
  ⟨img_box w h m, by simp, H.now ((Below.refl _ _).alloc (Nat.le_refl _) _)⟩
theorem below_box {w : World} {h : Hnd} {m : Img} : Below w.heap.size w (w.alloc (imgO h m)) := (Below.refl _ _).alloc (Nat.le_refl _) _

end Go.Proofs.Ytcehkmnneimdeaa
