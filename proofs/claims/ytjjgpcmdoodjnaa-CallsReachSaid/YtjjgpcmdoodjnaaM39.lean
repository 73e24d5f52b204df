/-
  What calls.Of and calls.Reach come to, as the statements on calls use them.
-/
import Derived.Test.YtjjgpcmdoodjnaaM38
import Derived.Test.YtjjgpcmdoodjnaaM37
namespace Go.Proofs.Ytjjgpcmdoodjnaa
set_option maxRecDepth 100000
set_option linter.unusedVariables false
set_option linter.unusedSimpArgs false
open Go.ChangeShapes Go.WideShapes Go.ChangeAt Go.RowKit
set_option linter.unusedVariables false

theorem cof_is {m : Img} {f : Int} {L : List Int} {n : Nat} {h : Hnd} {w0 w : World} (HI : Hid (ImgIn w0 w0.heap.size h m)) (HX : Hid (Below w0.heap.size w0 w)) (HS : Hid (saneB8 m = true)) (HL : Hid (callsOf m f = L)) (HN : Hid (L.length = n)) :
    Calls Try.prog 10 #[imgV h m, .int .i64 f] w fun e w' => ∃ A c, e = .returned (.slice A n c) ∧ SlcIs IntAt 1 w' w'.heap.size A c L ∧ Below w.heap.size w w' := by
  obtain rfl := HN.out
  have H := cof_any m f h w (HI.out.now HX.out) HS.out
  rw [HL.out] at H
  exact H
theorem creach_is {m : Img} {f : Int} {L : List Int} {n : Nat} {h : Hnd} {w0 w : World} (HI : Hid (ImgIn w0 w0.heap.size h m)) (HX : Hid (Below w0.heap.size w0 w)) (HS : Hid (saneB8 m = true)) (HL : Hid (reachOf m f = L)) (HN : Hid (L.length = n)) :
    Calls Try.prog 11 #[imgV h m, .int .i64 f] w fun e w' => ∃ A c, e = .returned (.slice A n c) ∧ SlcIs IntAt 1 w' w'.heap.size A c L ∧ Below w.heap.size w w' := by
  obtain rfl := HN.out
  have H := creach_any m f h w (HI.out.now HX.out) HS.out
  rw [HL.out] at H
  exact H
end Go.Proofs.Ytjjgpcmdoodjnaa
