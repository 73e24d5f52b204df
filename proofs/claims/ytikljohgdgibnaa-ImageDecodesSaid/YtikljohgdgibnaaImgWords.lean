/-
  What Encode answers, as the statements' walks take it.
-/
import Derived.Test.YtikljohgdgibnaaImgLaws
import Derived.Test.YtikljohgdgibnaaRefEncode
import Derived.Deep.Cut
import Derived.Deep.RegionHeld3
namespace Go.Proofs.Ytikljohgdgibnaa
set_option maxRecDepth 100000
open Go.ChangeShapes Go.WideShapes Go.ChangeAt Go.RowKit
set_option linter.unusedVariables false
set_option linter.unusedSimpArgs false

theorem encode_no {w : World} {g : Nat} {h : Hnd} {m : Img} {er : Int} (HM : Hid (Boxed w g h m)) (HR : Hid (encR m = ([], er))) :
    Calls Try.prog 10 #[imgV h m] w fun e w' => ∃ A c, e = .returned (.tuple #[.slice A 0 c, .int .i64 er]) ∧ Below w.heap.size w w' := by
  refine (iencode_any m h w.heap.size w (Nat.le_refl _) HM.out.img).mono ?_
  rintro e w' ⟨v, he, ho, hb⟩
  rw [HR.out] at he ho
  obtain ⟨A, c, rfl, _, _⟩ := own_slice_nil ho
  exact ⟨A, c, he, hb⟩
/-- Bytes in a row. -/
def RowOut (L : List Int) (w : World) (e : Ending) (w' : World) : Prop :=
  ∃ g c, e = .returned (.slice (some ⟨g, 0, none⟩) L.length c) ∧ Lies w' w'.heap.size (some ⟨g, 0, none⟩) (L.map (Value.int .u8)) ∧ Below w.heap.size w w'
theorem rencode_ok {w : World} {g : Nat} {h : Hnd} {m : Img} {L : List Int} (HM : Hid (Boxed w g h m)) (HF : Hid (fitsB m = true)) (HE : Hid (encImg m = L)) (HP : Hid (0 < L.length)) :
    Calls Try.prog 13 #[imgV h m] w (RowOut L w) := by
  refine (rencode_any m h w.heap.size w HF.out (Nat.le_refl _) HM.out.img).mono ?_
  rw [HE.out]
  rintro e w' ⟨v, rfl, ho, hb⟩
  obtain ⟨g, c, rfl, _, _, _, _, hL⟩ := own_bytes ho HP.out
  exact ⟨g, c, rfl, hL, hb⟩
theorem lies_now {w w' : World} {A : Option Addr} {xs : List Value} (H : Lies w w.heap.size A xs) (hb : Below w.heap.size w w') : Lies w' w'.heap.size A xs := (H.below_to hb (Nat.le_refl _)).more hb.size
theorem drew_size (w : World) : w.drew.heap.size = w.heap.size := rfl
end Go.Proofs.Ytikljohgdgibnaa
