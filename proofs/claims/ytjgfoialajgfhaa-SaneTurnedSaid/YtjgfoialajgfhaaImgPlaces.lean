/-
  Where the methods of an image that came in lie is among the places that were read. Plain lemmas; no conditions.
-/
import Derived.Test.YtjgfoialajgfhaaImgOpen
namespace Go.Proofs.Ytjgfoialajgfhaa
set_option maxRecDepth 100000
set_option linter.unusedVariables false
set_option linter.unusedSimpArgs false
open Go.ChangeShapes Go.WideShapes Go.Deep Go.Joins Go.RowKit
set_option linter.unusedVariables false

section
variable {H : Type} {enc : TypeId × Value → H} {w : World} {base : Nat} {held : Bool} {spare : Nat → Bool}
theorem slice_places {P : Program} {t e : TypeId} {fuel n c : Nat} {ad : Addr} {x : DataW H × List MemPlace} (ht : P.underlying t = some (.slice e)) (h : DataW.trod enc P w base spare held fuel t [.slice (some ad) n c] = some x) {j : Nat} (hj : j < n * P.cellsOf e) :
    MemPlace.cell ad.block (ad.off + j) ∈ x.2 := by
  rcases DataW.trod_slice ht h with ⟨h1, _⟩ | ⟨a, len, cap, elems, rest, _, _, h1, h2, _, _, _, h3, _⟩
  · simp at h1
  · simp only [List.cons.injEq, Value.slice.injEq, Option.some.injEq, and_true] at h1
    obtain ⟨rfl, rfl, rfl⟩ := h1
    rw [h2]
    refine List.mem_append_left _ (List.mem_map.mpr ⟨j, List.mem_range.mpr (Nat.lt_of_lt_of_le hj (Nat.mul_le_mul_right _ (by omega))), rfl⟩)
theorem img_places {d : DataW H} {p : List MemPlace} {hd : Hnd} {m : Img} (h : DataW.Trod enc Try.prog w base spare held 28 (imgV hd m) d p) {ad : Addr} (ha : hd.A3 = some ad) {j : Nat} (hj : j < m.methods.length * 8) : MemPlace.cell ad.block (ad.off + j) ∈ p := by
  obtain ⟨fuel, hf⟩ := h
  obtain ⟨xs, n, _, hp, _, hx, hf⟩ := DataW.trod_struct Try.underlying28 hf
  obtain ⟨y3, g3⟩ := some_of (hf 3 _ rfl) hx (by decide)
  have w3 := (hf 3 _ rfl).symm.trans g3
  change DataW.trod enc Try.prog w base spare held n 25 (List.take (Try.prog.cellsOf 25) (List.drop 3 _)) = _ at g3
  rw [show Try.prog.cellsOf 25 = 1 by kernel_rfl] at g3
  simp [Value.cells, ha] at g3
  have := slice_places Try.underlying25 g3 (j := j) (by rw [show Try.prog.cellsOf 38 = 8 by kernel_rfl]; exact hj)
  rw [show p = xs.flatMap (·.2) from congrArg Prod.snd hp]
  exact List.mem_flatMap.mpr ⟨y3, List.mem_of_getElem? w3, this⟩
end
end Go.Proofs.Ytjgfoialajgfhaa
