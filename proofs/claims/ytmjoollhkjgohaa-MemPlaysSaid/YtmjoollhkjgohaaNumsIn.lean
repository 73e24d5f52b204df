/-
  Rows of numbers in blocks of their own. Plain definitions and lemmas; no conditions.
-/
import Derived.Test.YtmjoollhkjgohaaWholeOf
import Derived.Test.YtmjoollhkjgohaaAppK
namespace Go.Proofs.Ytmjoollhkjgohaa
set_option maxRecDepth 100000
set_option linter.unusedVariables false
set_option linter.unusedSimpArgs false
open Go.ChangeShapes Go.WideShapes Go.ChangeAt Go.RowKit
set_option linter.unusedVariables false

def oN (O : List Int) (t : Nat) : Int := O[t]?.getD 0
theorem oN_at {O : List Int} {t : Nat} (h : t < O.length) : oN O t = O[t] := by unfold oN; rw [List.getElem?_eq_getElem h]; rfl
theorem oN_set {O : List Int} {f t : Nat} {v : Int} (hf : f < O.length) : oN (O.set f v) t = if t = f then v else oN O t := by
  unfold oN
  rw [List.getElem?_set]
  by_cases h : f = t
  · subst h; rw [if_pos rfl, if_pos hf, if_pos rfl]; rfl
  · rw [if_neg h, if_neg (fun e => h e.symm)]
theorem made_one {z v : Value} (hz : z.cells = #[v]) (n : Nat) : (madeCells z.cells (n * 1)).toList = List.replicate n v := by
  rw [hz]
  refine List.ext_getElem? fun i => ?_
  unfold madeCells
  by_cases hi : i < n
  · rw [Array.getElem?_toList, Array.getElem?_map, Array.getElem?_range, if_pos (by omega), List.getElem?_replicate, if_pos hi]
    simp [Nat.mod_one]
  · rw [List.getElem?_eq_none (by simp; omega), List.getElem?_eq_none (by simp; omega)]
theorem own_whole1 {w : World} {base g n : Nat} {xs : List Value} {T : TypeId} (h : w.ownsRow base T 1 (.slice (some ⟨g, 0, none⟩) n n) n xs) : Whole w g xs T := by
  obtain ⟨h0, h1⟩ := h
  rcases h1 with ⟨h1, _⟩ | ⟨g', cap, cur, h1, _, hh, _, _, hs, hx⟩
  · cases h1
  · injection h1 with e1 e2 e3
    simp at e1
    subst e1 e3
    have hc : cur.toList = xs := by rw [← hx, List.take_of_length_le (by rw [Array.length_toList, hs]; exact Nat.le_refl _)]
    unfold Whole
    rw [hh, ← hc]
/-- A row of numbers in a block of its own. -/
def NumsIn (w : World) (g : Nat) (O : List Int) : Prop := Whole w g (O.map (Value.int .i64)) 3
theorem NumsIn.at_ {w : World} {g t : Nat} {O : List Int} (h : NumsIn w g O) (ht : t < O.length) : w.cell? ⟨g, t, none⟩ = some (.int .i64 (oN O t)) := by
  refine h.cells t _ ?_
  rw [List.getElem?_map, List.getElem?_eq_getElem ht, oN_at ht]
  rfl
theorem NumsIn.set {w : World} {g t : Nat} {O : List Int} (h : NumsIn w g O) (v : Int) : NumsIn (w.setCell ⟨g, t, none⟩ (.int .i64 v)) g (O.set t v) := by
  have := Whole.set h t (.int .i64 v)
  unfold NumsIn
  rw [List.map_set]
  exact this
theorem NumsIn.keep {w w' : World} {g : Nat} {O : List Int} (h : NumsIn w g O) (hb : Below w.heap.size w w') : NumsIn w' g O := Whole.keep h hb (Whole.lt h)
theorem NumsIn.slc {w : World} {g n : Nat} {O : List Int} (h : NumsIn w g O) (hn : O.length = n) (hl : n ≤ 1000) : SlcIs IntAt 1 w w.heap.size (some ⟨g, 0, none⟩) n O :=
  ⟨by omega, by omega, fun i x hi => by
    obtain ⟨hi', e⟩ := List.getElem?_eq_some_iff.mp hi
    have hc := h.at_ hi'
    rw [oN_at hi', e] at hc
    refine ⟨_, rfl, Whole.lt h, ?_⟩
    show w.cell? (Addr.add ⟨g, 0, none⟩ (i * 1)) = _
    rw [show Addr.add ⟨g, 0, none⟩ (i * 1) = ⟨g, i, none⟩ by unfold Addr.add; split <;> simp_all]
    exact hc⟩
end Go.Proofs.Ytmjoollhkjgohaa
