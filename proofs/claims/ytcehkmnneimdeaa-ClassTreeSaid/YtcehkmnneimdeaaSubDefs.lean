/-
  Whether one type fits where another is wanted, as plain data, and how much stands above a class. Plain definitions and lemmas; no conditions.
-/
import Derived.Test.YtcehkmnneimdeaaRefKind
namespace Go.Proofs.Ytcehkmnneimdeaa
set_option maxRecDepth 100000
set_option linter.unusedVariables false
set_option linter.unusedSimpArgs false
open Go.ChangeShapes Go.WideShapes Go.ChangeAt Go.RowKit
set_option linter.unusedVariables false

def subB (sup : List Int) (k n k' n' : Int) : Bool := if k = 4 then isRefB k' else if k = 3 then decide (k' = 3) && inB (aboveI sup n) n' else decide ((k = 1 ∨ k = 2) ∧ k = k' ∧ n = n')

/-- What stood below a block number stands as it did. -/
theorem below_cells {W w1 : World} (hb : Below W.heap.size W w1) : (∀ b o, b < W.heap.size → w1.cell? ⟨b, o, none⟩ = W.cell? ⟨b, o, none⟩) ∧ (∀ b o, b < W.heap.size → w1.frozen? ⟨b, o, none⟩ = W.frozen? ⟨b, o, none⟩) :=
  ⟨fun b o h => hb.cell (p := ⟨b, o, none⟩) h, fun b o h => hb.frozen (p := ⟨b, o, none⟩) h⟩

theorem aboveI_len (sup : List Int) (n : Int) : (aboveI sup n).length ≤ sup.length := by
  unfold aboveI
  split
  · rcases Nat.lt_or_ge n.toNat sup.length with g | g
    · have := aboveOf_len sup n.toNat; omega
    · rw [aboveOf_none g]; simp
  · simp
end Go.Proofs.Ytcehkmnneimdeaa
