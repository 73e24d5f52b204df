/-
  The block of a row of the call's own. A plain lemma; no conditions.
-/
import Derived.Test.YtmjoollhkjgohaaWholeOf
import Derived.Test.YtmjoollhkjgohaaAppK
namespace Go.Proofs.Ytmjoollhkjgohaa
set_option maxRecDepth 100000
set_option linter.unusedVariables false
set_option linter.unusedSimpArgs false
open Go.ChangeShapes Go.WideShapes Go.ChangeAt Go.RowKit

theorem own_block {w : World} {B n k : Nat} {v : Value} {xs : List Value} {T : TypeId} (h : w.ownsRow B T k v n xs) (hn : 0 < n) : ∃ g c rest, v = .slice (some ⟨g, 0, none⟩) n c ∧ B ≤ g ∧ Whole w g (xs ++ rest) T := by
  rcases h.2 with ⟨_, h2⟩ | ⟨g', cap, cur, h1, hb, hh, _, _, _, hx⟩
  · omega
  · refine ⟨g', cap, cur.toList.drop (n * k), h1, hb, ?_⟩
    unfold Whole
    rw [← hx, List.take_append_drop]
    exact hh
end Go.Proofs.Ytmjoollhkjgohaa
