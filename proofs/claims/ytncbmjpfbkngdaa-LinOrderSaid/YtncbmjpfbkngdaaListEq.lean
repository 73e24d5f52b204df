/-
  When two lists are one, place by place. Plain lemmas; no conditions.
-/
import Derived.Test.YtncbmjpfbkngdaaRow
import Derived.Test.YtncbmjpfbkngdaaRows
import Derived.ProofKit
import Derived.OpenShut
import Derived.Outline
import Derived.Deep.QuietTactic
import Derived.BigQuiet
namespace Go.Proofs.Ytncbmjpfbkngdaa
set_option maxRecDepth 100000
set_option linter.unusedVariables false
set_option linter.unusedSimpArgs false
open Go.ChangeShapes Go.WideShapes Go.ChangeAt Go.RowKit
set_option linter.unusedVariables false

section
variable {α : Type}
theorem list_eq_ends {l m : List α} (h : l.length = m.length) (k : Nat) (hk : l.take k = m.take k) (hl : l.length ≤ k) : l = m := by
  rw [List.take_of_length_le hl, List.take_of_length_le (by omega)] at hk
  exact hk
theorem list_ne_at {l m : List α} {k : Nat} (hl : k < l.length) (hm : k < m.length) (h : ¬ l[k] = m[k]) : ¬ l = m := fun e => by subst e; exact h rfl
theorem take_both {l m : List α} {k : Nat} (hl : k < l.length) (hm : k < m.length) (hk : l.take k = m.take k) (h : l[k] = m[k]) : l.take (k + 1) = m.take (k + 1) := by
  rw [List.take_add_one, List.take_add_one, List.getElem?_eq_getElem hl, List.getElem?_eq_getElem hm, hk, h]
end
end Go.Proofs.Ytncbmjpfbkngdaa
