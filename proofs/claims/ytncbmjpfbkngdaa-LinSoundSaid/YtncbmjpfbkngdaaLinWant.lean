/-
  What lin.Holds, lin.Sum, lin.Implies, lin.Proves are to come to; inequalities by value.
-/
import Derived.Test.YtncbmjpfbkngdaaRefLin
namespace Go.Proofs.Ytncbmjpfbkngdaa
set_option maxRecDepth 100000
set_option linter.unusedVariables false
set_option linter.unusedSimpArgs false
open Go.ChangeShapes Go.WideShapes Go.ChangeAt Go.RowKit
set_option linter.unusedVariables false

/-- An inequality by value. -/
abbrev inqV (q : Inq) (A : Option Addr) (c : Nat) : Value := .agg #[.slice A q.1.length c, .int .i64 q.2]
/-- Whether an inequality holds: yes, no, or an error. -/
def holdsR (q : Inq) (at_ : List Int) : Option Bool := if q.1.length = at_.length then (dotR q.1 at_).map (fun n => decide (n ≤ q.2)) else none
def ErrOut (r : Option Bool) (w : World) (e : Ending) (w' : World) : Prop := e = .returned (.tuple #[.bool (r.getD false), .int .i64 (if r.isSome then 0 else 14)]) ∧ Below w.heap.size w w'
/-- Inequalities put together, or an error. -/
def SumOut (er : Int) (r : Option Inq) (w : World) (e : Ending) (w' : World) : Prop := ∃ A c k, e = .returned (.tuple #[.agg #[.slice A (r.getD ([], 0)).1.length c, .int .i64 (r.getD ([], 0)).2], .int .i64 k]) ∧ Below w.heap.size w w' ∧ SlcIs IntAt 1 w' w'.heap.size A c (r.getD ([], 0)).1 ∧ (k = if r.isSome then 0 else er) ∧ ∀ ad, A = some ad → w.heap.size ≤ ad.block
def impliesB (a b : Inq) : Bool := decide (a.1 = b.1) && decide (a.2 ≤ b.2)
def provesB (list : List Inq) (times : List Int) (want : Inq) : Bool := match sumR list times want.1.length with
  | none => false
  | some q => impliesB q want
end Go.Proofs.Ytncbmjpfbkngdaa
