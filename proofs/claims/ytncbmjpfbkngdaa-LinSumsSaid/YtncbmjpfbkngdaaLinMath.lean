/-
  Sums and products that are not too great, and inequalities put together, as plain data. Plain definitions and lemmas; no conditions.
-/
import Derived.Test.YtncbmjpfbkngdaaAppK
import Derived.Test.YtncbmjpfbkngdaaCellsOf
import Derived.ChangeOld
import Derived.ProofKit
import Derived.OpenShut
namespace Go.Proofs.Ytncbmjpfbkngdaa
set_option maxRecDepth 100000
set_option linter.unusedVariables false
set_option linter.unusedSimpArgs false
open Go.ChangeShapes Go.WideShapes Go.ChangeAt Go.RowKit
set_option linter.unusedVariables false

/-- Is a number not too great? -/
def fineB (n : Int) : Bool := decide (n > -4611686018427387904) && decide (n < 4611686018427387904)
theorem fine_iff {n : Int} : fineB n = true ↔ -4611686018427387904 < n ∧ n < 4611686018427387904 := by
  unfold fineB
  rw [Bool.and_eq_true, decide_eq_true_eq, decide_eq_true_eq]
theorem fine_no {n : Int} (h : fineB n = false) : ¬ (-4611686018427387904 < n ∧ n < 4611686018427387904) := fun g => by rw [fine_iff.mpr g] at h; cases h
def timesR (a b : Int) : Option Int := if fineB a = true ∧ fineB b = true ∧ fineB (a * b) = true then some (a * b) else none
def plusR (a b : Int) : Option Int := if fineB a = true ∧ fineB b = true ∧ fineB (a + b) = true then some (a + b) else none
def dotFrom (s : Int) : List (Int × Int) → Option Int
  | [] => some s
  | p :: l => match timesR p.1 p.2 with
    | none => none
    | some x => match plusR s x with
      | none => none
      | some y => dotFrom y l
def dotR (a b : List Int) : Option Int := dotFrom 0 (a.zip b)
theorem dot_none {s : Int} {p : Int × Int} {l : List (Int × Int)} (h : timesR p.1 p.2 = none) : dotFrom s (p :: l) = none := by unfold dotFrom; rw [h]
theorem dot_over {s x : Int} {p : Int × Int} {l : List (Int × Int)} (h : timesR p.1 p.2 = some x) (g : plusR s x = none) : dotFrom s (p :: l) = none := by unfold dotFrom; rw [h]; dsimp only; rw [g]
theorem dot_some {s x y : Int} {p : Int × Int} {l : List (Int × Int)} (h : timesR p.1 p.2 = some x) (g : plusR s x = some y) : dotFrom s (p :: l) = dotFrom y l := by
  conv => lhs; unfold dotFrom
  rw [h]
  dsimp only
  rw [g]
/-- The bound of a product, by the quotient. -/
theorem quo_iff {x y : Int} (hx : 0 < x) (hy : 0 < y) : x > Int.tdiv 4611686018427387903 y ↔ ¬ x * y < 4611686018427387904 := by
  rw [Int.tdiv_eq_ediv_of_nonneg (by decide)]
  constructor
  · intro h g
    have h1 : x * y ≤ 4611686018427387903 := by omega
    have h2 : x ≤ 4611686018427387903 / y := (Int.le_ediv_iff_mul_le hy).mpr h1
    omega
  · intro h
    have h2 : ¬ x ≤ 4611686018427387903 / y := fun q => h (by
      have := (Int.le_ediv_iff_mul_le hy).mp q
      omega)
    omega
/-- An inequality: how many times each variable, and the most. -/
abbrev Inq := List Int × Int
def IneqAt : AtP Inq := fun w B p q => SlcAt IntAt 1 w B p q.1 ∧ w.cell? (off_ p 1) = some (.int .i64 q.2)
theorem IneqAt.keeps : Keeps IneqAt := fun _ _ _ _ p _ h hp hC hc => ⟨SlcAt.keeps IntAt.keeps 1 h.1 hp hC hc, (hc (off_ p 1) hp).trans h.2⟩
/-- All of one variable. -/
def colR (list : List Inq) (v : Nat) : List Int := list.map fun q => q.1[v]?.getD 0
def colsR (list : List Inq) (times : List Int) : Nat → Option (List Int)
  | 0 => some []
  | v + 1 => match colsR list times v with
    | none => none
    | some l => match dotR (colR list v) times with
      | none => none
      | some x => some (l ++ [x])
def sumOk (list : List Inq) (times : List Int) (vars : Int) : Bool := decide (list.length = times.length) && (decide (0 ≤ vars) && (decide (vars ≤ 64) && (List.range list.length).all fun i => decide (0 ≤ times[i]?.getD 0) && decide (((list[i]?.getD ([], 0)).1.length : Int) = vars)))
/-- Inequalities, each so many times, put together. -/
def sumR (list : List Inq) (times : List Int) (vars : Int) : Option Inq :=
  if sumOk list times vars = true then
    match dotR (list.map Prod.snd) times with
    | none => none
    | some x => match colsR list times vars.toNat with
      | none => none
      | some l => some (l, x)
  else none
end Go.Proofs.Ytncbmjpfbkngdaa
