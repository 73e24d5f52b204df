/-
  Words for numbers as bytes: a number with its sign as one without; the number that bytes begin with. Plain definitions.
-/
import Derived.Test.YtikljohgdgibnaaBytes
import Derived.Test.YtikljohgdgibnaaWords
namespace Go.Proofs.Ytikljohgdgibnaa
set_option maxRecDepth 100000
open Go.ChangeShapes Go.WideShapes Go.ChangeAt Go.RowKit

/-- A number with its sign as one without. -/
def zig (n : Int) : Int := if n < 0 then -2 * n - 1 else 2 * n

/-- The number that bytes begin with, from place k on, and how many bytes it takes. -/
def nextGo (fuel k n u : Nat) : List Int → Nat × Nat
  | [] => (0, 0)
  | b :: r => match fuel with
    | 0 => (0, 0)
    | f + 1 => if b < 128 then (if 0 < k ∧ b = 0 then (0, 0) else (n + u * (b.toNat % 128), k + 1)) else nextGo f (k + 1) (n + u * (b.toNat % 128)) (u * 128) r
def nextOf (l : List Int) : Nat × Nat := nextGo 5 0 0 1 l

def IsPair (p : Nat × Nat) (w : World) (e : Ending) (w' : World) : Prop := e = .returned (.tuple #[.int .i64 p.1, .int .i64 p.2]) ∧ w = w'

end Go.Proofs.Ytikljohgdgibnaa
