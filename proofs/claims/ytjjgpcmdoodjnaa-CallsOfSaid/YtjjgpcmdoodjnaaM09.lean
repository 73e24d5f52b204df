/-
  Methods by value, and where they stand in memory. Plain definitions and lemmas; no conditions.
-/
import Derived.Test.YtjjgpcmdoodjnaaM05
namespace Go.Proofs.Ytjjgpcmdoodjnaa
set_option maxRecDepth 100000
set_option linter.unusedVariables false
set_option linter.unusedSimpArgs false
open Go.ChangeShapes Go.WideShapes Go.ChangeAt Go.RowKit
set_option linter.unusedVariables false

/-- A method's slices: where they begin, how much room they have. -/
structure MHnd where
  A0 : Option Addr
  A1 : Option Addr
  A4 : Option Addr
  A7 : Option Addr
  k0 : Nat
  k1 : Nat
  k4 : Nat
  k7 : Nat
/-- A method by value. -/
abbrev mthV (h : MHnd) (x : Mth) : Value :=
  .agg #[.slice h.A0 x.args.length h.k0, .slice h.A1 x.locals.length h.k1, .int .i64 x.ret.1, .int .i64 x.ret.2, .slice h.A4 x.code.length h.k4, .int .i64 x.depth, .int .i64 x.pot, .slice h.A7 x.phi.length h.k7]
abbrev mthL (h : MHnd) (x : Mth) : List Value :=
  [.slice h.A0 x.args.length h.k0, .slice h.A1 x.locals.length h.k1, .int .i64 x.ret.1, .int .i64 x.ret.2, .slice h.A4 x.code.length h.k4, .int .i64 x.depth, .int .i64 x.pot, .slice h.A7 x.phi.length h.k7]
/-- It stands for a method. -/
structure MthIn (w : World) (B : Nat) (h : MHnd) (x : Mth) : Prop where
  args : SlcIs TyAt 2 w B h.A0 h.k0 x.args
  locals : SlcIs TyAt 2 w B h.A1 h.k1 x.locals
  code : SlcIs CodeAt 3 w B h.A4 h.k4 x.code
  phi : SlcIs IntAt 1 w B h.A7 h.k7 x.phi
theorem MthIn.now {w w' : World} {h : MHnd} {x : Mth} (H : MthIn w w.heap.size h x) (hb : Below w.heap.size w w') : MthIn w' w'.heap.size h x :=
  ⟨(H.args.below_to TyAt.keeps hb (Nat.le_refl _)).keep' TyAt.keeps hb.size (fun _ _ => rfl), (H.locals.below_to TyAt.keeps hb (Nat.le_refl _)).keep' TyAt.keeps hb.size (fun _ _ => rfl),
    (H.code.below_to CodeAt.keeps hb (Nat.le_refl _)).keep' CodeAt.keeps hb.size (fun _ _ => rfl), (H.phi.below_to IntAt.keeps hb (Nat.le_refl _)).keep' IntAt.keeps hb.size (fun _ _ => rfl)⟩
end Go.Proofs.Ytjjgpcmdoodjnaa
