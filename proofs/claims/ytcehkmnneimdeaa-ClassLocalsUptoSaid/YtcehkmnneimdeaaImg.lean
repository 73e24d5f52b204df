/-
  Images as plain data, and where they stand in memory: classes, methods, images by value. Plain definitions and lemmas; no conditions.
-/
import Derived.Test.YtcehkmnneimdeaaRow
namespace Go.Proofs.Ytcehkmnneimdeaa
set_option maxRecDepth 100000
set_option linter.unusedVariables false
set_option linter.unusedSimpArgs false
open Go.RowKit

structure Cls where
  sup : Int
  fields : List (Int × Int)
  slots : List Int
deriving DecidableEq
structure Mth where
  args : List (Int × Int)
  locals : List (Int × Int)
  ret : Int × Int
  code : List (Int × Int × Int)
  depth : Int
  pot : Int
  phi : List Int
deriving DecidableEq
structure Img where
  classes : List Cls
  statics : List (Int × Int)
  ints : List Int
  methods : List Mth
  entries : List Int
  stack : Int
  heap : Int
deriving DecidableEq

/-- A class, where it stands. -/
structure ClsAt (w : World) (B : Nat) (p : Addr) (c : Cls) : Prop where
  sup : w.cell? p = some (.int .i64 c.sup)
  fields : SlcAt TyAt 2 w B (off_ p 1) c.fields
  slots : SlcAt IntAt 1 w B (off_ p 2) c.slots
  rng : -9223372036854775808 ≤ c.sup ∧ c.sup ≤ 9223372036854775807
theorem ClsAt.keeps : Keeps ClsAt := fun _ _ _ _ _ _ h hp hC hc => ⟨(hc _ hp).trans h.sup, SlcAt.keeps TyAt.keeps 2 h.fields hp hC hc, SlcAt.keeps IntAt.keeps 1 h.slots hp hC hc, h.rng⟩
/-- A method, where it stands. -/
structure MthAt (w : World) (B : Nat) (p : Addr) (x : Mth) : Prop where
  args : SlcAt TyAt 2 w B p x.args
  locals : SlcAt TyAt 2 w B (off_ p 1) x.locals
  ret0 : w.cell? (off_ p 2) = some (.int .i64 x.ret.1)
  ret1 : w.cell? (off_ p 3) = some (.int .i64 x.ret.2)
  code : SlcAt CodeAt 3 w B (off_ p 4) x.code
  depth : w.cell? (off_ p 5) = some (.int .i64 x.depth)
  pot : w.cell? (off_ p 6) = some (.int .i64 x.pot)
  phi : SlcAt IntAt 1 w B (off_ p 7) x.phi
theorem MthAt.keeps : Keeps MthAt := fun _ _ _ _ p _ h hp hC hc =>
  ⟨SlcAt.keeps TyAt.keeps 2 h.args hp hC hc, SlcAt.keeps TyAt.keeps 2 h.locals hp hC hc, (hc (off_ p 2) hp).trans h.ret0, (hc (off_ p 3) hp).trans h.ret1, SlcAt.keeps CodeAt.keeps 3 h.code hp hC hc,
    (hc (off_ p 5) hp).trans h.depth, (hc (off_ p 6) hp).trans h.pot, SlcAt.keeps IntAt.keeps 1 h.phi hp hC hc⟩

/-- An image's slices: where they begin, how much room they have. -/
structure Hnd where
  A0 : Option Addr
  A1 : Option Addr
  A2 : Option Addr
  A3 : Option Addr
  A4 : Option Addr
  c0 : Nat
  c1 : Nat
  c2 : Nat
  c3 : Nat
  c4 : Nat
/-- An image by value. -/
abbrev imgV (h : Hnd) (m : Img) : Value :=
  .agg #[.slice h.A0 m.classes.length h.c0, .slice h.A1 m.statics.length h.c1, .slice h.A2 m.ints.length h.c2, .slice h.A3 m.methods.length h.c3, .slice h.A4 m.entries.length h.c4, .int .i64 m.stack, .int .i64 m.heap]
/-- It stands for an image. -/
structure ImgIn (w : World) (B : Nat) (h : Hnd) (m : Img) : Prop where
  classes : SlcIs ClsAt 3 w B h.A0 h.c0 m.classes
  statics : SlcIs TyAt 2 w B h.A1 h.c1 m.statics
  ints : SlcIs LongAt 1 w B h.A2 h.c2 m.ints
  methods : SlcIs MthAt 8 w B h.A3 h.c3 m.methods
  entries : SlcIs IntAt 1 w B h.A4 h.c4 m.entries
theorem ImgIn.keep' {w w' : World} {B C : Nat} {h : Hnd} {m : Img} (H : ImgIn w B h m) (hC : B ≤ C) (hc : ∀ q : Addr, q.block < B → w'.cell? q = w.cell? q) : ImgIn w' C h m :=
  ⟨H.classes.keep' ClsAt.keeps hC hc, H.statics.keep' TyAt.keeps hC hc, H.ints.keep' LongAt.keeps hC hc, H.methods.keep' MthAt.keeps hC hc, H.entries.keep' IntAt.keeps hC hc⟩
theorem ImgIn.below_to {w w' : World} {B C : Nat} {h : Hnd} {m : Img} (H : ImgIn w B h m) (hb : Below C w w') (hC : B ≤ C) : ImgIn w' B h m := H.keep' (Nat.le_refl _) fun _ hq => hb.cell (Nat.lt_of_lt_of_le hq hC)
theorem ImgIn.more {w : World} {B C : Nat} {h : Hnd} {m : Img} (H : ImgIn w B h m) (hC : B ≤ C) : ImgIn w C h m := H.keep' hC fun _ _ => rfl
end Go.Proofs.Ytcehkmnneimdeaa
