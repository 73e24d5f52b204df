/-
  Words for things one behind the other in memory, each of some cells: numbers, types, instructions, and slices of such in a cell. Plain definitions and lemmas; no conditions.
-/
import Derived.Test.YtmjoollhkjgohaaWords
namespace Go.Proofs.Ytmjoollhkjgohaa
set_option maxRecDepth 100000
set_option linter.unusedVariables false
set_option linter.unusedSimpArgs false
open Go.RowKit

/-- An instruction, where it stands. -/
def InsAt (w : World) (p : Addr) (x y z : Int) : Prop := w.cell? p = some (.int .i64 x) ∧ w.cell? ⟨p.block, p.off + 1, none⟩ = some (.int .i64 y) ∧ w.cell? ⟨p.block, p.off + 2, none⟩ = some (.int .i64 z)
theorem InsAt.keep {w w' : World} {p : Addr} {x y z : Int} {B : Nat} (h : InsAt w p x y z) (hb : Below B w w') (hp : p.block < B) : InsAt w' p x y z :=
  ⟨(hb.cell hp).trans h.1, (hb.cell (p := ⟨p.block, p.off + 1, none⟩) hp).trans h.2.1, (hb.cell (p := ⟨p.block, p.off + 2, none⟩) hp).trans h.2.2⟩
/-- A slice of instructions, where they stand. -/
def InsRow (w : World) (B : Nat) (A : Option Addr) (L : List (Int × Int × Int)) : Prop :=
  ∀ i x, L[i]? = some x → ∃ ad, A = some ad ∧ ad.block < B ∧ InsAt w (ad.add (i * 3)) x.1 x.2.1 x.2.2

/-- What stands at an address, below a block number. -/
abbrev AtP (α : Type) := World → Nat → Addr → α → Prop
/-- It stays where the blocks below that number stay. -/
def Keeps {α : Type} (At : AtP α) : Prop := ∀ ⦃w w' : World⦄ ⦃B C : Nat⦄ ⦃p : Addr⦄ ⦃x : α⦄, At w B p x → p.block < B → B ≤ C → (∀ q : Addr, q.block < B → w'.cell? q = w.cell? q) → At w' C p x
/-- Things one behind the other, each of k cells. -/
def RowOf {α : Type} (At : AtP α) (k : Nat) (w : World) (B : Nat) (A : Option Addr) (l : List α) : Prop :=
  ∀ i x, l[i]? = some x → ∃ ad, A = some ad ∧ ad.block < B ∧ At w B (ad.add (i * k)) x

section
variable {α : Type} {At : AtP α} {k : Nat} {w w' : World} {B C : Nat} {A : Option Addr} {l : List α}
theorem RowOf.nil : RowOf At k w B A [] := fun _ _ h => by simp at h
theorem RowOf.keep' (hK : Keeps At) (h : RowOf At k w B A l) (hC : B ≤ C) (hc : ∀ q : Addr, q.block < B → w'.cell? q = w.cell? q) : RowOf At k w' C A l := fun i x hi => by
  obtain ⟨ad, e, hb, ha⟩ := h i x hi
  exact ⟨ad, e, Nat.lt_of_lt_of_le hb hC, hK ha (by rw [addr_add_block]; exact hb) hC hc⟩
theorem RowOf.below (hK : Keeps At) (h : RowOf At k w B A l) (hb : Below B w w') : RowOf At k w' B A l := h.keep' hK (Nat.le_refl _) fun _ hq => hb.cell hq
theorem RowOf.below_to (hK : Keeps At) (h : RowOf At k w B A l) (hb : Below C w w') (hC : B ≤ C) : RowOf At k w' B A l := h.keep' hK (Nat.le_refl _) fun _ hq => hb.cell (Nat.lt_of_lt_of_le hq hC)
theorem RowOf.more (hK : Keeps At) (h : RowOf At k w B A l) (hC : B ≤ C) : RowOf At k w C A l := h.keep' hK hC fun _ _ => rfl
theorem RowOf.at_ {i : Nat} (h : RowOf At k w B A l) (hi : i < l.length) : ∃ ad, A = some ad ∧ ad.block < B ∧ At w B (ad.add (i * k)) l[i] := h i _ (List.getElem?_eq_getElem hi)
theorem RowOf.take_ (h : RowOf At k w B A l) (n : Nat) : RowOf At k w B A (l.take n) := fun i x hi => by
  rw [List.getElem?_take] at hi
  split at hi
  · exact h i x hi
  · cases hi
end

/-- The address so many cells behind one, as the walk spells it. -/
abbrev off_ (p : Addr) (n : Nat) : Addr := ⟨p.block, p.off + n, none⟩

def IntAt : AtP Int := fun w _ p n => w.cell? p = some (.int .i64 n)
theorem IntAt.keeps : Keeps IntAt := fun _ _ _ _ p _ h hp _ hc => (hc _ hp).trans h
/-- A number of 32 bits. -/
def LongAt : AtP Int := fun w _ p n => w.cell? p = some (.int .i32 n) ∧ -2147483648 ≤ n ∧ n ≤ 2147483647
theorem LongAt.keeps : Keeps LongAt := fun _ _ _ _ p _ h hp _ hc => ⟨(hc _ hp).trans h.1, h.2⟩
def TyAt : AtP (Int × Int) := fun w _ p t => w.cell? p = some (.int .i64 t.1) ∧ w.cell? (off_ p 1) = some (.int .i64 t.2)
theorem TyAt.keeps : Keeps TyAt := fun _ _ _ _ p _ h hp _ hc => ⟨(hc _ hp).trans h.1, (hc (off_ p 1) hp).trans h.2⟩
def CodeAt : AtP (Int × Int × Int) := fun w _ p i => w.cell? p = some (.int .i64 i.1) ∧ w.cell? (off_ p 1) = some (.int .i64 i.2.1) ∧ w.cell? (off_ p 2) = some (.int .i64 i.2.2)
theorem CodeAt.keeps : Keeps CodeAt := fun _ _ _ _ p _ h hp _ hc => ⟨(hc _ hp).trans h.1, (hc (off_ p 1) hp).trans h.2.1, (hc (off_ p 2) hp).trans h.2.2⟩

/-- A slice of such things, as a value: its length, its room, what it holds. -/
structure SlcIs {α : Type} (At : AtP α) (k : Nat) (w : World) (B : Nat) (A : Option Addr) (cap : Nat) (l : List α) : Prop where
  le : l.length ≤ cap
  cap : cap ≤ 9223372036854775807
  row : RowOf At k w B A l
/-- A cell that holds such a slice. -/
def SlcAt {α : Type} (At : AtP α) (k : Nat) : AtP (List α) := fun w B p l => ∃ A cap, w.cell? p = some (.slice A l.length cap) ∧ SlcIs At k w B A cap l
theorem SlcIs.keep' {α : Type} {At : AtP α} (hK : Keeps At) {k : Nat} {w w' : World} {B C : Nat} {A : Option Addr} {cap : Nat} {l : List α} (h : SlcIs At k w B A cap l) (hC : B ≤ C) (hc : ∀ q : Addr, q.block < B → w'.cell? q = w.cell? q) : SlcIs At k w' C A cap l :=
  ⟨h.le, h.cap, h.row.keep' hK hC hc⟩
theorem SlcIs.below_to {α : Type} {At : AtP α} (hK : Keeps At) {k : Nat} {w w' : World} {B C : Nat} {A : Option Addr} {cap : Nat} {l : List α} (h : SlcIs At k w B A cap l) (hb : Below C w w') (hC : B ≤ C) : SlcIs At k w' B A cap l :=
  h.keep' hK (Nat.le_refl _) fun _ hq => hb.cell (Nat.lt_of_lt_of_le hq hC)
theorem SlcAt.keeps {α : Type} {At : AtP α} (hK : Keeps At) (k : Nat) : Keeps (SlcAt At k) := fun _ _ _ _ _ _ ⟨A, cap, h, hs⟩ hp hC hc => ⟨A, cap, (hc _ hp).trans h, hs.keep' hK hC hc⟩
end Go.Proofs.Ytmjoollhkjgohaa
