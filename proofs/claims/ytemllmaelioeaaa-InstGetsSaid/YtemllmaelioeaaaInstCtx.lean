/-
  The contracts on instructions, as a walk carries them: from a first world on, over whatever has left that one's blocks alone.
-/
import Derived.Test.YtemllmaelioeaaaInst
import Derived.Test.YtemllmaelioeaaaRefInstr
namespace Go.Proofs.Ytemllmaelioeaaa
open Go.ChangeShapes Go.WideShapes Go.ChangeAt Go.RowKit
set_option linter.unusedVariables false

/-- Three cells of a block. -/
def Ins (w : World) (N : Nat) (x y z : Value) : Prop := w.cell? ⟨N, 0, none⟩ = some x ∧ w.cell? ⟨N, 1, none⟩ = some y ∧ w.cell? ⟨N, 2, none⟩ = some z
theorem Ins.keep {w w' : World} {N B : Nat} {x y z : Value} (h : Ins w N x y z) (hb : Below B w w') (hN : N < B) : Ins w' N x y z :=
  ⟨(hb.cell (p := ⟨N, 0, none⟩) hN).trans h.1, (hb.cell (p := ⟨N, 1, none⟩) hN).trans h.2.1, (hb.cell (p := ⟨N, 2, none⟩) hN).trans h.2.2⟩
theorem ins_new (w : World) (x y z : Value) (T : TypeId) : Ins (w.alloc (.cells #[x, y, z] T)) w.heap.size x y z := ins_cells (Below.refl _ _)

section
variable {op a b n : Int} {w0 w : World}
theorem iargs_ctx (HC : Hid (Below w0.heap.size w0 w)) : Calls Try.prog 8 #[.int .i64 op] w fun e w' => e = .returned (.int .i64 (argsI op)) ∧ Below w0.heap.size w0 w' :=
  calls_ctx HC.out (iargs_any op w)
theorem rargs_ctx (HC : Hid (Below w0.heap.size w0 w)) : Calls Try.prog 9 #[.int .i64 op] w fun e w' => e = .returned (.int .i64 (argsI op)) ∧ Below w0.heap.size w0 w' :=
  calls_ctx HC.out (rargs_any op w)
theorem igood_ctx (HC : Hid (Below w0.heap.size w0 w)) : Calls Try.prog 10 #[insV op a b] w fun e w' => e = .returned (.bool (instrB op a b)) ∧ Below w0.heap.size w0 w' :=
  calls_ctx HC.out (igood_any op a b w)
theorem rinstr_ctx (HC : Hid (Below w0.heap.size w0 w)) : Calls Try.prog 11 #[insV op a b] w fun e w' => e = .returned (.bool (instrB op a b)) ∧ Below w0.heap.size w0 w' :=
  calls_ctx HC.out (rinstr_any op a b w)
theorem iargs_is (HC : Hid (Below w0.heap.size w0 w)) (HN : Hid (argsI op = n)) : Calls Try.prog 8 #[.int .i64 op] w fun e w' => e = .returned (.int .i64 n) ∧ Below w0.heap.size w0 w' := by
  have h := iargs_ctx (op := op) HC
  rw [HN.out] at h
  exact h
theorem rargs_is (HC : Hid (Below w0.heap.size w0 w)) (HN : Hid (argsI op = n)) : Calls Try.prog 9 #[.int .i64 op] w fun e w' => e = .returned (.int .i64 n) ∧ Below w0.heap.size w0 w' := by
  have h := rargs_ctx (op := op) HC
  rw [HN.out] at h
  exact h
theorem igood_is {r : Bool} (HC : Hid (Below w0.heap.size w0 w)) (HN : Hid (instrB op a b = r)) : Calls Try.prog 10 #[insV op a b] w fun e w' => e = .returned (.bool r) ∧ Below w0.heap.size w0 w' := by
  have h := igood_ctx (op := op) (a := a) (b := b) HC
  rw [HN.out] at h
  exact h
theorem rinstr_is {r : Bool} (HC : Hid (Below w0.heap.size w0 w)) (HN : Hid (instrB op a b = r)) : Calls Try.prog 11 #[insV op a b] w fun e w' => e = .returned (.bool r) ∧ Below w0.heap.size w0 w' := by
  have h := rinstr_ctx (op := op) (a := a) (b := b) HC
  rw [HN.out] at h
  exact h
/-- A new reader, made behind a first world. -/
def CtxNew (w0 : World) (l : List Int) (w : World) (e : Ending) (w' : World) : Prop :=
  ∃ N, e = .returned (.pointer (some ⟨N, 0, none⟩)) ∧ w0.heap.size ≤ N ∧ Rd w' N l false ∧ Below w0.heap.size w0 w'
theorem bnew_ctx {l : List Int} {A : Option Addr} {cap m : Nat} (HC : Hid (Below w0.heap.size w0 w)) (HL : Hid (Lies w0 w0.heap.size A (l.map (Value.int .u8)))) (HM : Hid (l.length = m)) (H2 : Hid (m ≤ 1000000)) (HR : Hid (∀ b ∈ l, 0 ≤ b ∧ b ≤ 255)) (HA : Hid (A = none → cap = 0)) :
    Calls Try.prog 14 #[.slice A m cap] w (CtxNew w0 l w) := by
  obtain rfl := HM.out
  refine (bnew_any l A cap w0.heap.size w (by have := H2.out; omega) HR.out HA.out HC.out.size (HL.out.below HC.out)).mono ?_
  rintro e w' ⟨N, he, hN, hr, hb⟩
  exact ⟨N, he, Nat.le_trans HC.out.size hN, hr, HC.out.trans (hb.mono HC.out.size)⟩
/-- What a reader made behind a first world answers. -/
def CtxGet (w0 : World) (N : Nat) (v : Value) (rest : List Int) (e : Ending) (w' : World) : Prop := e = .returned v ∧ Rd w' N rest false ∧ Below w0.heap.size w0 w'
theorem iget_ctx {N : Nat} {rest r : List Int} (HC : Hid (Below w0.heap.size w0 w)) (HN : Hid (w0.heap.size ≤ N)) (HL : Hid (rest.length ≤ 1000000)) (HG : Hid (∀ b ∈ rest, 0 ≤ b ∧ b ≤ 255)) (HR : Hid (Rd w N rest false)) (G : Hid (getI rest false = ((op, a, b), r, false))) :
    Calls Try.prog 15 #[.pointer (some ⟨N, 0, none⟩)] w (CtxGet w0 N (insV op a b) r) := by
  refine (iget_any N w0.heap.size rest false w (by have := HL.out; omega) HG.out HN.out HR.out).mono ?_
  rintro e w' ⟨op', a', b', he, hr, hb, hx⟩
  rw [G.out] at hr hx
  obtain ⟨rfl, rfl, rfl⟩ : op = op' ∧ a = a' ∧ b = b' := by simpa using hx rfl
  exact ⟨he, hr, HC.out.trans hb⟩
/-- Whether nothing is left; the reader stays as it is. -/
theorem bend_ctx {N : Nat} {rest : List Int} {bad r : Bool} (HC : Hid (Below w0.heap.size w0 w)) (HR : Hid (Rd w N rest bad)) (E : Hid ((!bad && rest.isEmpty) = r)) :
    Calls Try.prog 16 #[.pointer (some ⟨N, 0, none⟩)] w fun e w' => e = .returned (.bool r) ∧ Below w0.heap.size w0 w' :=
  calls_ctx HC.out (end_out HR E)
end
end Go.Proofs.Ytemllmaelioeaaa
