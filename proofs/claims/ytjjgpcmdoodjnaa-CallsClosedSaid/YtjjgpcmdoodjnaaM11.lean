/-
  Instructions as plain data: how many numbers, whether one may be. Plain facts; no conditions.
-/
import Derived.Test.YtjjgpcmdoodjnaaM10
namespace Go.Proofs.Ytjjgpcmdoodjnaa
set_option maxRecDepth 100000
set_option linter.unusedVariables false
set_option linter.unusedSimpArgs false
open Go.ChangeShapes Go.WideShapes Go.ChangeAt Go.RowKit

/-- The cells of a struct of three just made, behind whatever leaves them alone. -/
theorem ins_cells {w w1 : World} {x y z : Value} {T : TypeId} (hb : Below (w.alloc (.cells #[x, y, z] T)).heap.size (w.alloc (.cells #[x, y, z] T)) w1) :
    w1.cell? ⟨w.heap.size, 0, none⟩ = some x ∧ w1.cell? ⟨w.heap.size, 1, none⟩ = some y ∧ w1.cell? ⟨w.heap.size, 2, none⟩ = some z := by
  have hs : w.heap.size < (w.alloc (.cells #[x, y, z] T)).heap.size := by simp
  refine ⟨(hb.cell hs).trans ?_, (hb.cell hs).trans ?_, (hb.cell hs).trans ?_⟩ <;> (rw [World.cell?_alloc_at _ _ _ _ rfl]; rfl)

/-- An instruction as a value. -/
abbrev insV (op a b : Int) : Value := .agg #[.int .i64 op, .int .i64 a, .int .i64 b]
/-- May an instruction be? -/
def instrB (op a b : Int) : Bool := decide (0 ≤ argsI op ∧ (1 ≤ argsI op ∨ a = 0) ∧ (2 ≤ argsI op ∨ b = 0) ∧ 0 ≤ a ∧ a ≤ 255 ∧ 0 ≤ b ∧ b ≤ 255)
theorem args_range (op : Int) : -1 ≤ argsI op ∧ argsI op ≤ 2 := by
  unfold argsI
  split
  · omega
  · split
    · omega
    · split <;> omega
theorem args_op (op : Int) : 0 ≤ argsI op ↔ 1 ≤ op ∧ op ≤ 34 := by
  unfold argsI
  split
  · omega
  · split
    · omega
    · split <;> omega
theorem instr_iff {op a b : Int} : instrB op a b = true ↔ 0 ≤ argsI op ∧ (1 ≤ argsI op ∨ a = 0) ∧ (2 ≤ argsI op ∨ b = 0) ∧ 0 ≤ a ∧ a ≤ 255 ∧ 0 ≤ b ∧ b ≤ 255 := by unfold instrB; simp
theorem instr_bounds {op a b : Int} (h : instrB op a b = true) : 1 ≤ op ∧ op ≤ 34 ∧ 0 ≤ a ∧ a ≤ 255 ∧ 0 ≤ b ∧ b ≤ 255 := by
  have h := instr_iff.mp h
  have := (args_op op).mp h.1
  omega

end Go.Proofs.Ytjjgpcmdoodjnaa
