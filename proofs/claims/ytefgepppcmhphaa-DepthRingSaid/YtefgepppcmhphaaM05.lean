/-
  What the document's own answers for instructions come to: Args (how many numbers), Instr (may it be?).
  Instructions as plain data: how many numbers, whether one may be. Plain facts; no conditions.
-/
import Derived.Test.YtefgepppcmhphaaM01
namespace Go.Proofs.Ytefgepppcmhphaa
set_option maxRecDepth 100000
set_option linter.unusedVariables false
set_option linter.unusedSimpArgs false
open Go.ChangeShapes Go.WideShapes Go.ChangeAt Go.RowKit
set_option linter.unusedVariables false

/-- The instructions with one number. -/
def ones : List Int := [1, 3, 4, 18, 19, 22, 23, 29, 30, 31, 34]
/-- How many numbers an instruction has. -/
def argsI (op : Int) : Int := if op < 1 ∨ 34 < op then -1 else if op ∈ ones then 1 else if op = 27 ∨ op = 28 ∨ op = 32 then 2 else 0

theorem ones_lie (w : World) (T : TypeId) : Lies (w.alloc (.cells (ones.map (Value.int .i64)).toArray T)) (w.heap.size + 1) (some ⟨w.heap.size, 0, none⟩) (ones.map (Value.int .i64)) := by
  intro j u hj
  refine ⟨_, rfl, by simp, ?_⟩
  have e : (Addr.add ⟨w.heap.size, 0, none⟩ j) = ⟨w.heap.size, j, none⟩ := by
    unfold Addr.add; split
    · rename_i h0; subst h0; rfl
    · simp
  rw [e, World.cell?_alloc_at _ _ _ _ rfl]
  rw [List.getElem?_toArray]
  exact hj

set_option maxHeartbeats 1600000 in
theorem rargs_any (op : Int) (w : World) : Calls Try.prog 62 #[.int .i64 op] w fun e w' => e = .returned (.int .i64 (argsI op)) ∧ Below w.heap.size w w' := by
  by_cases h : op < 1 ∨ 34 < op
  · have E := Lib.hid (show argsI op = -1 by unfold argsI; rw [if_pos h])
    rcases h with h | h
    · go_enter Try.func62, Try.ntmps62
      go_wp2
      go_ret
      exact ⟨by rw [E.out]; rfl, (Below.refl _ _).alloc (Nat.le_refl _) _⟩
    · have h' : ¬ op < 1 := by omega
      go_enter Try.func62, Try.ntmps62
      go_wp2
      go_ret
      exact ⟨by rw [E.out]; rfl, (Below.refl _ _).alloc (Nat.le_refl _) _⟩
  · have h0 : ¬ op < 1 := by omega
    have h1 : ¬ 34 < op := by omega
    by_cases h2 : op ∈ ones
    · have E := Lib.hid (show argsI op = 1 by unfold argsI; rw [if_neg h, if_pos h2])
      have HI := Lib.hid (show inB ones op = true from decide_eq_true h2)
      clear h h2
      go_enter Try.func62, Try.ntmps62
      go_wp2_with (go_at_call 25; refine (rin_any ones op _ 11 _ _ (by decide) (ones_lie w 3)).mono ?_; rintro e w' ⟨he, rfl⟩; rw [HI.out] at he; subst he)
      go_ret
      exact ⟨by rw [E.out]; rfl, (Below.refl _ _).alloc (Nat.le_refl _) _⟩
    · have HI := Lib.hid (show inB ones op = false from decide_eq_false h2)
      by_cases h3 : op = 27 ∨ op = 28 ∨ op = 32
      · have E := Lib.hid (show argsI op = 2 by unfold argsI; rw [if_neg h, if_neg h2, if_pos h3])
        clear h h2
        rcases h3 with rfl | rfl | rfl
        all_goals
          go_enter Try.func62, Try.ntmps62
          go_wp2_with (go_at_call 25; refine (rin_any ones _ _ 11 _ _ (by decide) (ones_lie w 3)).mono ?_; rintro e w' ⟨he, rfl⟩; rw [HI.out] at he; subst he)
          go_ret
          exact ⟨by rw [E.out]; rfl, (Below.refl _ _).alloc (Nat.le_refl _) _⟩
      · have E := Lib.hid (show argsI op = 0 by unfold argsI; rw [if_neg h, if_neg h2, if_neg h3])
        have d1 : (op == 27) = false := beq_eq_false_iff_ne.mpr (fun g => h3 (.inl g))
        have d2 : (op == 28) = false := beq_eq_false_iff_ne.mpr (fun g => h3 (.inr (.inl g)))
        have d3 : (op == 32) = false := beq_eq_false_iff_ne.mpr (fun g => h3 (.inr (.inr g)))
        clear h h2
        go_enter Try.func62, Try.ntmps62
        go_wp2_with (go_at_call 25; refine (rin_any ones op _ 11 _ _ (by decide) (ones_lie w 3)).mono ?_; rintro e w' ⟨he, rfl⟩; rw [HI.out] at he; subst he)
        go_ret
        exact ⟨by rw [E.out]; rfl, (Below.refl _ _).alloc (Nat.le_refl _) _⟩
end Go.Proofs.Ytefgepppcmhphaa
namespace Go.Proofs.Ytefgepppcmhphaa
set_option maxRecDepth 100000
set_option linter.unusedVariables false
set_option linter.unusedSimpArgs false
open Go.ChangeShapes Go.WideShapes Go.ChangeAt Go.RowKit

/-- The cells of a struct of three just made, behind whatever leaves them alone. -/
theorem ins_cells {w w1 : World} {x y z : Value} {T : TypeId} (hb : Below (w.alloc (.cells #[x, y, z] T)).heap.size (w.alloc (.cells #[x, y, z] T)) w1) :
    w1.cell? ⟨w.heap.size, 0, none⟩ = some x ∧ w1.cell? ⟨w.heap.size, 1, none⟩ = some y ∧ w1.cell? ⟨w.heap.size, 2, none⟩ = some z := by
  have hs : w.heap.size < (w.alloc (.cells #[x, y, z] T)).heap.size := by simp
  refine ⟨(hb.cell hs).trans ?_, (hb.cell hs).trans ?_, (hb.cell hs).trans ?_⟩ <;> (rw [World.cell?_alloc_at _ _ _ _ rfl]; rfl)

/-- An instruction as a value. -/
abbrev insV (op a b : Int) : Value := .agg #[.int .i64 op, .int .i64 a, .int .i64 b]
/-- May an instruction be? -/
def instrB (op a b : Int) : Bool := decide (0 ≤ argsI op ∧ (1 ≤ argsI op ∨ a = 0) ∧ (2 ≤ argsI op ∨ b = 0) ∧ 0 ≤ a ∧ a ≤ 255 ∧ 0 ≤ b ∧ b ≤ 255)
theorem args_range (op : Int) : -1 ≤ argsI op ∧ argsI op ≤ 2 := by
  unfold argsI
  split
  · omega
  · split
    · omega
    · split <;> omega
theorem args_op (op : Int) : 0 ≤ argsI op ↔ 1 ≤ op ∧ op ≤ 34 := by
  unfold argsI
  split
  · omega
  · split
    · omega
    · split <;> omega
theorem instr_iff {op a b : Int} : instrB op a b = true ↔ 0 ≤ argsI op ∧ (1 ≤ argsI op ∨ a = 0) ∧ (2 ≤ argsI op ∨ b = 0) ∧ 0 ≤ a ∧ a ≤ 255 ∧ 0 ≤ b ∧ b ≤ 255 := by unfold instrB; simp
theorem instr_bounds {op a b : Int} (h : instrB op a b = true) : 1 ≤ op ∧ op ≤ 34 ∧ 0 ≤ a ∧ a ≤ 255 ∧ 0 ≤ b ∧ b ≤ 255 := by
  have h := instr_iff.mp h
  have := (args_op op).mp h.1
  omega

end Go.Proofs.Ytefgepppcmhphaa
