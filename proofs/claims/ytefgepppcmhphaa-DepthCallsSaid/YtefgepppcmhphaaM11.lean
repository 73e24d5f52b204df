/-
  What the document's own answer for whether an instruction may be (Instr) comes to.
-/
import Derived.Test.YtefgepppcmhphaaM05
namespace Go.Proofs.Ytefgepppcmhphaa
set_option maxRecDepth 100000
set_option linter.unusedVariables false
set_option linter.unusedSimpArgs false
open Go.ChangeShapes Go.WideShapes Go.ChangeAt Go.RowKit
set_option linter.unusedVariables false

set_option maxHeartbeats 1600000 in
theorem rinstr_any (op a b : Int) (w : World) : Calls Try.prog 47 #[insV op a b] w fun e w' => e = .returned (.bool (instrB op a b)) ∧ Below w.heap.size w w' := by
  obtain ⟨n, hn⟩ : ∃ n, argsI op = n := ⟨_, rfl⟩
  have hr := args_range op
  rw [hn] at hr
  have E := Lib.hid (show instrB op a b = decide (0 ≤ n ∧ (1 ≤ n ∨ a = 0) ∧ (2 ≤ n ∨ b = 0) ∧ 0 ≤ a ∧ a ≤ 255 ∧ 0 ≤ b ∧ b ≤ 255) by unfold instrB; rw [hn])
  generalize instrB op a b = r at E ⊢
  have HN := Lib.hid hn
  clear hn
  have HBo := Lib.hid ((Below.refl w.heap.size w).alloc (Nat.le_refl _) (.cells #[.int .i64 op, .int .i64 a, .int .i64 b] 51))
  go_enter Try.func47, Try.ntmps47
  go_wp2_with (go_at_call 62; (with_reducible refine (rargs_any _ _).mono ?_); rintro e w1 ⟨rfl, hb⟩; rw [HN.out]; obtain ⟨c0, c1, c2⟩ := ins_cells hb)
  all_goals
    go_ret
    refine ⟨ret_bool ?_, HBo.out.trans (hb.mono (by simp))⟩
    rw [E.out]
    rw [Bool.eq_iff_iff]
    simp
    try simp only [bne_iff_ne, bne_eq_false_iff_eq, ne_eq] at *
    omega
end Go.Proofs.Ytefgepppcmhphaa
