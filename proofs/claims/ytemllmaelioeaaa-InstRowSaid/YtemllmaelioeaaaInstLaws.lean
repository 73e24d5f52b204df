/-
  The statement on which instructions there are (InstKinds), walked: it answers true at any instruction.
-/
import Derived.Test.YtemllmaelioeaaaInstAwake
namespace Go.Proofs.Ytemllmaelioeaaa
open Go.ChangeShapes Go.WideShapes Go.ChangeAt Go.RowKit
set_option linter.unusedVariables false

theorem iawake_ctx {w0 w : World} (HC : Hid (Below w0.heap.size w0 w)) : Calls Try.prog 7 #[] w fun e w' => e = .returned (.bool true) ∧ Below w0.heap.size w0 w' :=
  calls_ctx HC.out (iawake_any w)

set_option maxRecDepth 100000 in
set_option maxHeartbeats 6400000 in
theorem instKinds_walk (op a b : Int) (w : World) :
    Calls Try.prog 3 #[insV op a b] w fun e w' => e = .returned (.bool true) ∧ Below w.heap.size w w' := by
  have HX := Lib.hid (ins_new w (.int .i64 op) (.int .i64 a) (.int .i64 b) 23)
  have HW := Lib.hid ((Below.refl w.heap.size w).alloc (Nat.le_refl _) (.cells #[.int .i64 op, .int .i64 a, .int .i64 b] 23))
  have HZ : Hid (w.heap.size < (w.alloc (.cells #[.int .i64 op, .int .i64 a, .int .i64 b] 23)).heap.size) := Lib.hid (by simp)
  have HC : Hid (Below (w.alloc (.cells #[.int .i64 op, .int .i64 a, .int .i64 b] 23)).heap.size (w.alloc (.cells #[.int .i64 op, .int .i64 a, .int .i64 b] 23)) (w.alloc (.cells #[.int .i64 op, .int .i64 a, .int .i64 b] 23)).drew) := Lib.hid (Below.refl _ _).drew
  obtain ⟨n, hn⟩ : ∃ n, argsI op = n := ⟨_, rfl⟩
  obtain ⟨r, hr⟩ : ∃ r, instrB op a b = r := ⟨_, rfl⟩
  have HN := Lib.hid hn
  have HR := Lib.hid hr
  clear hn hr
  go_enter Try.func3, Try.ntmps3
  go_wp2_with fail
  go_region_held3 (fun w' => w'.cell? ⟨w.heap.size, 0, none⟩ = some (.int .i64 op) ∧ w'.cell? ⟨w.heap.size, 1, none⟩ = some (.int .i64 a) ∧ w'.cell? ⟨w.heap.size, 2, none⟩ = some (.int .i64 b))
    (first | go_keep | exact ⟨q0, q1, q2⟩)
    (first
    | (go_at_call 7; (with_reducible refine (iawake_ctx (by assumption)).mono ?_); rintro e w' ⟨rfl, hc⟩; obtain ⟨q0, q1, q2⟩ := HX.out.keep hc HZ.out; have HC' := Lib.hid hc; clear hc)
    | (go_at_call 8; (with_reducible refine (iargs_is (by assumption) HN).mono ?_); rintro e w' ⟨rfl, hc⟩; obtain ⟨q0, q1, q2⟩ := HX.out.keep hc HZ.out; have HC' := Lib.hid hc; clear hc)
    | (go_at_call 9; (with_reducible refine (rargs_is (by assumption) HN).mono ?_); rintro e w' ⟨rfl, hc⟩; obtain ⟨q0, q1, q2⟩ := HX.out.keep hc HZ.out; have HC' := Lib.hid hc; clear hc)
    | (go_at_call 10; (with_reducible refine (igood_is (by assumption) HR).mono ?_); rintro e w' ⟨rfl, hc⟩; obtain ⟨q0, q1, q2⟩ := HX.out.keep hc HZ.out; have HC' := Lib.hid hc; clear hc)
    | (go_at_call 11; (with_reducible refine (rinstr_is (by assumption) HR).mono ?_); rintro e w' ⟨rfl, hc⟩; obtain ⟨q0, q1, q2⟩ := HX.out.keep hc HZ.out; have HC' := Lib.hid hc; clear hc))
  go_wp2
  go_ret
  exact ⟨rfl, HW.out.trans (Hid.out ‹Hid (Below _ _ _)› |>.mono (Nat.le_of_lt HZ.out))⟩
end Go.Proofs.Ytemllmaelioeaaa
