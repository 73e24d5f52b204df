/-
  The statement on the type of any local (ClassLocals), walked: it answers true at any method of lists that are not too long, and any number.
-/
import Derived.Test.YtcehkmnneimdeaaClassLaws
import Derived.Deep.RegionHeld3
import Derived.Deep.QuietTactic
import Derived.BigQuiet
namespace Go.Proofs.Ytcehkmnneimdeaa
set_option maxRecDepth 100000
set_option linter.unusedVariables false
set_option linter.unusedSimpArgs false
open Go.ChangeShapes Go.WideShapes Go.ChangeAt Go.RowKit
set_option linter.unusedVariables false
set_option linter.unusedSimpArgs false

theorem clocal_is {x : Mth} {n : Int} {hx : MHnd} {w0 w : World} {t : Int × Int} (HM : Hid (MthIn w0 w0.heap.size hx x)) (HX : Hid (Below w0.heap.size w0 w)) (HR : Hid (localOf x n = t)) (hs : n ≤ 9223372036854775807) :
    Calls Try.prog 18 #[mthV hx x, .int .i64 n] w fun e w' => e = .returned (.agg #[.int .i64 t.1, .int .i64 t.2]) ∧ Below w.heap.size w w' := by
  have H := clocal_any x n hs hx w (HM.out.now HX.out)
  rw [HR.out] at H
  exact H
theorem rlocal_is {x : Mth} {n : Int} {hx : MHnd} {w0 w : World} {t : Int × Int} (HM : Hid (MthIn w0 w0.heap.size hx x)) (HX : Hid (Below w0.heap.size w0 w)) (HR : Hid (localOf x n = t)) (hs : n ≤ 9223372036854775807) (ha : x.args.length ≤ 1048576) (hl : x.locals.length ≤ 1048576) :
    Calls Try.prog 19 #[mthV hx x, .int .i64 n] w fun e w' => e = .returned (.agg #[.int .i64 t.1, .int .i64 t.2]) ∧ Below w.heap.size w w' := by
  have H := rlocal_any x n hs hx w (HM.out.now HX.out) ha hl
  rw [HR.out] at H
  exact H
set_option maxHeartbeats 3200000 in
theorem classLocals_any (x : Mth) (n : Int) (hs : n ≤ 9223372036854775807) (hx : MHnd) (w : World) (H : MthIn w w.heap.size hx x) (ha : x.args.length ≤ 1048576) (hl : x.locals.length ≤ 1048576) :
    Calls Try.prog 4 #[mthV hx x, .int .i64 n] w fun e w' => e = .returned (.bool true) ∧ Below w.heap.size w w' := by
  have HW := Lib.hid ((Below.refl w.heap.size w).alloc (Nat.le_refl _) (.cells (mthL hx x).toArray 43))
  have HQ := Lib.hid (cells_new w (mthL hx x) 43)
  have HZ : Hid (w.heap.size < (w.alloc (.cells (mthL hx x).toArray 43)).heap.size) := Lib.hid (by simp)
  have HM := Lib.hid (H.now HW.out)
  obtain ⟨t, ht⟩ : ∃ t, localOf x n = t := ⟨_, rfl⟩
  have HR := Lib.hid ht
  clear H ht
  go_enter Try.func4, Try.ntmps4
  go_upto_region 1 with fail
  generalize w.alloc (.cells (mthL hx x).toArray 43) = w1 at *
  have HX : Hid (Below w1.heap.size w1 w1) := Lib.hid (Below.refl _ _)
  have q0 := (HQ.out.keep HX.out HZ.out) 0 _ rfl; have q1 := (HQ.out.keep HX.out HZ.out) 1 _ rfl; have q2 := (HQ.out.keep HX.out HZ.out) 2 _ rfl; have q3 := (HQ.out.keep HX.out HZ.out) 3 _ rfl; have q4 := (HQ.out.keep HX.out HZ.out) 4 _ rfl; have q5 := (HQ.out.keep HX.out HZ.out) 5 _ rfl; have q6 := (HQ.out.keep HX.out HZ.out) 6 _ rfl; have q7 := (HQ.out.keep HX.out HZ.out) 7 _ rfl
  have HX := Lib.hid HX.out.drew
  go_region_held3 (fun w' => w'.cell? ⟨w.heap.size, 0, none⟩ = some (.slice hx.A0 x.args.length hx.k0) ∧ w'.cell? ⟨w.heap.size, 1, none⟩ = some (.slice hx.A1 x.locals.length hx.k1) ∧ w'.cell? ⟨w.heap.size, 2, none⟩ = some (.int .i64 x.ret.1) ∧ w'.cell? ⟨w.heap.size, 3, none⟩ = some (.int .i64 x.ret.2) ∧ w'.cell? ⟨w.heap.size, 4, none⟩ = some (.slice hx.A4 x.code.length hx.k4) ∧ w'.cell? ⟨w.heap.size, 5, none⟩ = some (.int .i64 x.depth) ∧ w'.cell? ⟨w.heap.size, 6, none⟩ = some (.int .i64 x.pot) ∧ w'.cell? ⟨w.heap.size, 7, none⟩ = some (.slice hx.A7 x.phi.length hx.k7)) (first | exact ⟨q0, q1, q2, q3, q4, q5, q6, q7⟩) (first | (go_at_call 8; (with_reducible refine (classAwake_any _).mono ?_); rintro e w7 ⟨rfl, hb⟩; have HX := Lib.hid (HX.out.trans (hb.mono HX.out.size)); have q0 := (HQ.out.keep HX.out HZ.out) 0 _ rfl; have q1 := (HQ.out.keep HX.out HZ.out) 1 _ rfl; have q2 := (HQ.out.keep HX.out HZ.out) 2 _ rfl; have q3 := (HQ.out.keep HX.out HZ.out) 3 _ rfl; have q4 := (HQ.out.keep HX.out HZ.out) 4 _ rfl; have q5 := (HQ.out.keep HX.out HZ.out) 5 _ rfl; have q6 := (HQ.out.keep HX.out HZ.out) 6 _ rfl; have q7 := (HQ.out.keep HX.out HZ.out) 7 _ rfl; clear hb) | (go_at_call 18; (with_reducible refine (clocal_is HM HX HR hs).mono ?_); rintro e w7 ⟨rfl, hb⟩; have HX := Lib.hid (HX.out.trans (hb.mono HX.out.size)); have q0 := (HQ.out.keep HX.out HZ.out) 0 _ rfl; have q1 := (HQ.out.keep HX.out HZ.out) 1 _ rfl; have q2 := (HQ.out.keep HX.out HZ.out) 2 _ rfl; have q3 := (HQ.out.keep HX.out HZ.out) 3 _ rfl; have q4 := (HQ.out.keep HX.out HZ.out) 4 _ rfl; have q5 := (HQ.out.keep HX.out HZ.out) 5 _ rfl; have q6 := (HQ.out.keep HX.out HZ.out) 6 _ rfl; have q7 := (HQ.out.keep HX.out HZ.out) 7 _ rfl; clear hb) | (go_at_call 19; (with_reducible refine (rlocal_is HM HX HR hs ha hl).mono ?_); rintro e w7 ⟨rfl, hb⟩; have HX := Lib.hid (HX.out.trans (hb.mono HX.out.size)); have q0 := (HQ.out.keep HX.out HZ.out) 0 _ rfl; have q1 := (HQ.out.keep HX.out HZ.out) 1 _ rfl; have q2 := (HQ.out.keep HX.out HZ.out) 2 _ rfl; have q3 := (HQ.out.keep HX.out HZ.out) 3 _ rfl; have q4 := (HQ.out.keep HX.out HZ.out) 4 _ rfl; have q5 := (HQ.out.keep HX.out HZ.out) 5 _ rfl; have q6 := (HQ.out.keep HX.out HZ.out) 6 _ rfl; have q7 := (HQ.out.keep HX.out HZ.out) 7 _ rfl; clear hb))
  all_goals
    go_wp2_with fail
    go_ret
    exact ⟨by first | rfl | simp, HW.out.trans (HX.out.mono (Nat.le_of_lt HZ.out))⟩
end Go.Proofs.Ytcehkmnneimdeaa
