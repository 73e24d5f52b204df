/-
  What the document's own answer for a method's result (gives) comes to.
-/
import Derived.Test.YtefgepppcmhphaaM17
import Derived.Test.YtefgepppcmhphaaM14
namespace Go.Proofs.Ytefgepppcmhphaa
set_option maxRecDepth 100000
set_option linter.unusedVariables false
set_option linter.unusedSimpArgs false
open Go.ChangeShapes Go.WideShapes Go.ChangeAt Go.RowKit

/-- A list of types, wherever it lies. -/
def SomeTypes (L : List (Int × Int)) (w : World) (e : Ending) (w' : World) : Prop := ∃ A c, e = .returned (.slice A L.length c) ∧ SlcIs TyAt 2 w' w'.heap.size A c L ∧ Below w.heap.size w w'
theorem rgives_any (x : Mth) (hx : MHnd) (w : World) : Calls Try.prog 64 #[mthV hx x] w (SomeTypes (givesOf x) w) := by
  have HW := Lib.hid ((Below.refl w.heap.size w).alloc (Nat.le_refl _) (.cells (mthL hx x).toArray 54))
  have HC := Lib.hid (cells_new w (mthL hx x) 54)
  have hz : Hid ((w.alloc (.cells (mthL hx x).toArray 54)).heap.size = w.heap.size + 1) := Lib.hid (by simp)
  by_cases h5 : x.ret.1 = 5
  · have e : givesOf x = [] := by unfold givesOf; rw [if_pos h5]
    rw [e]
    have H5 := Lib.hid h5
    clear e h5
    go_enter Try.func64, Try.ntmps64
    go_upto_region 1 with fail
    generalize w.alloc (.cells (mthL hx x).toArray 54) = w1 at *
    have q2 := HC.out 2 _ rfl
    rw [H5.out] at q2
    go_wp2_with fail
    go_ret
    exact ⟨none, 0, rfl, slc_none, HW.out⟩
  · have e : givesOf x = [x.ret] := by unfold givesOf; rw [if_neg h5]
    rw [e]
    clear e
    go_enter Try.func64, Try.ntmps64
    go_upto_region 1 with fail
    generalize w.alloc (.cells (mthL hx x).toArray 54) = w1 at *
    have q2 := HC.out 2 _ rfl
    have q3 := HC.out 3 _ rfl
    have hz := hz.out
    go_wp2_with fail
    go_ret
    refine ⟨_, _, rfl, new_t1 (by simp; try omega) (by go_simp) (by go_simp), HW.out.trans ((Below.refl _ _).alloc (by omega) _)⟩
theorem rgives_is {x : Mth} {hx : MHnd} {w : World} {L : List (Int × Int)} (HL : Hid (givesOf x = L)) : Calls Try.prog 64 #[mthV hx x] w (SomeTypes L w) := by
  have H := rgives_any x hx w
  rw [HL.out] at H
  exact H
theorem rlocal_is {x : Mth} {n : Int} {hx : MHnd} {w0 w : World} {t : Int × Int} (HM : Hid (MthIn w0 w0.heap.size hx x)) (HX : Hid (Below w0.heap.size w0 w)) (HR : Hid (localOf x n = t)) (hs : n ≤ 9223372036854775807) (ha : x.args.length ≤ 1048576) (hl : x.locals.length ≤ 1048576) :
    Calls Try.prog 63 #[mthV hx x, .int .i64 n] w fun e w' => e = .returned (.agg #[.int .i64 t.1, .int .i64 t.2]) ∧ Below w.heap.size w w' := by
  have H := rlocal_any x n hs hx w (HM.out.now HX.out) ha hl
  rw [HR.out] at H
  exact H
end Go.Proofs.Ytefgepppcmhphaa
