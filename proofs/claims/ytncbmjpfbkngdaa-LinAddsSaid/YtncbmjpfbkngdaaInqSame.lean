/-
  When two inequalities are the same (Same).
-/
import Derived.Test.YtncbmjpfbkngdaaRefInts
import Derived.Test.YtncbmjpfbkngdaaLinMath
import Derived.Test.YtncbmjpfbkngdaaCellsOf
import Derived.Outline
import Derived.Deep.Cut
import Derived.IntWalk
import Derived.RegionTactic
namespace Go.Proofs.Ytncbmjpfbkngdaa
set_option maxRecDepth 100000
set_option linter.unusedVariables false
set_option linter.unusedSimpArgs false
open Go.ChangeShapes Go.WideShapes Go.ChangeAt Go.RowKit
set_option linter.unusedVariables false
set_option linter.unusedSimpArgs false

theorem lslcUp {α : Type} {At : AtP α} (hK : Keeps At) {k : Nat} {w w' : World} {A : Option Addr} {c : Nat} {l : List α} (h : SlcIs At k w w.heap.size A c l) (hb : Below w.heap.size w w') : SlcIs At k w' w'.heap.size A c l :=
  (h.below_to hK hb (Nat.le_refl _)).keep' hK hb.size (fun _ _ => rfl)
def sameB (a b : Inq) : Bool := decide (a.2 = b.2) && decide (a.1 = b.1)
theorem two_inq (w : World) (x y z u : Value) : Cells ((w.alloc (.cells #[x, y] 27)).alloc (.cells #[z, u] 27)) w.heap.size [x, y] ∧ Cells ((w.alloc (.cells #[x, y] 27)).alloc (.cells #[z, u] 27)) (w.heap.size + 1) [z, u] ∧
    Below w.heap.size w ((w.alloc (.cells #[x, y] 27)).alloc (.cells #[z, u] 27)) := by
  have z1 : (w.alloc (.cells #[x, y] 27)).heap.size = w.heap.size + 1 := by simp
  have b2 : Below (w.heap.size + 1) (w.alloc (.cells #[x, y] 27)) ((w.alloc (.cells #[x, y] 27)).alloc (.cells #[z, u] 27)) := (Below.refl _ _).alloc (by omega) _
  have h2 := cells_new (w.alloc (.cells #[x, y] 27)) [z, u] 27
  rw [z1] at h2
  exact ⟨(cells_new w [x, y] _).keep b2 (by omega), h2, ((Below.refl _ _).alloc (Nat.le_refl _) _).trans (b2.mono (by omega))⟩
theorem rsame14_any (L M : List Int) (x y : Int) (A B : Option Addr) (c d : Nat) (w : World) (hl : SlcIs IntAt 1 w w.heap.size A c L) (hm : SlcIs IntAt 1 w w.heap.size B d M) :
    Calls Try.prog 13 #[.agg #[.slice A L.length c, .int .i64 x], .agg #[.slice B M.length d, .int .i64 y]] w fun e w' => e = .returned (.bool (sameB (L, x) (M, y))) ∧ Below w.heap.size w w' := by
  obtain ⟨c1, c2, hb⟩ := two_inq w (.slice A L.length c) (.int .i64 x) (.slice B M.length d) (.int .i64 y)
  have HC1 := Lib.hid c1
  have HC2 := Lib.hid c2
  have HW := Lib.hid hb
  have H1 := Lib.hid (lslcUp IntAt.keeps hl hb)
  have H2 := Lib.hid (lslcUp IntAt.keeps hm hb)
  obtain ⟨r, hr⟩ : ∃ r, sameB (L, x) (M, y) = r := ⟨_, rfl⟩
  rw [hr]
  have HR := Lib.hid hr
  clear c1 c2 hb hl hm hr
  by_cases hxy : x = y
  · subst hxy
    have HE : Hid (decide (L = M) = r) := Lib.hid (by rw [← HR.out]; unfold sameB; rw [decide_eq_true rfl, Bool.true_and])
    go_enter Try.func13, Try.ntmps13
    go_upto_region 1 with fail
    generalize (w.alloc (.cells #[.slice A L.length c, .int .i64 x] 27)).alloc (.cells #[.slice B M.length d, .int .i64 x] 27) = w1 at *
    have d0 := HC1.out 0 _ rfl
    have d1 := HC1.out 1 _ rfl
    have e0 := HC2.out 0 _ rfl
    have e1 := HC2.out 1 _ rfl
    go_wp2_with (go_at_call 21; (with_reducible refine (rsameInts_any L M A B c d w1.heap.size w1 (Nat.le_refl _) H1.out H2.out).mono ?_); rintro e w2 ⟨he, hb⟩; rw [HE.out] at he; subst he; have HB2 := Lib.hid hb; clear hb)
    go_ret
    exact ⟨rfl, HW.out.trans (HB2.out.mono HW.out.size)⟩
  · have HE : Hid (false = r) := Lib.hid (by rw [← HR.out]; unfold sameB; rw [decide_eq_false hxy, Bool.false_and])
    have hne : (x == y) = false := beq_eq_false_iff_ne.mpr hxy
    go_enter Try.func13, Try.ntmps13
    go_upto_region 1 with fail
    generalize (w.alloc (.cells #[.slice A L.length c, .int .i64 x] 27)).alloc (.cells #[.slice B M.length d, .int .i64 y] 27) = w1 at *
    have d0 := HC1.out 0 _ rfl
    have d1 := HC1.out 1 _ rfl
    have e0 := HC2.out 0 _ rfl
    have e1 := HC2.out 1 _ rfl
    go_wp2_with fail
    go_ret
    exact ⟨by first | rfl | (rw [← HE.out]; rfl), HW.out⟩
end Go.Proofs.Ytncbmjpfbkngdaa
