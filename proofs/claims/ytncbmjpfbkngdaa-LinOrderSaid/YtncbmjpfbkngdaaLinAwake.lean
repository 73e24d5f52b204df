/-
  The fixed fact of the statements on inequalities (awake): it is true.
-/
import Derived.Test.YtncbmjpfbkngdaaLinC
import Derived.Test.YtncbmjpfbkngdaaRefLin2
import Derived.Test.YtncbmjpfbkngdaaWholeOf
import Derived.IntWalk
import Derived.RegionTactic
import Derived.ChangeAlike
import Derived.Deep.RegionHeld3
import Derived.Deep.QuietTactic
import Derived.BigQuiet
namespace Go.Proofs.Ytncbmjpfbkngdaa
set_option maxRecDepth 100000
set_option linter.unusedVariables false
set_option linter.unusedSimpArgs false
open Go.ChangeShapes Go.WideShapes Go.ChangeAt Go.RowKit
set_option linter.unusedVariables false
set_option linter.unusedSimpArgs false

/-- The world in which the two inequalities lie. -/
abbrev linW (w : World) : World :=
  (((w.alloc (.cells #[.int .i64 1, .int .i64 (-1)] 3)).alloc (.cells #[.slice (some ⟨w.heap.size, 0, none⟩) 2 2, .int .i64 (-3)] 27)).alloc (.cells #[.int .i64 0, .int .i64 1] 3)).alloc (.cells #[.slice (some ⟨w.heap.size + 1 + 1, 0, none⟩) 2 2, .int .i64 5] 27)
structure LinBox (w : World) (N : Nat) : Prop where
  c0 : Cells w N [.int .i64 1, .int .i64 (-1)]
  a : Cells w (N + 1) [.slice (some ⟨N, 0, none⟩) 2 2, .int .i64 (-3)]
  c1 : Cells w (N + 1 + 1) [.int .i64 0, .int .i64 1]
  b : Cells w (N + 1 + 1 + 1) [.slice (some ⟨N + 1 + 1, 0, none⟩) 2 2, .int .i64 5]
  lt : N + 1 + 1 + 1 < w.heap.size
theorem LinBox.keep {w w' : World} {N : Nat} (h : LinBox w N) (hb : Below w.heap.size w w') : LinBox w' N := by
  have hl := h.lt
  exact ⟨h.c0.keep hb (by omega), h.a.keep hb (by omega), h.c1.keep hb (by omega), h.b.keep hb (by omega), Nat.lt_of_lt_of_le hl hb.size⟩
theorem lin_two {w : World} {g : Nat} {p q : Int} (hg : g < w.heap.size) (h0 : w.cell? ⟨g, 0, none⟩ = some (.int .i64 p)) (h1 : w.cell? ⟨g, 1, none⟩ = some (.int .i64 q)) : SlcIs IntAt 1 w w.heap.size (some ⟨g, 0, none⟩) 2 [p, q] :=
  ⟨Nat.le_refl _, by omega, fun i t hi => by
    match i, hi with
    | 0, hi => simp at hi; subst hi; exact ⟨_, rfl, hg, h0⟩
    | 1, hi => simp at hi; subst hi; exact ⟨_, rfl, hg, by rw [show (⟨g, 0, none⟩ : Addr).add (1 * 1) = ⟨g, 1, none⟩ by simp [Addr.add]]; exact h1⟩
    | i + 2, hi => simp at hi⟩
theorem LinBox.first {w : World} {N : Nat} (h : LinBox w N) : SlcIs IntAt 1 w w.heap.size (some ⟨N, 0, none⟩) 2 [1, -1] :=
  lin_two (by have := h.lt; omega) (h.c0 0 _ rfl) (h.c0 1 _ rfl)
theorem LinBox.second {w : World} {N : Nat} (h : LinBox w N) : SlcIs IntAt 1 w w.heap.size (some ⟨N + 1 + 1, 0, none⟩) 2 [0, 1] :=
  lin_two (by have := h.lt; omega) (h.c1 0 _ rfl) (h.c1 1 _ rfl)
/-- The two, in a row. -/
abbrev linRow (N : Nat) : Obj := .cells #[.slice (some ⟨N, 0, none⟩) 2 2, .int .i64 (-3), .slice (some ⟨N + 1 + 1, 0, none⟩) 2 2, .int .i64 5] 27
abbrev linL : List Inq := [([1, -1], -3), ([0, 1], 5)]
theorem lin_row {w : World} {N g : Nat} (h : LinBox w N) (hg : g < w.heap.size) (hc : Cells w g [.slice (some ⟨N, 0, none⟩) 2 2, .int .i64 (-3), .slice (some ⟨N + 1 + 1, 0, none⟩) 2 2, .int .i64 5]) : SlcIs IneqAt 2 w w.heap.size (some ⟨g, 0, none⟩) 2 linL :=
  ⟨Nat.le_refl _, by show 2 ≤ 9223372036854775807; decide, fun i t hi => by
    match i, hi with
    | 0, hi => simp at hi; subst hi; exact ⟨_, rfl, hg, ⟨_, 2, hc 0 _ rfl, h.first⟩, hc 1 _ rfl⟩
    | 1, hi => simp at hi; subst hi; exact ⟨_, rfl, hg, by rw [show (⟨g, 0, none⟩ : Addr).add (1 * 2) = ⟨g, 2, none⟩ by simp [Addr.add]]; exact ⟨⟨_, 2, hc 2 _ rfl, h.second⟩, hc 3 _ rfl⟩⟩
    | i + 2, hi => simp at hi⟩
theorem lin_parts (w : World) : Below w.heap.size w (linW w) ∧ LinBox (linW w) w.heap.size := by
  obtain ⟨c0, z0, b0⟩ := cells_step (w := w) rfl [.int .i64 1, .int .i64 (-1)] 3
  obtain ⟨c1, z1, b1⟩ := cells_step z0 [.slice (some ⟨w.heap.size, 0, none⟩) 2 2, .int .i64 (-3)] 27
  obtain ⟨c2, z2, b2⟩ := cells_step z1 [.int .i64 0, .int .i64 1] 3
  obtain ⟨c3, z3, b3⟩ := cells_step z2 [.slice (some ⟨w.heap.size + 1 + 1, 0, none⟩) 2 2, .int .i64 5] 27
  have b2' := b2.trans (b3.mono (by omega))
  have b1' := b1.trans (b2'.mono (by omega))
  exact ⟨b0.trans (b1'.mono (by omega)), c0.keep b1' (by omega), c1.keep b2' (by omega), c2.keep b3 (by omega), c3, by have : (linW w).heap.size = w.heap.size + 1 + 1 + 1 + 1 := z3; omega⟩
theorem lin_below (w : World) (o : Obj) : Below w.heap.size w (w.alloc o) := (Below.refl _ _).alloc (Nat.le_refl _) _
theorem lin_sum {w : World} {N : Nat} (h : Hid (LinBox w N)) :
    Calls Try.prog 11 #[.slice (some ⟨w.heap.size, 0, none⟩) 2 2, .slice (some ⟨w.heap.size + 1, 0, none⟩) 2 2, .int .i64 2] ((w.alloc (linRow N)).alloc (.cells #[.int .i64 1, .int .i64 1] 3)) fun e w' => ∃ A c, e = .returned (.tuple #[.agg #[.slice A 2 c, .int .i64 2], .int .i64 0]) ∧ Below w.heap.size w w' ∧ SlcIs IntAt 1 w' w'.heap.size A c [1, 0] := by
  have b1 := lin_below w (linRow N)
  have b2 := lin_below (w.alloc (linRow N)) (.cells #[.int .i64 1, .int .i64 1] 3)
  have hb := b1.trans (b2.mono b1.size)
  have hc := (cells_new w [.slice (some ⟨N, 0, none⟩) 2 2, .int .i64 (-3), .slice (some ⟨N + 1 + 1, 0, none⟩) 2 2, .int .i64 5] 27).keep b2 (by simp)
  refine (lsum_any linL [1, 1] 2 _ _ 2 2 _ (lin_row (h.out.keep hb) (by simp; omega) hc) (lin_two (g := w.heap.size + 1) (by simp) (by go_simp) (by go_simp)) (by decide) (by decide)).mono ?_
  rintro e w' ⟨A, c, k, he, hq, hs, hk, _⟩
  have hr : sumR linL [1, 1] 2 = some ([1, 0], 2) := by decide
  rw [hr] at he hs hk
  subst hk
  exact ⟨A, c, he, hb.trans (hq.mono hb.size), hs⟩
theorem lin_holds {w : World} {N : Nat} (h : Hid (LinBox w N)) :
    Calls Try.prog 15 #[.agg #[.slice (some ⟨N, 0, none⟩) 2 2, .int .i64 (-3)], .slice (some ⟨w.heap.size, 0, none⟩) 2 2] (w.alloc (.cells #[.int .i64 1, .int .i64 4] 3)) fun e w' => e = .returned (.tuple #[.bool true, .int .i64 0]) ∧ Below w.heap.size w w' := by
  have b1 := lin_below w (.cells #[.int .i64 1, .int .i64 4] 3)
  refine (lholds_any ([1, -1], -3) [1, 4] _ _ 2 2 _ ((h.out.keep b1).first) (lin_two (g := w.heap.size) (by simp) (by go_simp) (by go_simp)) (by decide) (by decide)).mono ?_
  rintro e w' ⟨he, hq⟩
  have hr : holdsR ([1, -1], -3) [1, 4] = some true := by decide
  rw [hr] at he
  exact ⟨he, b1.trans (hq.mono b1.size)⟩
theorem lin_over {w : World} {N : Nat} (h : Hid (LinBox w N)) :
    Calls Try.prog 15 #[.agg #[.slice (some ⟨N, 0, none⟩) 2 2, .int .i64 (-3)], .slice (some ⟨w.heap.size, 0, none⟩) 2 2] (w.alloc (.cells #[.int .i64 4611686018427387904, .int .i64 0] 3)) fun e w' => e = .returned (.tuple #[.bool false, .int .i64 14]) ∧ Below w.heap.size w w' := by
  have b1 := lin_below w (.cells #[.int .i64 4611686018427387904, .int .i64 0] 3)
  refine (lholds_any ([1, -1], -3) [4611686018427387904, 0] _ _ 2 2 _ ((h.out.keep b1).first) (lin_two (g := w.heap.size) (by simp) (by go_simp) (by go_simp)) (by decide) (by decide)).mono ?_
  rintro e w' ⟨he, hq⟩
  have hr : holdsR ([1, -1], -3) [4611686018427387904, 0] = none := by decide
  rw [hr] at he
  exact ⟨he, b1.trans (hq.mono b1.size)⟩
theorem lin_same {w : World} {A : Option Addr} {c : Nat} (HS : Hid (SlcIs IntAt 1 w w.heap.size A c [1, 0])) :
    Calls Try.prog 13 #[.agg #[.slice A 2 c, .int .i64 2], .agg #[.slice (some ⟨w.heap.size, 0, none⟩) 2 2, .int .i64 2]] (w.alloc (.cells #[.int .i64 1, .int .i64 0] 3)) fun e w' => e = .returned (.bool true) ∧ Below w.heap.size w w' := by
  have b1 := lin_below w (.cells #[.int .i64 1, .int .i64 0] 3)
  refine (rsame14_any [1, 0] [1, 0] 2 2 A _ c 2 _ (lslcUp IntAt.keeps HS.out b1) (lin_two (g := w.heap.size) (by simp) (by go_simp) (by go_simp))).mono ?_
  rintro e w' ⟨he, hq⟩
  have hr : sameB ([1, 0], 2) ([1, 0], 2) = true := by decide
  rw [hr] at he
  exact ⟨he, b1.trans (hq.mono b1.size)⟩
theorem lin_implies {w : World} {A : Option Addr} {c : Nat} (HS : Hid (SlcIs IntAt 1 w w.heap.size A c [1, 0])) :
    Calls Try.prog 17 #[.agg #[.slice A 2 c, .int .i64 2], .agg #[.slice (some ⟨w.heap.size, 0, none⟩) 2 2, .int .i64 9]] (w.alloc (.cells #[.int .i64 1, .int .i64 0] 3)) fun e w' => e = .returned (.bool true) ∧ Below w.heap.size w w' := by
  have b1 := lin_below w (.cells #[.int .i64 1, .int .i64 0] 3)
  refine (limplies_any ([1, 0], 2) ([1, 0], 9) A _ c 2 _ (lslcUp IntAt.keeps HS.out b1) (lin_two (g := w.heap.size) (by simp) (by go_simp) (by go_simp))).mono ?_
  rintro e w' ⟨he, hq⟩
  have hr : impliesB ([1, 0], 2) ([1, 0], 9) = true := by decide
  rw [hr] at he
  exact ⟨he, b1.trans (hq.mono b1.size)⟩
theorem lin_proves {w : World} {N : Nat} (h : Hid (LinBox w N)) :
    Calls Try.prog 14 #[.slice (some ⟨w.heap.size, 0, none⟩) 2 2, .slice (some ⟨w.heap.size + 1, 0, none⟩) 2 2, .agg #[.slice (some ⟨w.heap.size + 1 + 1, 0, none⟩) 2 2, .int .i64 2]] (((w.alloc (linRow N)).alloc (.cells #[.int .i64 1, .int .i64 1] 3)).alloc (.cells #[.int .i64 1, .int .i64 0] 3)) fun e w' => e = .returned (.bool true) ∧ Below w.heap.size w w' := by
  have b1 := lin_below w (linRow N)
  have b2 := lin_below (w.alloc (linRow N)) (.cells #[.int .i64 1, .int .i64 1] 3)
  have b3 := lin_below ((w.alloc (linRow N)).alloc (.cells #[.int .i64 1, .int .i64 1] 3)) (.cells #[.int .i64 1, .int .i64 0] 3)
  have b23 := b2.trans (b3.mono b2.size)
  have hb := b1.trans (b23.mono b1.size)
  have hc := (cells_new w [.slice (some ⟨N, 0, none⟩) 2 2, .int .i64 (-3), .slice (some ⟨N + 1 + 1, 0, none⟩) 2 2, .int .i64 5] 27).keep b23 (by simp)
  have ht := lin_two (w := ((w.alloc (linRow N)).alloc (.cells #[.int .i64 1, .int .i64 1] 3)).alloc (.cells #[.int .i64 1, .int .i64 0] 3)) (g := w.heap.size + 1) (p := 1) (q := 1) (by simp) (by
    have := b3.cell (p := ⟨w.heap.size + 1, 0, none⟩) (by simp)
    rw [this]
    go_simp) (by
    have := b3.cell (p := ⟨w.heap.size + 1, 1, none⟩) (by simp)
    rw [this]
    go_simp)
  refine (lproves_any linL [1, 1] ([1, 0], 2) _ _ _ 2 2 2 _ (lin_row (h.out.keep hb) (by simp; omega) hc) ht (lin_two (g := w.heap.size + 1 + 1) (by simp) (by go_simp) (by go_simp)) (by decide) (by decide) (by decide)).mono ?_
  rintro e w' ⟨he, hq⟩
  have hr : provesB linL [1, 1] ([1, 0], 2) = true := by decide
  rw [hr] at he
  exact ⟨he, hb.trans (hq.mono hb.size)⟩
set_option maxHeartbeats 6400000 in
theorem linAwakeT_any (w : World) : Calls Try.prog 10 #[] w fun e w' => e = .returned (.bool true) ∧ Below w.heap.size w w' := by
  obtain ⟨hb, hx⟩ := lin_parts w
  have HW := Lib.hid hb
  have HBX := Lib.hid hx
  clear hb hx
  go_enter Try.func10, Try.ntmps10
  go_upto_region 3 with fail
  change Code.wp _ _ _ _ (linW w)
  generalize linW w = w1 at *
  obtain ⟨N, hN⟩ : ∃ N, w.heap.size = N := ⟨_, rfl⟩
  have HNN := Lib.hid hN
  simp only [hN] at HBX ⊢
  clear hN
  have q0 := HBX.out.a 0 _ rfl
  have q1 := HBX.out.a 1 _ rfl
  have q2 := HBX.out.b 0 _ rfl
  have q3 := HBX.out.b 1 _ rfl
  have HX : Hid (Below w1.heap.size w1 w1) := Lib.hid (Below.refl _ _)
  go_upto_region 4 with (go_at_call 11; (with_reducible refine (lin_sum HBX).mono ?_); rintro e w2 ⟨A, c, rfl, hb, hs⟩; have HX := Lib.hid hb; have HB2 := Lib.hid (HBX.out.keep hb); have HS := Lib.hid hs; clear hb hs; have q0 := HB2.out.a 0 _ rfl; have q1 := HB2.out.a 1 _ rfl; have q2 := HB2.out.b 0 _ rfl; have q3 := HB2.out.b 1 _ rfl)
  have HC := Lib.hid (cells_new w2 [.slice A 2 c, .int .i64 2] 27)
  obtain ⟨S, hS⟩ : ∃ S, w2.heap.size = S := ⟨_, rfl⟩
  have HX : Hid (Below w1.heap.size w1 (w2.alloc (.cells #[.slice A 2 c, .int .i64 2] 27))) := Lib.hid (HX.out.alloc HX.out.size _)
  have HB3 := Lib.hid (HB2.out.keep (lin_below w2 (.cells #[.slice A 2 c, .int .i64 2] 27)))
  have HS := Lib.hid (lslcUp IntAt.keeps HS.out (lin_below w2 (.cells #[.slice A 2 c, .int .i64 2] 27)))
  have HZ : Hid (w2.heap.size < (w2.alloc (.cells #[.slice A 2 c, .int .i64 2] 27)).heap.size) := Lib.hid (by simp)
  change Hid (Cells (w2.alloc (.cells #[.slice A 2 c, .int .i64 2] 27)) w2.heap.size [.slice A 2 c, .int .i64 2]) at HC
  clear q0 q1 q2 q3
  change Code.wp _ _ _ _ (w2.alloc (.cells #[.slice A 2 c, .int .i64 2] 27))
  generalize w2.alloc (.cells #[.slice A 2 c, .int .i64 2] 27) = w3 at *
  rw [hS] at HC HZ ⊢
  clear hS
  have q0 := HB3.out.a 0 _ rfl
  have q1 := HB3.out.a 1 _ rfl
  have q2 := HB3.out.b 0 _ rfl
  have q3 := HB3.out.b 1 _ rfl
  have r0 := HC.out 0 _ rfl
  have r1 := HC.out 1 _ rfl
  clear HB2 HBX
  go_wp2_with (first
    | (go_at_call 15; (with_reducible refine (lin_holds HB3).mono ?_); rintro e w4 ⟨rfl, hb⟩; have HX := Lib.hid (HX.out.trans (hb.mono HX.out.size)); have HS := Lib.hid (lslcUp IntAt.keeps HS.out hb); have HB3 := Lib.hid (HB3.out.keep hb); have HC := Lib.hid (HC.out.keep hb HZ.out); have HZ := Lib.hid (Nat.lt_of_lt_of_le HZ.out hb.size); clear hb; have q0 := HB3.out.a 0 _ rfl; have q1 := HB3.out.a 1 _ rfl; have q2 := HB3.out.b 0 _ rfl; have q3 := HB3.out.b 1 _ rfl; have r0 := HC.out 0 _ rfl; have r1 := HC.out 1 _ rfl)
    | (go_at_call 15; (with_reducible refine (lin_over HB3).mono ?_); rintro e w4 ⟨rfl, hb⟩; have HX := Lib.hid (HX.out.trans (hb.mono HX.out.size)); have HS := Lib.hid (lslcUp IntAt.keeps HS.out hb); have HB3 := Lib.hid (HB3.out.keep hb); have HC := Lib.hid (HC.out.keep hb HZ.out); have HZ := Lib.hid (Nat.lt_of_lt_of_le HZ.out hb.size); clear hb; have q0 := HB3.out.a 0 _ rfl; have q1 := HB3.out.a 1 _ rfl; have q2 := HB3.out.b 0 _ rfl; have q3 := HB3.out.b 1 _ rfl; have r0 := HC.out 0 _ rfl; have r1 := HC.out 1 _ rfl)
    | (go_at_call 13; (with_reducible refine (lin_same HS).mono ?_); rintro e w4 ⟨rfl, hb⟩; have HX := Lib.hid (HX.out.trans (hb.mono HX.out.size)); have HS := Lib.hid (lslcUp IntAt.keeps HS.out hb); have HB3 := Lib.hid (HB3.out.keep hb); have HC := Lib.hid (HC.out.keep hb HZ.out); have HZ := Lib.hid (Nat.lt_of_lt_of_le HZ.out hb.size); clear hb; have q0 := HB3.out.a 0 _ rfl; have q1 := HB3.out.a 1 _ rfl; have q2 := HB3.out.b 0 _ rfl; have q3 := HB3.out.b 1 _ rfl; have r0 := HC.out 0 _ rfl; have r1 := HC.out 1 _ rfl)
    | (go_at_call 17; (with_reducible refine (lin_implies HS).mono ?_); rintro e w4 ⟨rfl, hb⟩; have HX := Lib.hid (HX.out.trans (hb.mono HX.out.size)); have HS := Lib.hid (lslcUp IntAt.keeps HS.out hb); have HB3 := Lib.hid (HB3.out.keep hb); have HC := Lib.hid (HC.out.keep hb HZ.out); have HZ := Lib.hid (Nat.lt_of_lt_of_le HZ.out hb.size); clear hb; have q0 := HB3.out.a 0 _ rfl; have q1 := HB3.out.a 1 _ rfl; have q2 := HB3.out.b 0 _ rfl; have q3 := HB3.out.b 1 _ rfl; have r0 := HC.out 0 _ rfl; have r1 := HC.out 1 _ rfl)
    | (go_at_call 14; (with_reducible refine (lin_proves HB3).mono ?_); rintro e w4 ⟨rfl, hb⟩; have HX := Lib.hid (HX.out.trans (hb.mono HX.out.size)); clear hb))
  go_ret
  exact ⟨by first | rfl | simp, HW.out.trans (HX.out.mono HW.out.size)⟩
end Go.Proofs.Ytncbmjpfbkngdaa
