/-
  The fixed fact of the statements on calls (awake): it is true.
-/
import Derived.Test.YtjjgpcmdoodjnaaM39
import Derived.IntWalk
import Derived.RegionTactic
import Derived.ChangeAlike
import Derived.Deep.RegionHeld3
import Derived.Deep.QuietTactic
import Derived.BigQuiet
namespace Go.Proofs.Ytjjgpcmdoodjnaa
set_option maxRecDepth 100000
set_option linter.unusedVariables false
set_option linter.unusedSimpArgs false
open Go.ChangeShapes Go.WideShapes Go.ChangeAt Go.RowKit
set_option linter.unusedVariables false
set_option linter.unusedSimpArgs false

theorem csane_is {m : Img} {h : Hnd} {w0 w : World} {r : Int} (HI : Hid (ImgIn w0 w0.heap.size h m)) (HX : Hid (Below w0.heap.size w0 w)) (HR : Hid (saneR m = r)) : Calls Try.prog 14 #[imgV h m] w fun e w' => e = .returned (.int .i64 r) ∧ Below w.heap.size w w' := by
  have H := rsane_any m h w (HI.out.now HX.out)
  rw [HR.out] at H
  exact H
/-- The fixed image. -/
def calM : Img := ⟨[], [], [], [⟨[], [], (5, 0), [(31, 1, 0), (33, 0, 0)], 0, 0, [0, 0]⟩, ⟨[], [], (5, 0), [(33, 0, 0)], 0, 0, [0]⟩], [], 0, 0⟩
def calH (N : Nat) : Hnd := ⟨none, none, none, some ⟨N + 1 + 1 + 1 + 1, 0, none⟩, none, 0, 0, 0, 2, 0⟩
theorem cal_yes : saneR calM = 0 := sane_yes (by decide) (by
  simp [okB, calM, goodsB, clsOk, methodB, codesB, namedB, retB, entryB, goodB])
theorem cal_sane : saneB8 calM = true := by
  unfold saneB8
  rw [cal_yes]
  decide
theorem cal_of0 : callsOf calM 0 = [1] := by decide
theorem cal_of2 : callsOf calM 2 = [] := by decide
theorem cal_reach : reachOf calM 0 = [0, 1] := by decide
/-- The world in which it stands. -/
abbrev calW (w : World) : World :=
  (((((w.alloc (.cells #[.int .i64 31, .int .i64 1, .int .i64 0, .int .i64 33, .int .i64 0, .int .i64 0] 45)).alloc (.cells #[.int .i64 0, .int .i64 0] 3)).alloc (.cells #[.int .i64 33, .int .i64 0, .int .i64 0] 45)).alloc (.cells #[.int .i64 0] 3)).alloc
    (.cells #[.slice none 0 0, .slice none 0 0, .int .i64 5, .int .i64 0, .slice (some ⟨w.heap.size, 0, none⟩) 2 2, .int .i64 0, .int .i64 0, .slice (some ⟨w.heap.size + 1, 0, none⟩) 2 2, .slice none 0 0, .slice none 0 0, .int .i64 5, .int .i64 0, .slice (some ⟨w.heap.size + 1 + 1, 0, none⟩) 1 1, .int .i64 0, .int .i64 0, .slice (some ⟨w.heap.size + 1 + 1 + 1, 0, none⟩) 1 1] 48)).alloc
    (.cells #[.slice none 0 0, .slice none 0 0, .slice none 0 0, .slice (some ⟨w.heap.size + 1 + 1 + 1 + 1, 0, none⟩) 2 2, .slice none 0 0, .int .i64 0, .int .i64 0] 28)
theorem cal_code2 {w : World} {g : Nat} {B : Nat} {x y z x' y' z' : Int} (hg : g < B) (h : Cells w g [.int .i64 x, .int .i64 y, .int .i64 z, .int .i64 x', .int .i64 y', .int .i64 z']) : SlcIs CodeAt 3 w B (some ⟨g, 0, none⟩) 2 [(x, y, z), (x', y', z')] :=
  ⟨Nat.le_refl _, by show 2 ≤ 9223372036854775807; decide, fun i t hi => by
    match i, hi with
    | 0, hi => simp at hi; subst hi; exact ⟨_, rfl, hg, h 0 _ rfl, h 1 _ rfl, h 2 _ rfl⟩
    | 1, hi => simp at hi; subst hi; exact ⟨_, rfl, hg, by rw [show (⟨g, 0, none⟩ : Addr).add (1 * 3) = ⟨g, 3, none⟩ by simp [Addr.add]]; exact ⟨h 3 _ rfl, h 4 _ rfl, h 5 _ rfl⟩⟩
    | i + 2, hi => simp at hi⟩
theorem cal_code1 {w : World} {g : Nat} {B : Nat} {x y z : Int} (hg : g < B) (h : Cells w g [.int .i64 x, .int .i64 y, .int .i64 z]) : SlcIs CodeAt 3 w B (some ⟨g, 0, none⟩) 1 [(x, y, z)] :=
  ⟨Nat.le_refl _, by show 1 ≤ 9223372036854775807; decide, fun i t hi => by
    match i, hi with
    | 0, hi => simp at hi; subst hi; exact ⟨_, rfl, hg, h 0 _ rfl, h 1 _ rfl, h 2 _ rfl⟩
    | i + 1, hi => simp at hi⟩
theorem cal_two {w : World} {g : Nat} {p q : Int} (hg : g < w.heap.size) (h0 : w.cell? ⟨g, 0, none⟩ = some (.int .i64 p)) (h1 : w.cell? ⟨g, 1, none⟩ = some (.int .i64 q)) : SlcIs IntAt 1 w w.heap.size (some ⟨g, 0, none⟩) 2 [p, q] :=
  ⟨Nat.le_refl _, by omega, fun i t hi => by
    match i, hi with
    | 0, hi => simp at hi; subst hi; exact ⟨_, rfl, hg, h0⟩
    | 1, hi => simp at hi; subst hi; exact ⟨_, rfl, hg, by rw [show (⟨g, 0, none⟩ : Addr).add (1 * 1) = ⟨g, 1, none⟩ by simp [Addr.add]]; exact h1⟩
    | i + 2, hi => simp at hi⟩
theorem cal_mths {w : World} {g : Nat} {B : Nat} {x y : Mth} (hg : g < B) (h0 : MthAt w B ⟨g, 0, none⟩ x) (h1 : MthAt w B ⟨g, 8, none⟩ y) : SlcIs MthAt 8 w B (some ⟨g, 0, none⟩) 2 [x, y] :=
  ⟨Nat.le_refl _, by show 2 ≤ 9223372036854775807; decide, fun i t hi => by
    match i, hi with
    | 0, hi => simp at hi; subst hi; exact ⟨_, rfl, hg, h0⟩
    | 1, hi => simp at hi; subst hi; exact ⟨_, rfl, hg, by rw [show (⟨g, 0, none⟩ : Addr).add (1 * 8) = ⟨g, 8, none⟩ by simp [Addr.add]]; exact h1⟩
    | i + 2, hi => simp at hi⟩
theorem cal_parts (w : World) : Below w.heap.size w (calW w) ∧ (calW w).heap.size = w.heap.size + 1 + 1 + 1 + 1 + 1 + 1 ∧ ImgIn (calW w) (calW w).heap.size (calH w.heap.size) calM ∧ ImgBox (calW w) (w.heap.size + 1 + 1 + 1 + 1 + 1) (calH w.heap.size) calM := by
  obtain ⟨c0, z0, b0⟩ := cells_step (w := w) rfl [.int .i64 31, .int .i64 1, .int .i64 0, .int .i64 33, .int .i64 0, .int .i64 0] 45
  obtain ⟨c1, z1, b1⟩ := cells_step z0 [.int .i64 0, .int .i64 0] 3
  obtain ⟨c2, z2, b2⟩ := cells_step z1 [.int .i64 33, .int .i64 0, .int .i64 0] 45
  obtain ⟨c3, z3, b3⟩ := cells_step z2 [.int .i64 0] 3
  obtain ⟨c4, z4, b4⟩ := cells_step z3 [.slice none 0 0, .slice none 0 0, .int .i64 5, .int .i64 0, .slice (some ⟨w.heap.size, 0, none⟩) 2 2, .int .i64 0, .int .i64 0, .slice (some ⟨w.heap.size + 1, 0, none⟩) 2 2, .slice none 0 0, .slice none 0 0, .int .i64 5, .int .i64 0, .slice (some ⟨w.heap.size + 1 + 1, 0, none⟩) 1 1, .int .i64 0, .int .i64 0, .slice (some ⟨w.heap.size + 1 + 1 + 1, 0, none⟩) 1 1] 48
  obtain ⟨c5, z5, b5⟩ := cells_step z4 [.slice none 0 0, .slice none 0 0, .slice none 0 0, .slice (some ⟨w.heap.size + 1 + 1 + 1 + 1, 0, none⟩) 2 2, .slice none 0 0, .int .i64 0, .int .i64 0] 28
  have b4' := b4.trans (b5.mono (by omega))
  have b3' := b3.trans (b4'.mono (by omega))
  have b2' := b2.trans (b3'.mono (by omega))
  have b1' := b1.trans (b2'.mono (by omega))
  have c4 := c4.keep b5 (by omega)
  have c3 := c3.keep b4' (by omega)
  have c2 := c2.keep b3' (by omega)
  have c1 := c1.keep b2' (by omega)
  have c0 := c0.keep b1' (by omega)
  have z : (calW w).heap.size = w.heap.size + 1 + 1 + 1 + 1 + 1 + 1 := z5
  have hC : SlcIs CodeAt 3 (calW w) (calW w).heap.size (some ⟨w.heap.size, 0, none⟩) 2 [(31, 1, 0), (33, 0, 0)] := cal_code2 (by omega) c0
  have hP : SlcIs IntAt 1 (calW w) (calW w).heap.size (some ⟨w.heap.size + 1, 0, none⟩) 2 [0, 0] := cal_two (by omega) (c1 0 _ rfl) (c1 1 _ rfl)
  have hD : SlcIs CodeAt 3 (calW w) (calW w).heap.size (some ⟨w.heap.size + 1 + 1, 0, none⟩) 1 [(33, 0, 0)] := cal_code1 (by omega) c2
  have hQ : SlcIs IntAt 1 (calW w) (calW w).heap.size (some ⟨w.heap.size + 1 + 1 + 1, 0, none⟩) 1 [0] := int_one (by omega) (c3 0 _ rfl)
  have hM : MthAt (calW w) (calW w).heap.size ⟨w.heap.size + 1 + 1 + 1 + 1, 0, none⟩ ⟨[], [], (5, 0), [(31, 1, 0), (33, 0, 0)], 0, 0, [0, 0]⟩ :=
    ⟨⟨none, 0, c4 0 _ rfl, slc_none⟩, ⟨none, 0, c4 1 _ rfl, slc_none⟩, c4 2 _ rfl, c4 3 _ rfl, ⟨_, 2, c4 4 _ rfl, hC⟩, c4 5 _ rfl, c4 6 _ rfl, ⟨_, 2, c4 7 _ rfl, hP⟩⟩
  have hN : MthAt (calW w) (calW w).heap.size ⟨w.heap.size + 1 + 1 + 1 + 1, 8, none⟩ ⟨[], [], (5, 0), [(33, 0, 0)], 0, 0, [0]⟩ :=
    ⟨⟨none, 0, c4 8 _ rfl, slc_none⟩, ⟨none, 0, c4 9 _ rfl, slc_none⟩, c4 10 _ rfl, c4 11 _ rfl, ⟨_, 1, c4 12 _ rfl, hD⟩, c4 13 _ rfl, c4 14 _ rfl, ⟨_, 1, c4 15 _ rfl, hQ⟩⟩
  refine ⟨b0.trans (b1'.mono (by omega)), z, ⟨slc_none, slc_none, slc_none, cal_mths (by omega) hM hN, slc_none⟩,
    ⟨c5 0 _ rfl, c5 1 _ rfl, c5 2 _ rfl, c5 3 _ rfl, c5 4 _ rfl, c5 5 _ rfl, c5 6 _ rfl⟩⟩
section
variable {N : Nat} {w0 w : World}
theorem cal_ints1 {A : Option Addr} {c : Nat} (HS : Hid (SlcIs IntAt 1 w w.heap.size A c [1])) : Calls Try.prog 9 #[.slice A 1 c, .slice (some ⟨w.heap.size, 0, none⟩) 1 1] (w.alloc (.cells #[.int .i64 1] 3)) fun e w' => e = .returned (.bool true) ∧ Below w.heap.size w w' := by
  have hA : Below w.heap.size w (w.alloc (.cells #[.int .i64 1] 3)) := (Below.refl _ _).alloc (Nat.le_refl _) _
  refine (rsameInts_any [1] [1] A (some ⟨w.heap.size, 0, none⟩) c 1 _ (w.alloc (.cells #[.int .i64 1] 3)) (Nat.le_refl _) (cslcUp IntAt.keeps HS.out hA) (int_one (by simp) (by go_simp))).mono ?_
  rintro e w' ⟨rfl, hb⟩
  exact ⟨rfl, hA.trans (hb.mono hA.size)⟩
theorem cal_ints2 {A : Option Addr} {c : Nat} (HS : Hid (SlcIs IntAt 1 w w.heap.size A c [0, 1])) : Calls Try.prog 9 #[.slice A 2 c, .slice (some ⟨w.heap.size, 0, none⟩) 2 2] (w.alloc (.cells #[.int .i64 0, .int .i64 1] 3)) fun e w' => e = .returned (.bool true) ∧ Below w.heap.size w w' := by
  have hA : Below w.heap.size w (w.alloc (.cells #[.int .i64 0, .int .i64 1] 3)) := (Below.refl _ _).alloc (Nat.le_refl _) _
  refine (rsameInts_any [0, 1] [0, 1] A (some ⟨w.heap.size, 0, none⟩) c 2 _ (w.alloc (.cells #[.int .i64 0, .int .i64 1] 3)) (Nat.le_refl _) (cslcUp IntAt.keeps HS.out hA) (cal_two (by simp) (by go_simp) (by go_simp))).mono ?_
  rintro e w' ⟨rfl, hb⟩
  exact ⟨rfl, hA.trans (hb.mono hA.size)⟩
theorem cal_calls (HI : Hid (ImgIn w0 w0.heap.size (calH N) calM)) (HX : Hid (Below w0.heap.size w0 w)) : Calls Try.prog 15 #[imgV (calH N) calM, .int .i64 0, .int .i64 1] w fun e w' => e = .returned (.bool true) ∧ Below w.heap.size w w' :=
  (rcalls_any calM ⟨[], [], (5, 0), [(31, 1, 0), (33, 0, 0)], 0, 0, [0, 0]⟩ 0 1 (calH N) w (HI.out.now HX.out) rfl (by decide) (by decide)).mono fun _ _ h => h
end
set_option maxHeartbeats 3200000 in
theorem callsAwake_any (w : World) : Calls Try.prog 7 #[] w fun e w' => e = .returned (.bool true) ∧ Below w.heap.size w w' := by
  obtain ⟨hb, hz, hm, hx⟩ := cal_parts w
  have HW := Lib.hid hb
  have HZ := Lib.hid hz
  have HI := Lib.hid hm
  have HBX := Lib.hid hx
  have HSN := Lib.hid cal_yes
  have HSB := Lib.hid cal_sane
  have HL0 := Lib.hid cal_of0
  have HL2 := Lib.hid cal_of2
  have HLR := Lib.hid cal_reach
  clear hb hz hm hx
  go_enter Try.func7, Try.ntmps7
  go_upto_region 2 with fail
  change Code.wp _ _ _ _ (calW w)
  generalize calW w = w1 at *
  obtain ⟨N, hN⟩ : ∃ N, w.heap.size = N := ⟨_, rfl⟩
  have HNN := Lib.hid hN
  simp only [hN] at HZ HI HBX ⊢
  clear hN
  have HX : Hid (Below w1.heap.size w1 w1) := Lib.hid (Below.refl _ _)
  have hlt : Hid (N + 1 + 1 + 1 + 1 + 1 < w1.heap.size) := Lib.hid (by have := HZ.out; omega)
  obtain ⟨q0, q1, q2, q3, q4, q5, q6⟩ := HBX.out
  go_wp2_with (first
    | (go_at_call 10; (with_reducible refine (cof_is HI HX HSB HL0 (Lib.hid rfl)).mono ?_); rintro e w2 ⟨A2, c2, rfl, hs, hb⟩; have HX := Lib.hid (HX.out.trans (hb.mono HX.out.size)); have HS2 := Lib.hid hs; clear hb hs; obtain ⟨q0, q1, q2, q3, q4, q5, q6⟩ := HBX.out.keep HX.out hlt.out)
    | (go_at_call 9; (with_reducible refine (cal_ints1 HS2).mono ?_); rintro e w3 ⟨rfl, hb⟩; have HX := Lib.hid (HX.out.trans (hb.mono HX.out.size)); clear hb; obtain ⟨q0, q1, q2, q3, q4, q5, q6⟩ := HBX.out.keep HX.out hlt.out)
    | (go_at_call 11; (with_reducible refine (creach_is HI HX HSB HLR (Lib.hid rfl)).mono ?_); rintro e w4 ⟨A4, c4, rfl, hs, hb⟩; have HX := Lib.hid (HX.out.trans (hb.mono HX.out.size)); have HS4 := Lib.hid hs; clear hb hs; obtain ⟨q0, q1, q2, q3, q4, q5, q6⟩ := HBX.out.keep HX.out hlt.out)
    | (go_at_call 9; (with_reducible refine (cal_ints2 HS4).mono ?_); rintro e w5 ⟨rfl, hb⟩; have HX := Lib.hid (HX.out.trans (hb.mono HX.out.size)); clear hb; obtain ⟨q0, q1, q2, q3, q4, q5, q6⟩ := HBX.out.keep HX.out hlt.out)
    | (go_at_call 10; (with_reducible refine (cof_is HI HX HSB HL2 (Lib.hid rfl)).mono ?_); rintro e w6 ⟨A6, c6, rfl, hs, hb⟩; have HX := Lib.hid (HX.out.trans (hb.mono HX.out.size)); clear hb hs; obtain ⟨q0, q1, q2, q3, q4, q5, q6⟩ := HBX.out.keep HX.out hlt.out)
    | (go_at_call 14; (with_reducible refine (csane_is HI HX HSN).mono ?_); rintro e w7 ⟨rfl, hb⟩; have HX := Lib.hid (HX.out.trans (hb.mono HX.out.size)); clear hb; obtain ⟨q0, q1, q2, q3, q4, q5, q6⟩ := HBX.out.keep HX.out hlt.out)
    | (go_at_call 15; (with_reducible refine (cal_calls HI HX).mono ?_); rintro e w8 ⟨rfl, hb⟩; have HX := Lib.hid (HX.out.trans (hb.mono HX.out.size)); clear hb; obtain ⟨q0, q1, q2, q3, q4, q5, q6⟩ := HBX.out.keep HX.out hlt.out))
  go_ret
  exact ⟨by first | rfl | simp, HW.out.trans (HX.out.mono HW.out.size)⟩
end Go.Proofs.Ytjjgpcmdoodjnaa
