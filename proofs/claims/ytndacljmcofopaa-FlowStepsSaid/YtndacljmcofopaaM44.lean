/-
  The fixed fact of the statements on one instruction (awake): it holds.
-/
import Derived.Test.YtndacljmcofopaaM33
import Derived.Test.YtndacljmcofopaaM35
import Derived.Test.YtndacljmcofopaaM37
import Derived.Test.YtndacljmcofopaaM43
namespace Go.Proofs.Ytndacljmcofopaa
set_option maxRecDepth 100000
set_option linter.unusedVariables false
set_option linter.unusedSimpArgs false
open Go.ChangeShapes Go.WideShapes Go.ChangeAt Go.RowKit

theorem fstep_is {m : Img} {h : Hnd} {f pc : Int} {st : List (Int × Int)} {A : Option Addr} {cap n : Nat} {w0 w : World} {r : StepR} (HI : Hid (ImgIn w0 w0.heap.size h m)) (HX : Hid (Below w0.heap.size w0 w)) (HM : Hid (SaneI m)) (HN : Hid (st.length = n)) (HS : Hid (SlcIs TyAt 2 w w.heap.size A cap st)) (hs : n ≤ 1000) (HR : Hid (stepOf m f pc st = r)) :
    Calls Try.prog 9 #[imgV h m, .int .i64 f, .int .i64 pc, .slice A n cap] w (StepIs r w) := by
  obtain rfl := HN.out
  have H := fstep_any m f pc st A cap h w (HI.out.now HX.out) HM.out HS.out hs
  rw [HR.out] at H
  exact H
theorem rstep_is {m : Img} {h : Hnd} {f pc : Int} {st : List (Int × Int)} {A : Option Addr} {cap n : Nat} {w0 w : World} {r : StepR} (HI : Hid (ImgIn w0 w0.heap.size h m)) (HX : Hid (Below w0.heap.size w0 w)) (HM : Hid (SaneI m)) (HN : Hid (st.length = n)) (HS : Hid (SlcIs TyAt 2 w w.heap.size A cap st)) (hs : n ≤ 1000) (HR : Hid (stepOf m f pc st = r)) :
    Calls Try.prog 10 #[imgV h m, .int .i64 f, .int .i64 pc, .slice A n cap] w (StepIs r w) := by
  obtain rfl := HN.out
  have H := rstep_any m f pc st A cap h w (HI.out.now HX.out) HM.out HS.out hs
  rw [HR.out] at H
  exact H
theorem rsane_is {m : Img} {h : Hnd} {w0 w : World} {r : Int} (HI : Hid (ImgIn w0 w0.heap.size h m)) (HX : Hid (Below w0.heap.size w0 w)) (HR : Hid (saneR m = r)) : Calls Try.prog 16 #[imgV h m] w fun e w' => e = .returned (.int .i64 r) ∧ Below w.heap.size w w' := by
  have H := rsane_any m h w (HI.out.now HX.out)
  rw [HR.out] at H
  exact H
/-- The fixed image. -/
def actM : Img := ⟨[], [], [1], [⟨[], [], (1, 0), [(1, 0, 0), (33, 0, 0)], 0, 0, [0, 0]⟩], [], 0, 0⟩
def actH (N : Nat) : Hnd := ⟨none, none, some ⟨N, 0, none⟩, some ⟨N + 1 + 1 + 1, 0, none⟩, none, 0, 0, 1, 1, 0⟩
theorem act_yes : saneR actM = 0 := sane_yes (by decide) (by
  simp [okB, actM, goodsB, clsOk, methodB, codesB, namedB, retB, entryB, goodB])
theorem act_step1 : stepOf actM 0 0 [] = ⟨[(1, 0)], [1], 0⟩ := by decide
theorem act_step2 : stepOf actM 0 1 [(1, 0)] = ⟨[], [], 0⟩ := by decide
theorem act_step3 : stepOf actM 0 1 [] = ⟨[], [], 4⟩ := by decide
/-- The world in which it stands. -/
abbrev actW (w : World) : World :=
  ((((w.alloc (.cells #[.int .i32 1] 21)).alloc (.cells #[.int .i64 1, .int .i64 0, .int .i64 0, .int .i64 33, .int .i64 0, .int .i64 0] 44)).alloc (.cells #[.int .i64 0, .int .i64 0] 3)).alloc
    (.cells #[.slice none 0 0, .slice none 0 0, .int .i64 1, .int .i64 0, .slice (some ⟨w.heap.size + 1, 0, none⟩) 2 2, .int .i64 0, .int .i64 0, .slice (some ⟨w.heap.size + 1 + 1, 0, none⟩) 2 2] 41)).alloc
    (.cells #[.slice none 0 0, .slice none 0 0, .slice (some ⟨w.heap.size, 0, none⟩) 1 1, .slice (some ⟨w.heap.size + 1 + 1 + 1, 0, none⟩) 1 1, .slice none 0 0, .int .i64 0, .int .i64 0] 28)
theorem code_two {w : World} {g : Nat} {B : Nat} {x y z x' y' z' : Int} (hg : g < B) (h : Cells w g [.int .i64 x, .int .i64 y, .int .i64 z, .int .i64 x', .int .i64 y', .int .i64 z']) : SlcIs CodeAt 3 w B (some ⟨g, 0, none⟩) 2 [(x, y, z), (x', y', z')] :=
  ⟨Nat.le_refl _, by show 2 ≤ 9223372036854775807; decide, fun i t hi => by
    match i, hi with
    | 0, hi => simp at hi; subst hi; exact ⟨_, rfl, hg, h 0 _ rfl, h 1 _ rfl, h 2 _ rfl⟩
    | 1, hi => simp at hi; subst hi; exact ⟨_, rfl, hg, by rw [show (⟨g, 0, none⟩ : Addr).add (1 * 3) = ⟨g, 3, none⟩ by simp [Addr.add]]; exact ⟨h 3 _ rfl, h 4 _ rfl, h 5 _ rfl⟩⟩
    | i + 2, hi => simp at hi⟩
theorem act_parts (w : World) : Below w.heap.size w (actW w) ∧ (actW w).heap.size = w.heap.size + 1 + 1 + 1 + 1 + 1 ∧ ImgIn (actW w) (actW w).heap.size (actH w.heap.size) actM ∧ ImgBox (actW w) (w.heap.size + 1 + 1 + 1 + 1) (actH w.heap.size) actM := by
  obtain ⟨c0, z0, b0⟩ := cells_step (w := w) rfl [.int .i32 1] 21
  obtain ⟨c1, z1, b1⟩ := cells_step z0 [.int .i64 1, .int .i64 0, .int .i64 0, .int .i64 33, .int .i64 0, .int .i64 0] 44
  obtain ⟨c2, z2, b2⟩ := cells_step z1 [.int .i64 0, .int .i64 0] 3
  obtain ⟨c3, z3, b3⟩ := cells_step z2 [.slice none 0 0, .slice none 0 0, .int .i64 1, .int .i64 0, .slice (some ⟨w.heap.size + 1, 0, none⟩) 2 2, .int .i64 0, .int .i64 0, .slice (some ⟨w.heap.size + 1 + 1, 0, none⟩) 2 2] 41
  obtain ⟨c5, z5, b5⟩ := cells_step z3 [.slice none 0 0, .slice none 0 0, .slice (some ⟨w.heap.size, 0, none⟩) 1 1, .slice (some ⟨w.heap.size + 1 + 1 + 1, 0, none⟩) 1 1, .slice none 0 0, .int .i64 0, .int .i64 0] 28
  have b3' := b3.trans (b5.mono (by omega))
  have b2' := b2.trans (b3'.mono (by omega))
  have b1' := b1.trans (b2'.mono (by omega))
  have c3 := c3.keep b5 (by omega)
  have c2 := c2.keep b3' (by omega)
  have c1 := c1.keep b2' (by omega)
  have c0 := c0.keep b1' (by omega)
  have z : (actW w).heap.size = w.heap.size + 1 + 1 + 1 + 1 + 1 := z5
  have hC : SlcIs CodeAt 3 (actW w) (actW w).heap.size (some ⟨w.heap.size + 1, 0, none⟩) 2 [(1, 0, 0), (33, 0, 0)] := code_two (by omega) c1
  have hP : SlcIs IntAt 1 (actW w) (actW w).heap.size (some ⟨w.heap.size + 1 + 1, 0, none⟩) 2 [0, 0] := int_two (by omega) (c2 0 _ rfl) (c2 1 _ rfl)
  have hM : MthAt (actW w) (actW w).heap.size ⟨w.heap.size + 1 + 1 + 1, 0, none⟩ ⟨[], [], (1, 0), [(1, 0, 0), (33, 0, 0)], 0, 0, [0, 0]⟩ :=
    ⟨⟨none, 0, c3 0 _ rfl, slc_none⟩, ⟨none, 0, c3 1 _ rfl, slc_none⟩, c3 2 _ rfl, c3 3 _ rfl, ⟨_, 2, c3 4 _ rfl, hC⟩, c3 5 _ rfl, c3 6 _ rfl, ⟨_, 2, c3 7 _ rfl, hP⟩⟩
  refine ⟨b0.trans (b1'.mono (by omega)), z, ⟨slc_none, slc_none, ⟨Nat.le_refl _, by show 1 ≤ 9223372036854775807; decide, row_one ⟨c0 0 _ rfl, by decide, by decide⟩ (by omega)⟩, ⟨Nat.le_refl _, by show 1 ≤ 9223372036854775807; decide, row_one hM (by omega)⟩, slc_none⟩,
    ⟨c5 0 _ rfl, c5 1 _ rfl, c5 2 _ rfl, c5 3 _ rfl, c5 4 _ rfl, c5 5 _ rfl, c5 6 _ rfl⟩⟩
section
variable {N : Nat} {w0 w : World}
theorem act_call1 (HI : Hid (ImgIn w0 w0.heap.size (actH N) actM)) (HX : Hid (Below w0.heap.size w0 w)) : Calls Try.prog 9 #[imgV (actH N) actM, .int .i64 0, .int .i64 0, .slice none 0 0] w fun e w' =>
    ∃ A c A' c', e = .returned (.tuple #[.slice A 1 c, .slice A' 1 c', .int .i64 0]) ∧ SlcIs TyAt 2 w' w'.heap.size A c [(1, 0)] ∧ SlcIs IntAt 1 w' w'.heap.size A' c' [1] ∧ Below w.heap.size w w' :=
  (fstep_is HI HX (Lib.hid (saneI act_yes)) (Lib.hid rfl) (Lib.hid slc_none) (by decide) (Lib.hid act_step1)).mono fun _ _ h => h
theorem act_call2 {A : Option Addr} {c : Nat} (HI : Hid (ImgIn w0 w0.heap.size (actH N) actM)) (HX : Hid (Below w0.heap.size w0 w)) (HS : Hid (SlcIs TyAt 2 w w.heap.size A c [(1, 0)])) : Calls Try.prog 9 #[imgV (actH N) actM, .int .i64 0, .int .i64 1, .slice A 1 c] w fun e w' =>
    ∃ A c A' c', e = .returned (.tuple #[.slice A 0 c, .slice A' 0 c', .int .i64 0]) ∧ Below w.heap.size w w' :=
  (fstep_is HI HX (Lib.hid (saneI act_yes)) (Lib.hid rfl) HS (by decide) (Lib.hid act_step2)).mono fun _ _ ⟨A, c, A', c', h, _, _, hb⟩ => ⟨A, c, A', c', h, hb⟩
theorem act_call3 (HI : Hid (ImgIn w0 w0.heap.size (actH N) actM)) (HX : Hid (Below w0.heap.size w0 w)) : Calls Try.prog 9 #[imgV (actH N) actM, .int .i64 0, .int .i64 1, .slice none 0 0] w fun e w' =>
    ∃ A c A' c', e = .returned (.tuple #[.slice A 0 c, .slice A' 0 c', .int .i64 4]) ∧ Below w.heap.size w w' :=
  (fstep_is HI HX (Lib.hid (saneI act_yes)) (Lib.hid rfl) (Lib.hid slc_none) (by decide) (Lib.hid act_step3)).mono fun _ _ ⟨A, c, A', c', h, _, _, hb⟩ => ⟨A, c, A', c', h, hb⟩
theorem act_takes (HI : Hid (ImgIn w0 w0.heap.size (actH N) actM)) (HX : Hid (Below w0.heap.size w0 w)) : Calls Try.prog 13 #[imgV (actH N) actM, insV 25 0 0, .int .i64 0] w fun e w' => e = .returned (.int .i64 3) ∧ Below w.heap.size w w' :=
  (fTakes_of actM 0 25 0 0 (wantsOf actM ⟨[], [], (1, 0), [(1, 0, 0), (33, 0, 0)], 0, 0, [0, 0]⟩ 25 0 0) (actH N) w (HI.out.now HX.out) (fun w' h' => ftk_25 _ _ 0 0 0 _ w' h')).mono fun _ _ h => h
theorem act_ints {A : Option Addr} {c : Nat} (HS : Hid (SlcIs IntAt 1 w w.heap.size A c [1])) : Calls Try.prog 12 #[.slice A 1 c, .slice (some ⟨w.heap.size, 0, none⟩) 1 1] (w.alloc (.cells #[.int .i64 1] 3)) fun e w' => e = .returned (.bool true) ∧ Below w.heap.size w w' := by
  have hA : Below w.heap.size w (w.alloc (.cells #[.int .i64 1] 3)) := (Below.refl _ _).alloc (Nat.le_refl _) _
  refine (rsameInts_any [1] [1] A (some ⟨w.heap.size, 0, none⟩) c 1 _ (w.alloc (.cells #[.int .i64 1] 3)) (Nat.le_refl _) (slcNow IntAt.keeps HS.out hA) (int_one (by simp) (by go_simp))).mono ?_
  rintro e w' ⟨rfl, hb⟩
  exact ⟨rfl, hA.trans (hb.mono hA.size)⟩
theorem act_edges (HI : Hid (ImgIn w0 w0.heap.size (actH N) actM)) (HX : Hid (Below w0.heap.size w0 w)) : Calls Try.prog 17 #[imgV (actH N) actM] w fun e w' => ∃ A c, e = .returned (.slice A 1 c) ∧ Below w.heap.size w w' := by
  refine (redges_any actM (actH N) w (HI.out.now HX.out) (by decide) (by decide) (by decide)).mono ?_
  rintro e w' ⟨v, xs, rfl, ho, hb⟩
  rcases ownK_slice ho with ⟨_, hn⟩ | ⟨g, c, rfl, _⟩
  · cases hn
  · exact ⟨_, c, rfl, hb⟩
end
set_option maxHeartbeats 3200000 in
theorem flowAwake_any (w : World) : Calls Try.prog 8 #[] w fun e w' => e = .returned (.bool true) ∧ Below w.heap.size w w' := by
  obtain ⟨hb, hz, hm, hx⟩ := act_parts w
  have HW := Lib.hid hb
  have HZ := Lib.hid hz
  have HI := Lib.hid hm
  have HBX := Lib.hid hx
  have HSN := Lib.hid act_yes
  clear hb hz hm hx
  go_enter Try.func8, Try.ntmps8
  go_upto_region 2 with fail
  change Code.wp _ _ _ _ (actW w)
  generalize actW w = w1 at *
  obtain ⟨N, hN⟩ : ∃ N, w.heap.size = N := ⟨_, rfl⟩
  have HNN := Lib.hid hN
  simp only [hN] at HZ HI HBX ⊢
  clear hN
  have HX1 : Hid (Below w1.heap.size w1 w1) := Lib.hid (Below.refl _ _)
  have hlt : Hid (N + 1 + 1 + 1 + 1 < w1.heap.size) := Lib.hid (by have := HZ.out; omega)
  obtain ⟨q0, q1, q2, q3, q4, q5, q6⟩ := HBX.out
  go_upto_region 3 with (go_at_call 9; (with_reducible refine (act_call1 HI HX1).mono ?_); rintro e w2 ⟨A2, c2, A3, c3, rfl, hs, hs', hb⟩; have HX2 := Lib.hid hb; have HS2 := Lib.hid hs; have HS3 := Lib.hid hs'; clear hb hs hs')
  clear q0 q1 q2 q3 q4 q5 q6
  obtain ⟨q0, q1, q2, q3, q4, q5, q6⟩ := HBX.out.keep HX2.out hlt.out
  go_upto_region 4 with (go_at_call 9; (with_reducible refine (act_call2 HI HX2 HS2).mono ?_); rintro e w3 ⟨A4, c4, A5, c5, rfl, hb⟩; have HX3 := Lib.hid (HX2.out.trans (hb.mono HX2.out.size)); have HS2 := Lib.hid (slcNow TyAt.keeps HS2.out hb); have HS3 := Lib.hid (slcNow IntAt.keeps HS3.out hb); clear hb)
  clear q0 q1 q2 q3 q4 q5 q6
  obtain ⟨q0, q1, q2, q3, q4, q5, q6⟩ := HBX.out.keep HX3.out hlt.out
  go_upto_region 5 with (go_at_call 9; (with_reducible refine (act_call3 HI HX3).mono ?_); rintro e w4 ⟨A6, c6, A7, c7, rfl, hb⟩; have HX4 := Lib.hid (HX3.out.trans (hb.mono HX3.out.size)); have HS2 := Lib.hid (slcNow TyAt.keeps HS2.out hb); have HS3 := Lib.hid (slcNow IntAt.keeps HS3.out hb); clear hb)
  clear q0 q1 q2 q3 q4 q5 q6
  obtain ⟨ad, rfl, hab, l0, l1⟩ := HS2.out.row.at_ (i := 0) (by decide)
  have l0 : w4.cell? ad = some (.int .i64 1) := by
    have e : ad.add (0 * 2) = ad := by unfold Addr.add; rw [if_pos (by omega)]
    rw [e] at l0
    exact l0
  clear l1
  go_wp2_with (first
    | (go_at_call 12; (with_reducible refine (act_ints HS3).mono ?_); rintro e w5 ⟨rfl, hb⟩; have HX5 := Lib.hid (HX4.out.trans (hb.mono HX4.out.size)); clear hb; obtain ⟨q0, q1, q2, q3, q4, q5, q6⟩ := HBX.out.keep HX5.out hlt.out)
    | (go_at_call 13; (with_reducible refine (act_takes HI HX5).mono ?_); rintro e w6 ⟨rfl, hb⟩; have HX6 := Lib.hid (HX5.out.trans (hb.mono HX5.out.size)); clear hb; obtain ⟨q0, q1, q2, q3, q4, q5, q6⟩ := HBX.out.keep HX6.out hlt.out)
    | (go_at_call 16; (with_reducible refine (rsane_is HI HX6 HSN).mono ?_); rintro e w7 ⟨rfl, hb⟩; have HX7 := Lib.hid (HX6.out.trans (hb.mono HX6.out.size)); clear hb; obtain ⟨q0, q1, q2, q3, q4, q5, q6⟩ := HBX.out.keep HX7.out hlt.out)
    | (go_at_call 17; (with_reducible refine (act_edges HI HX7).mono ?_); rintro e w8 ⟨A8, c8, rfl, hb⟩; have HX8 := Lib.hid (HX7.out.trans (hb.mono HX7.out.size)); clear hb))
  go_ret
  exact ⟨by first | rfl | simp, HW.out.trans (HX8.out.mono HW.out.size)⟩
end Go.Proofs.Ytndacljmcofopaa
