/-
  The fixed fact of the statements on right types (awake): it holds.
-/
import Derived.Test.YtgpmdhdooglkfaaM23
import Derived.Test.YtgpmdhdooglkfaaM48
import Derived.IntWalk
import Derived.RegionTactic
import Derived.ChangeAlike
import Derived.Deep.RegionHeld3
import Derived.Deep.QuietTactic
import Derived.BigQuiet
namespace Go.Proofs.Ytgpmdhdooglkfaa
set_option maxRecDepth 100000
set_option linter.unusedVariables false
set_option linter.unusedSimpArgs false
open Go.ChangeShapes Go.WideShapes Go.ChangeAt Go.RowKit
set_option linter.unusedVariables false
set_option linter.unusedSimpArgs false

theorem act_right : rightB actM [[⟨true, []⟩, ⟨true, [(1, 0)]⟩]] = true := by decide
theorem act_right0 : rightB actM [] = false := by decide
theorem act_right1 : rightB actM [[⟨false, []⟩, ⟨false, []⟩]] = false := by decide
/-- Two shapes of which nothing is known, as types of a method. -/
abbrev twoMapsW (w : World) : World := (w.alloc (.cells #[.bool false, .slice none 0 0, .bool false, .slice none 0 0] 44)).alloc (.cells #[.slice (some ⟨w.heap.size, 0, none⟩) 2 2] 42)
theorem two_maps (w : World) : Below w.heap.size w (twoMapsW w) ∧ SlcIs (SlcAt ShpAt 2) 1 (twoMapsW w) (twoMapsW w).heap.size (some ⟨w.heap.size + 1, 0, none⟩) 1 [[⟨false, []⟩, ⟨false, []⟩]] := by
  obtain ⟨c0, z0, b0⟩ := cells_step (w := w) rfl [.bool false, .slice none 0 0, .bool false, .slice none 0 0] 44
  obtain ⟨c1, z1, b1⟩ := cells_step z0 [.slice (some ⟨w.heap.size, 0, none⟩) 2 2] 42
  have c0 := c0.keep b1 (by omega)
  refine ⟨b0.trans (b1.mono (by omega)), Nat.le_refl _, by show 1 ≤ 9223372036854775807; decide, row_one ⟨_, 2, c1 0 _ rfl, Nat.le_refl _, by show 2 ≤ 9223372036854775807; decide, fun i t hi => ?_⟩ (by show _ < _; rw [z1]; omega)⟩
  have hz : w.heap.size < (twoMapsW w).heap.size := by show _ < _; rw [z1]; omega
  match i, hi with
  | 0, hi => simp at hi; subst hi; exact ⟨_, rfl, hz, c0 0 _ rfl, none, 0, c0 1 _ rfl, slc_none⟩
  | 1, hi => simp at hi; subst hi; exact ⟨_, rfl, hz, by rw [show (⟨w.heap.size, 0, none⟩ : Addr).add (1 * 2) = ⟨w.heap.size, 2, none⟩ by simp [Addr.add]]; exact ⟨c0 2 _ rfl, none, 0, c0 3 _ rfl, slc_none⟩⟩
  | i + 2, hi => simp at hi
theorem act_new {w0 w : World} {N : Nat} (HI : Hid (ImgIn w0 w0.heap.size (actH N) actM)) (HX : Hid (Below w0.heap.size w0 w)) : Calls Try.prog 10 #[imgV (actH N) actM, .slice (some ⟨w.heap.size + 1, 0, none⟩) 1 1] (twoMapsW w) fun e w' => e = .returned (.bool false) ∧ Below w.heap.size w w' := by
  obtain ⟨hb, hs⟩ := two_maps w
  refine (jright_is (n := 1) HI (Lib.hid (HX.out.trans (hb.mono HX.out.size))) (Lib.hid (saneI act_yes)) (Lib.hid hs) (Lib.hid (fun S hS => by simp at hS; subst hS; exact ⟨by simp, fun s hs => by simp at hs; subst hs; simp⟩)) (Lib.hid rfl) (Lib.hid act_right1)).mono fun e w' ⟨h1, h2⟩ => ⟨h1, hb.trans (h2.mono hb.size)⟩
theorem act_nil {w0 w : World} {N : Nat} (HI : Hid (ImgIn w0 w0.heap.size (actH N) actM)) (HX : Hid (Below w0.heap.size w0 w)) : Calls Try.prog 10 #[imgV (actH N) actM, .slice none 0 0] w fun e w' => e = .returned (.bool false) ∧ Below w.heap.size w w' :=
  jright_is (n := 0) HI HX (Lib.hid (saneI act_yes)) (Lib.hid slc_none) (Lib.hid (fun S hS => by simp at hS)) (Lib.hid rfl) (Lib.hid act_right0)
set_option maxHeartbeats 6400000 in
theorem judgeAwake_any (w : World) : Calls Try.prog 8 #[] w fun e w' => e = .returned (.bool true) ∧ Below w.heap.size w w' := by
  obtain ⟨hb, hz, hm, hx⟩ := act_parts w
  have HW := Lib.hid hb
  have HZ := Lib.hid hz
  have HI := Lib.hid hm
  have HBX := Lib.hid hx
  have HSN := Lib.hid act_yes
  have HM := Lib.hid (saneI act_yes)
  clear hb hz hm hx
  have hmk : ∀ w, (Instr.makeSlice 42 (.int .i64 2) (.int .i64 2)).run Try.prog w = .ok (.slice (some ⟨w.heap.size, 0, none⟩) 2 2) (w.alloc (.cells #[.bool false, .slice none 0 0, .bool false, .slice none 0 0] 44)) := fun w => by kernel_rfl
  go_enter Try.func8, Try.ntmps8
  go_upto_region 2 with fail
  change Code.wp _ _ _ _ (actW w)
  generalize actW w = w1 at *
  obtain ⟨N, hN⟩ : ∃ N, w.heap.size = N := ⟨_, rfl⟩
  have HNN := Lib.hid hN
  simp only [hN] at HZ HI HBX ⊢
  clear hN
  have HX0 : Hid (Below w1.heap.size w1 w1) := Lib.hid (Below.refl _ _)
  have hlt : Hid (N + 1 + 1 + 1 + 1 < w1.heap.size) := Lib.hid (by have := HZ.out; omega)
  obtain ⟨q0, q1, q2, q3, q4, q5, q6⟩ := HBX.out
  go_upto_region 3 with (go_at_call 9; (with_reducible refine (check_is HI HX0 HM).mono ?_); rintro e w2 ⟨A, n, c, f, pc, er, rfl, hb, hno, hyes⟩; have HX := Lib.hid hb; have HNO := Lib.hid hno; have HYES := Lib.hid hyes; clear hb hno hyes)
  obtain rfl : er = 0 := by
    by_cases g : er = 0
    rotate_left
    · have := HNO.out g [[⟨true, []⟩, ⟨true, [(1, 0)]⟩]]
      rw [act_right] at this
      cases this
    · exact g
  obtain ⟨l, hln, hls, hlm, hlb⟩ := HYES.out rfl
  have HL := Lib.hid hls
  have HLM := Lib.hid hlm
  have HLN := Lib.hid hln
  have HLR := Lib.hid hlb.right
  have HLO := Lib.hid hlb.self
  clear hln hls hlm hlb HYES HNO q0 q1 q2 q3 q4 q5 q6
  obtain ⟨q0, q1, q2, q3, q4, q5, q6⟩ := HBX.out.keep HX.out hlt.out
  have HK : Hid (∀ W, Below w1.heap.size w1 W → (fun w' => w'.cell? ⟨N + 1 + 1 + 1 + 1, 0, none⟩ = some (.slice (actH N).A0 actM.classes.length (actH N).c0) ∧ w'.cell? ⟨N + 1 + 1 + 1 + 1, 1, none⟩ = some (.slice (actH N).A1 actM.statics.length (actH N).c1) ∧ w'.cell? ⟨N + 1 + 1 + 1 + 1, 2, none⟩ = some (.slice (actH N).A2 actM.ints.length (actH N).c2) ∧ w'.cell? ⟨N + 1 + 1 + 1 + 1, 3, none⟩ = some (.slice (actH N).A3 actM.methods.length (actH N).c3) ∧ w'.cell? ⟨N + 1 + 1 + 1 + 1, 4, none⟩ = some (.slice (actH N).A4 actM.entries.length (actH N).c4) ∧ w'.cell? ⟨N + 1 + 1 + 1 + 1, 5, none⟩ = some (.int .i64 actM.stack) ∧ w'.cell? ⟨N + 1 + 1 + 1 + 1, 6, none⟩ = some (.int .i64 actM.heap)) W) := Lib.hid (fun W hW => HBX.out.keep hW hlt.out)
  have HX : Hid (Below w1.heap.size w1 w2.drew) := Lib.hid HX.out.drew
  have HL := Lib.hid (slcDr RowAt.keeps HL.out)
  go_region_held3 (fun w' => w'.cell? ⟨N + 1 + 1 + 1 + 1, 0, none⟩ = some (.slice (actH N).A0 actM.classes.length (actH N).c0) ∧ w'.cell? ⟨N + 1 + 1 + 1 + 1, 1, none⟩ = some (.slice (actH N).A1 actM.statics.length (actH N).c1) ∧ w'.cell? ⟨N + 1 + 1 + 1 + 1, 2, none⟩ = some (.slice (actH N).A2 actM.ints.length (actH N).c2) ∧ w'.cell? ⟨N + 1 + 1 + 1 + 1, 3, none⟩ = some (.slice (actH N).A3 actM.methods.length (actH N).c3) ∧ w'.cell? ⟨N + 1 + 1 + 1 + 1, 4, none⟩ = some (.slice (actH N).A4 actM.entries.length (actH N).c4) ∧ w'.cell? ⟨N + 1 + 1 + 1 + 1, 5, none⟩ = some (.int .i64 actM.stack) ∧ w'.cell? ⟨N + 1 + 1 + 1 + 1, 6, none⟩ = some (.int .i64 actM.heap)) (first | exact HK.out _ HX.out | exact HK.out _ (HX.out.alloc HX.out.size _) | exact HK.out _ ((HX.out.alloc HX.out.size _).alloc (Nat.le_trans HX.out.size (by simp)) _)) (first
    | (go_at_call 10; (with_reducible refine (jright_is HI HX HM HL HLM HLN HLR).mono ?_); rintro e w7 ⟨rfl, hb⟩; have HX := Lib.hid (HX.out.trans (hb.mono HX.out.size)); have HL := Lib.hid (slcUp RowAt.keeps HL.out hb); clear hb)
    | (go_at_call 11; (with_reducible refine (jover_is HI HX HM HL HL HLM HLM HLN HLN HLO).mono ?_); rintro e w7 ⟨rfl, hb⟩; have HX := Lib.hid (HX.out.trans (hb.mono HX.out.size)); have HL := Lib.hid (slcUp RowAt.keeps HL.out hb); clear hb)
    | (go_at_call 10; (with_reducible refine (act_nil HI HX).mono ?_); rintro e w7 ⟨rfl, hb⟩; have HX := Lib.hid (HX.out.trans (hb.mono HX.out.size)); have HL := Lib.hid (slcUp RowAt.keeps HL.out hb); clear hb)
    | (go_at_call 10; (with_reducible refine (act_new HI HX).mono ?_); rintro e w7 ⟨rfl, hb⟩; have HX := Lib.hid (HX.out.trans (hb.mono HX.out.size)); have HL := Lib.hid (slcUp RowAt.keeps HL.out hb); clear hb)
    | (go_at_call 14; (with_reducible refine (rsane_is HI HX HSN).mono ?_); rintro e w7 ⟨rfl, hb⟩; have HX := Lib.hid (HX.out.trans (hb.mono HX.out.size)); have HL := Lib.hid (slcUp RowAt.keeps HL.out hb); clear hb)
    | (go_at_call 15; (with_reducible refine (act_edges HI HX).mono ?_); rintro e w8 ⟨A8, c8, rfl, hb⟩; have HX := Lib.hid (HX.out.trans (hb.mono HX.out.size)); have HL := Lib.hid (slcUp RowAt.keeps HL.out hb); clear hb))
  go_wp2_with fail
  go_ret
  exact ⟨by first | rfl | simp, HW.out.trans (HX.out.mono HW.out.size)⟩
end Go.Proofs.Ytgpmdhdooglkfaa
