/-
  The statements on how many cells there are, and on no arenas.
-/
import Derived.Test.YtmjoollhkjgohaaMemAwake
namespace Go.Proofs.Ytmjoollhkjgohaa
set_option maxRecDepth 100000
set_option linter.unusedVariables false
set_option linter.unusedSimpArgs false
open Go.ChangeShapes Go.WideShapes Go.ChangeAt Go.RowKit
set_option linter.unusedVariables false
set_option linter.unusedSimpArgs false

theorem manyM_cases (n : Int) : (n < 0 ∧ manyM n = 0) ∨ (¬ n < 0 ∧ 65536 < n ∧ manyM n = 65536) ∨ (¬ n < 0 ∧ ¬ 65536 < n ∧ n = (manyM n : Int)) := by
  unfold manyM
  by_cases h0 : n < 0
  · exact .inl ⟨h0, by rw [if_pos h0]⟩
  · by_cases h1 : 65536 < n
    · exact .inr (.inl ⟨h0, h1, by rw [if_neg h0, if_pos h1]⟩)
    · exact .inr (.inr ⟨h0, h1, by rw [if_neg h0, if_neg h1]; omega⟩)
theorem memAwake_is (w0 w : World) (h : Below w0.heap.size w0 w) : Calls Try.prog 7 #[] w fun e w' => e = .returned (.bool true) ∧ Below w0.heap.size w0 w' ∧ Below w.heap.size w w' :=
  (memAwake_any w).mono fun e w' ⟨he, hb⟩ => ⟨he, h.trans (hb.mono h.size), hb⟩
set_option maxHeartbeats 3200000 in
theorem memSizes_any (s h : Int) (w : World) : Calls Try.prog 4 #[.int .i64 s, .int .i64 h] w fun e w' => e = .returned (.bool true) ∧ Below w.heap.size w w' := by
  have HN := Lib.hid (mnew_is s h w)
  have hs := manyM_cases s
  have hh := manyM_cases h
  have hs2 := manyM_le s
  have hh2 := manyM_le h
  generalize manyM s = ms at *
  generalize manyM h = mh at *
  have HH2 := Lib.hid hh2
  go_enter Try.func4, Try.ntmps4
  go_upto_region 2 with (go_at_call 8; (with_reducible refine HN.out.mono ?_); rintro e w1 ⟨g, gs, gh, ρ, rfl, hM, hb⟩; have HM := Lib.hid hM; have HX := Lib.hid hb; clear hM hb)
  clear HN
  rcases hs with ⟨h0, rfl⟩ | ⟨h0, h1, rfl⟩ | ⟨h0, h1, rfl⟩
  all_goals
    rcases hh with ⟨k0, rfl⟩ | ⟨k0, k1, rfl⟩ | ⟨k0, k1, rfl⟩
  all_goals
    go_wp2_with (first
      | (go_at_call 7; (with_reducible refine (memAwake_is w _ HX.out).mono ?_); rintro e w2 ⟨rfl, hb, hb2⟩; have HX := Lib.hid hb; have HM := Lib.hid (HM.out.keep hb2); clear hb hb2)
      | (go_at_call 13; (with_reducible refine (mstack_is HM.out).mono ?_); rintro e wx ⟨rfl, hb⟩; have HX := Lib.hid (HX.out.trans (hb.mono HX.out.size)); have HM := Lib.hid (HM.out.keep hb); clear hb; simp only [zerosM_len])
      | (go_at_call 14; (with_reducible refine (mroom_is HM.out HH2.out).mono ?_); rintro e wx ⟨rfl, hb⟩; have HX := Lib.hid (HX.out.trans (hb.mono HX.out.size)); have HM := Lib.hid (HM.out.keep hb); clear hb; simp only [show (flatR []).length = 0 from rfl])
      | (go_at_call 15; (with_reducible refine (mused_is HM.out).mono ?_); rintro e wx ⟨rfl, hb⟩; have HX := Lib.hid (HX.out.trans (hb.mono HX.out.size)); have HM := Lib.hid (HM.out.keep hb); clear hb; simp only [show (flatR []).length = 0 from rfl]))
    go_ret
    exact ⟨by first | rfl | simp, HX.out⟩
set_option maxHeartbeats 3200000 in
theorem memNone_any (n : Int) (w : World) : Calls Try.prog 5 #[.int .i64 n] w fun e w' => e = .returned (.bool true) ∧ Below w.heap.size w w' := by
  have HX : Hid (Below w.heap.size w w) := Lib.hid (Below.refl _ _)
  go_enter Try.func5, Try.ntmps5
  go_wp2_with (first
    | (go_at_call 7; (with_reducible refine (memAwake_is w _ HX.out).mono ?_); rintro e w2 ⟨rfl, hb, _⟩; have HX := Lib.hid hb; clear hb)
    | (go_at_call 9; (with_reducible refine (mgive_nil n _).mono ?_); rintro e wx ⟨rfl, hb⟩; have HX := Lib.hid (HX.out.trans (hb.mono HX.out.size)); clear hb)
    | (go_at_call 16; (with_reducible refine (mplace_nil n _).mono ?_); rintro e wx ⟨rfl, hb⟩; have HX := Lib.hid (HX.out.trans (hb.mono HX.out.size)); clear hb)
    | (go_at_call 10; (with_reducible refine (mdrop_nil n _).mono ?_); rintro e wx ⟨rfl, hb⟩; have HX := Lib.hid (HX.out.trans (hb.mono HX.out.size)); clear hb)
    | (go_at_call 13; (with_reducible refine (mstack_nil _).mono ?_); rintro e wx ⟨rfl, hb⟩; have HX := Lib.hid (HX.out.trans (hb.mono HX.out.size)); clear hb)
    | (go_at_call 11; (with_reducible refine (mregion_nil n _).mono ?_); rintro e wx ⟨rfl, hb⟩; have HX := Lib.hid (HX.out.trans (hb.mono HX.out.size)); clear hb)
    | (go_at_call 15; (with_reducible refine (mused_nil _).mono ?_); rintro e wx ⟨rfl, hb⟩; have HX := Lib.hid (HX.out.trans (hb.mono HX.out.size)); clear hb)
    | (go_at_call 14; (with_reducible refine (mroom_nil _).mono ?_); rintro e wx ⟨rfl, hb⟩; have HX := Lib.hid (HX.out.trans (hb.mono HX.out.size)); clear hb))
  go_ret
  exact ⟨by first | rfl | simp, HX.out⟩
end Go.Proofs.Ytmjoollhkjgohaa
