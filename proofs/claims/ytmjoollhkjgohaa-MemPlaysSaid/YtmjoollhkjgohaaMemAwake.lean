/-
  The statements' own example of arenas answers true.
-/
import Derived.Test.YtmjoollhkjgohaaMemUse
import Derived.Test.YtmjoollhkjgohaaRefIn
namespace Go.Proofs.Ytmjoollhkjgohaa
set_option maxRecDepth 100000
set_option linter.unusedVariables false
set_option linter.unusedSimpArgs false
open Go.ChangeShapes Go.WideShapes Go.ChangeAt Go.RowKit
set_option linter.unusedVariables false
set_option linter.unusedSimpArgs false

def awk1 : List (Nat × List Int) := [(0, zerosM 3)]
def awk2 : List (Nat × List Int) := [(0, zerosM 3), (1, zerosM 5)]
def awk3 : List (Nat × List Int) := [(0, zerosM 3), (1, (zerosM 5).set 0 7)]
def awk4 : List (Nat × List Int) := [(1, (zerosM 5).set 0 7)]
section
variable {w : World} {B g gs gh c : Nat} {ρ : Nat → Nat} {st : List Int} {L : List (Nat × List Int)}
theorem awk_region (h : Hid (MemIs w B g gs gh ρ st 10 L c)) {k o : Nat} {d : List Int} (hk : Hid (L[k]? = some (1, d) ∧ d.length = 5 ∧ posR L k = o)) :
    Calls Try.prog 11 #[.pointer (some ⟨g, 0, none⟩), .int .i64 1] w fun e w' => e = .returned (.slice (some ⟨gh, o, none⟩) 5 5) ∧ Below w.heap.size w w' := by
  obtain ⟨h1, h2, h3⟩ := hk.out
  have := mregion_is h.out (by decide) h1
  unfold offR at this
  rw [h2, h3, if_neg (by decide)] at this
  exact this
end
set_option maxHeartbeats 6400000 in
theorem memAwake_any (w : World) : Calls Try.prog 7 #[] w fun e w' => e = .returned (.bool true) ∧ Below w.heap.size w w' := by
  have hN := mnew_is 4 10 w
  rw [show manyM 4 = 4 from rfl, show manyM 10 = 10 from rfl] at hN
  have HN := Lib.hid hN
  clear hN
  go_enter Try.func7, Try.ntmps7
  go_upto_region 2 with (go_at_call 8; (with_reducible refine HN.out.mono ?_); rintro e w1 ⟨g, gs, gh, ρ, rfl, hM, hb⟩; have HM := Lib.hid hM; have HX := Lib.hid hb; clear hM hb)
  have HG := Lib.hid (mgive_next 3 (k := 0) HM.out (by decide) (by decide) (fun m => ⟨fun q => absurd q (hasR_nil m), fun q => absurd q (Nat.not_lt_zero m)⟩) (by decide))
  go_upto_region 3 with (go_at_call 9; (refine HG.out.mono ?_); rintro e w2 ⟨rfl, ρ2, hM, hS⟩; have HM2 : Hid (MemIs w2 w.heap.size g gs gh ρ2 (zerosM 4) 10 awk1 1) := Lib.hid hM; have HX2 := Lib.hid (HX.out.trans (hS.low HM.out.low.1 HM.out.low.2.2.1)); clear hM hS)
  clear HG HM HX
  have HG := Lib.hid (mgive_next 5 (k := 1) HM2.out (by decide) (by decide) (fun m => by unfold awk1; rw [show [(0, zerosM 3)] = [] ++ [(0, zerosM 3)] from rfl, hasR_snoc]; exact ⟨fun q => by rcases q with q | q; exact absurd q (hasR_nil m); omega, fun q => .inr (by omega)⟩) (by decide))
  go_upto_region 4 with (go_at_call 9; (refine HG.out.mono ?_); rintro e w3 ⟨rfl, ρ3, hM, hS⟩; have HM3 : Hid (MemIs w3 w.heap.size g gs gh ρ3 (zerosM 4) 10 awk2 2) := Lib.hid hM; have HX3 := Lib.hid (HX2.out.trans (hS.low HM2.out.low.1 HM2.out.low.2.2.1)); clear hM hS)
  clear HG HM2 HX2
  have HK2 : Hid (awk2[1]? = some (1, zerosM 5) ∧ (zerosM 5).length = 5 ∧ posR awk2 1 = 3) := Lib.hid ⟨rfl, rfl, rfl⟩
  go_upto_region 6 with (go_at_call 11; (with_reducible refine (awk_region HM3 HK2).mono ?_); rintro e w4 ⟨rfl, hb⟩; have HM4 := Lib.hid (HM3.out.keep hb); have HX4 := Lib.hid (HX3.out.trans (hb.mono HX3.out.size)); clear hb)
  clear HM3 HX3
  go_upto_region 7 with (go_at_call 11; (with_reducible refine (awk_region HM4 HK2).mono ?_); rintro e w5 ⟨rfl, hb⟩; have HM5 := Lib.hid (HM4.out.keep hb); have HX5 := Lib.hid (HX4.out.trans (hb.mono HX4.out.size)); clear hb; obtain ⟨c3, f3⟩ := HM5.out.cell (k := 1) (i := 1) (j := 0) (d := zerosM 5) (x := 0) rfl rfl; rw [show posR awk2 1 + 0 = 3 from rfl] at c3 f3)
  have HP := HM5.out.put (k := 1) (i := 1) (j := 0) (d := zerosM 5) rfl (by decide) 7
  rw [show posR awk2 1 + 0 = 3 from rfl] at HP
  have HM6 : Hid (MemIs (w5.setCell ⟨gh, 3, none⟩ (.int .i32 7)) w.heap.size g gs gh ρ3 (zerosM 4) 10 awk3 2) := Lib.hid HP.1
  have HX6 := Lib.hid (HX5.out.trans (HP.2.low HM5.out.low.1 HM5.out.low.2.2.1))
  clear HP HM5 HX5 HM4 HX4 c3 f3
  generalize w5.setCell ⟨gh, 3, none⟩ (.int .i32 7) = w6 at *
  have HD := Lib.hid (mdrop_is HM6.out (by decide) (by decide) (k := 0) (i := 0) (d := zerosM 3) rfl)
  go_upto_region 8 with (go_at_call 10; (refine HD.out.mono ?_); rintro e w7 ⟨rfl, hM, hS⟩; have HM7 : Hid (MemIs w7 w.heap.size g gs gh ρ3 (zerosM 4) 10 awk4 2) := Lib.hid hM; have HX7 := Lib.hid (HX6.out.trans (hS.low HM6.out.low.1 HM6.out.low.2.2.1)); clear hM hS)
  clear HD HM6 HX6
  have HPL := Lib.hid (mplace_is HM7.out (k := 0) (i := 1) rfl)
  rw [show posR awk4 0 = 0 from rfl] at HPL
  go_upto_region 9 with (go_at_call 16; (refine HPL.out.mono ?_); rintro e w8 ⟨rfl, hb⟩; have HM8 := Lib.hid (HM7.out.keep hb); have HX8 := Lib.hid (HX7.out.trans (hb.mono HX7.out.size)); clear hb)
  clear HPL HM7 HX7
  have HG := Lib.hid (mgive_no 6 HM8.out (by decide) (by decide) (by decide))
  go_upto_region 10 with (go_at_call 9; (refine HG.out.mono ?_); rintro e w9 ⟨rfl, hb⟩; have HM9 := Lib.hid (HM8.out.keep hb); have HX9 := Lib.hid (HX8.out.trans (hb.mono HX8.out.size)); clear hb)
  clear HG HM8 HX8
  have HK4 : Hid (awk4[0]? = some (1, (zerosM 5).set 0 7) ∧ ((zerosM 5).set 0 7).length = 5 ∧ posR awk4 0 = 0) := Lib.hid ⟨rfl, rfl, rfl⟩
  have HX : Hid (Below w9.heap.size w9 w9) := Lib.hid (Below.refl _ _)
  have HM := HM9
  go_wp2_with (first
    | (go_at_call 11; (with_reducible refine (awk_region HM HK4).mono ?_); rintro e wx ⟨rfl, hb⟩; have HX := Lib.hid (HX.out.trans (hb.mono HX.out.size)); have HM := Lib.hid (HM.out.keep hb); clear hb; obtain ⟨c0, f0⟩ := HM.out.cell (k := 0) (i := 1) (j := 0) (d := (zerosM 5).set 0 7) (x := 7) rfl rfl; rw [show posR awk4 0 + 0 = 0 from rfl] at c0 f0)
    | (go_at_call 15; (with_reducible refine (mused_is HM.out).mono ?_); rintro e wx ⟨rfl, hb⟩; have HX := Lib.hid (HX.out.trans (hb.mono HX.out.size)); have HM := Lib.hid (HM.out.keep hb); clear hb c0 f0; simp only [show (flatR awk4).length = 5 from rfl])
    | (go_at_call 14; (with_reducible refine (mroom_is HM.out (by decide)).mono ?_); rintro e wx ⟨rfl, hb⟩; have HX := Lib.hid (HX.out.trans (hb.mono HX.out.size)); have HM := Lib.hid (HM.out.keep hb); clear hb; simp only [show (flatR awk4).length = 5 from rfl])
    | (go_at_call 13; (with_reducible refine (mstack_is HM.out).mono ?_); rintro e wx ⟨rfl, hb⟩; have HX := Lib.hid (HX.out.trans (hb.mono HX.out.size)); have HM := Lib.hid (HM.out.keep hb); clear hb; simp only [show (zerosM 4).length = 4 from rfl])
    | (go_at_call 17; (refine (rin_any [3] 3 _ _ _ _ (by decide) (lies_v1 _ _ _)).mono ?_); rintro e wy ⟨he, hb⟩; rw [show inB [3] 3 = true from rfl] at he; subst he; have HX := Lib.hid (HX.out.alloc HX.out.size (.cells #[.int .i64 3] 3)); subst hb))
  go_ret
  exact ⟨by first | rfl | simp, HX9.out.trans (HX.out.mono HX9.out.size)⟩
end Go.Proofs.Ytmjoollhkjgohaa
