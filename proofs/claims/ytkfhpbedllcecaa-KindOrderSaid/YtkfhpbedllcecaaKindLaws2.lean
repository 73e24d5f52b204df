/-
  The statements on types, walked: each answers true whatever classes and types it is given.
-/
import Derived.Test.YtkfhpbedllcecaaKindAwake
import Derived.Test.YtkfhpbedllcecaaKindMath
import Derived.Deep.RegionHeld3
namespace Go.Proofs.Ytkfhpbedllcecaa
open Go.ChangeShapes Go.WideShapes Go.ChangeAt Go.RowKit
set_option linter.unusedVariables false

theorem kindBelow_walk (sup : List Int) (A : Option Addr) (cap : Nat) (a b : Int) (w : World) (hc : sup.length ≤ cap) (hm : cap ≤ 9223372036854775807) (h : Supers w w.heap.size A sup) :
    Calls Try.prog 4 #[.slice A sup.length cap, .int .i64 a, .int .i64 b] w fun e w' => e = .returned (.bool true) ∧ Below w.heap.size w w' := by
  have HW := Lib.hid (Below.refl w.heap.size w)
  have HS : Hid (Supers w w.heap.size A (sup.take 40)) := Lib.hid (supers_take h 40)
  have HB : Hid (w.heap.size ≤ w.heap.size) := Lib.hid (Nat.le_refl _)
  have HL : Hid ((sup.take 40).length ≤ 1048576) := Lib.hid (by rw [List.length_take]; omega)
  have HC : Hid (Below w.heap.size w w) := Lib.hid (Below.refl _ _)
  have HF := Lib.hid (few_any sup A cap w hc hm)
  clear h hc hm
  generalize hsup : sup.take 40 = sup' at *
  clear hsup
  have HLA := Lib.hid (aboveI_len sup' a)
  go_enter Try.func4, Try.ntmps4
  go_wp2_with (first | (go_at_call 8; (with_reducible refine (HF.out).mono ?_); rintro e w' ⟨rfl, rfl⟩) | (go_at_call 9; (with_reducible refine (calls_ctx (Hid.out (by assumption)) (kawake_any _)).mono ?_); rintro e w' ⟨rfl, hc⟩; have HC' := Lib.hid hc; clear hc) | (go_at_call 18; (with_reducible refine (kbelow_ctx (by assumption) (by assumption) (by assumption) (by assumption)).mono ?_); rintro e w' ⟨rfl, hc⟩; have HC' := Lib.hid hc; clear hc) | (go_at_call 20; (with_reducible refine (rabove_ctx (by assumption) (by assumption) (by assumption) (by assumption)).mono ?_); rintro e w' ⟨A', c', rfl, hc, hl⟩; have HI := Lib.hid hl; have HC' := Lib.hid hc; clear hc hl) | (go_at_call 19; (with_reducible refine (rin_any _ _ _ _ _ _ (by have := HLA.out; have := HL.out; omega) HI.out).mono ?_); rintro e w' ⟨rfl, rfl⟩))
  go_ret
  exact ⟨rfl, HW.out.trans (Hid.out ‹Hid (Below _ _ _)› |>.mono HB.out)⟩

theorem below_self (sup : List Int) (a : Int) : inB (aboveI sup a) a = decide (0 ≤ a ∧ a < sup.length) := by
  by_cases h : 0 ≤ a ∧ a < sup.length
  · rw [decide_eq_true h, inB_iff]
    exact above_self h.1 h.2
  · rw [decide_eq_false h, aboveI_bad (by omega)]
    rfl

theorem kindOrder_walk (sup : List Int) (A : Option Addr) (cap : Nat) (a b c : Int) (w : World) (hc : sup.length ≤ cap) (hm : cap ≤ 9223372036854775807) (h : Supers w w.heap.size A sup) :
    Calls Try.prog 7 #[.slice A sup.length cap, .int .i64 a, .int .i64 b, .int .i64 c] w fun e w' => e = .returned (.bool true) ∧ Below w.heap.size w w' := by
  have HW := Lib.hid (Below.refl w.heap.size w)
  have HS : Hid (Supers w w.heap.size A (sup.take 40)) := Lib.hid (supers_take h 40)
  have HB : Hid (w.heap.size ≤ w.heap.size) := Lib.hid (Nat.le_refl _)
  have HL : Hid ((sup.take 40).length ≤ 1048576) := Lib.hid (by rw [List.length_take]; omega)
  have HC : Hid (Below w.heap.size w w) := Lib.hid (Below.refl _ _)
  have HF := Lib.hid (few_any sup A cap w hc hm)
  clear h hc hm
  generalize hsup : sup.take 40 = sup' at *
  clear hsup
  have hlen : (sup'.length : Int) ≤ 1048576 := by have := HL.out; omega
  have self := below_self sup' a
  by_cases hab : b ∈ aboveI sup' a
  · have AB := Lib.hid (inB_iff.mpr hab)
    obtain ⟨r0, r1, r2⟩ := above_range hab
    have AA := Lib.hid (self.trans (decide_eq_true (by omega)))
    clear self
    by_cases hbc : c ∈ aboveI sup' b
    · have BC := Lib.hid (inB_iff.mpr hbc)
      have AC := Lib.hid (inB_iff.mpr (above_trans hab hbc))
      by_cases hba : a ∈ aboveI sup' b
      · have BA := Lib.hid (inB_iff.mpr hba)
        obtain rfl := above_anti hab hba
        clear hab hbc hba
        go_enter Try.func7, Try.ntmps7
        go_wp2_with (first | (go_at_call 8; (with_reducible refine (HF.out).mono ?_); rintro e w' ⟨rfl, rfl⟩) | (go_at_call 9; (with_reducible refine (calls_ctx (Hid.out (by assumption)) (kawake_any _)).mono ?_); rintro e w' ⟨rfl, hc⟩; have HC' := Lib.hid hc; clear hc) | (go_at_call 18; (with_reducible refine (kbelow_ctx (by assumption) (by assumption) (by assumption) (by assumption)).mono ?_); rintro e w' ⟨he, hc⟩; (first | rw [AB.out] at he | rw [BC.out] at he | rw [AC.out] at he | rw [BA.out] at he | rw [AA.out] at he); subst he; have HC' := Lib.hid hc; clear hc))
        go_ret
        exact ⟨rfl, HW.out.trans (Hid.out ‹Hid (Below _ _ _)› |>.mono HB.out)⟩
      · have BA := Lib.hid (show inB (aboveI sup' b) a = false from decide_eq_false hba)
        clear hab hbc hba
        go_enter Try.func7, Try.ntmps7
        go_wp2_with (first | (go_at_call 8; (with_reducible refine (HF.out).mono ?_); rintro e w' ⟨rfl, rfl⟩) | (go_at_call 9; (with_reducible refine (calls_ctx (Hid.out (by assumption)) (kawake_any _)).mono ?_); rintro e w' ⟨rfl, hc⟩; have HC' := Lib.hid hc; clear hc) | (go_at_call 18; (with_reducible refine (kbelow_ctx (by assumption) (by assumption) (by assumption) (by assumption)).mono ?_); rintro e w' ⟨he, hc⟩; (first | rw [AB.out] at he | rw [BC.out] at he | rw [AC.out] at he | rw [BA.out] at he | rw [AA.out] at he); subst he; have HC' := Lib.hid hc; clear hc))
        go_ret
        exact ⟨rfl, HW.out.trans (Hid.out ‹Hid (Below _ _ _)› |>.mono HB.out)⟩
    · have BC := Lib.hid (show inB (aboveI sup' b) c = false from decide_eq_false hbc)
      by_cases hba : a ∈ aboveI sup' b
      · have BA := Lib.hid (inB_iff.mpr hba)
        obtain rfl := above_anti hab hba
        clear hab hbc hba
        go_enter Try.func7, Try.ntmps7
        go_wp2_with (first | (go_at_call 8; (with_reducible refine (HF.out).mono ?_); rintro e w' ⟨rfl, rfl⟩) | (go_at_call 9; (with_reducible refine (calls_ctx (Hid.out (by assumption)) (kawake_any _)).mono ?_); rintro e w' ⟨rfl, hc⟩; have HC' := Lib.hid hc; clear hc) | (go_at_call 18; (with_reducible refine (kbelow_ctx (by assumption) (by assumption) (by assumption) (by assumption)).mono ?_); rintro e w' ⟨he, hc⟩; (first | rw [AB.out] at he | rw [BC.out] at he | rw [BA.out] at he | rw [AA.out] at he); subst he; have HC' := Lib.hid hc; clear hc))
        go_ret
        exact ⟨rfl, HW.out.trans (Hid.out ‹Hid (Below _ _ _)› |>.mono HB.out)⟩
      · have BA := Lib.hid (show inB (aboveI sup' b) a = false from decide_eq_false hba)
        clear hab hbc hba
        go_enter Try.func7, Try.ntmps7
        go_wp2_with (first | (go_at_call 8; (with_reducible refine (HF.out).mono ?_); rintro e w' ⟨rfl, rfl⟩) | (go_at_call 9; (with_reducible refine (calls_ctx (Hid.out (by assumption)) (kawake_any _)).mono ?_); rintro e w' ⟨rfl, hc⟩; have HC' := Lib.hid hc; clear hc) | (go_at_call 18; (with_reducible refine (kbelow_ctx (by assumption) (by assumption) (by assumption) (by assumption)).mono ?_); rintro e w' ⟨he, hc⟩; (first | rw [AB.out] at he | rw [BC.out] at he | rw [BA.out] at he | rw [AA.out] at he); subst he; have HC' := Lib.hid hc; clear hc))
        go_ret
        exact ⟨rfl, HW.out.trans (Hid.out ‹Hid (Below _ _ _)› |>.mono HB.out)⟩
  · have AB := Lib.hid (show inB (aboveI sup' a) b = false from decide_eq_false hab)
    clear hab
    have hcs : (0 ≤ a ∧ a < sup'.length) ∨ a < 0 ∨ (0 ≤ a ∧ (sup'.length : Int) ≤ a) := by omega
    rcases hcs with ⟨h0, h1⟩ | h0 | ⟨h0, h1⟩
    · have AA := Lib.hid (self.trans (decide_eq_true (by omega)))
      clear self
      go_enter Try.func7, Try.ntmps7
      go_wp2_with (first | (go_at_call 8; (with_reducible refine (HF.out).mono ?_); rintro e w' ⟨rfl, rfl⟩) | (go_at_call 9; (with_reducible refine (calls_ctx (Hid.out (by assumption)) (kawake_any _)).mono ?_); rintro e w' ⟨rfl, hc⟩; have HC' := Lib.hid hc; clear hc) | (go_at_call 18; (with_reducible refine (kbelow_ctx (by assumption) (by assumption) (by assumption) (by assumption)).mono ?_); rintro e w' ⟨he, hc⟩; (first | rw [AB.out] at he | rw [AA.out] at he); subst he; have HC' := Lib.hid hc; clear hc))
      go_ret
      exact ⟨rfl, HW.out.trans (Hid.out ‹Hid (Below _ _ _)› |>.mono HB.out)⟩
    · have AA := Lib.hid (self.trans (decide_eq_false (by omega)))
      clear self
      have g0 : decide (0 ≤ a) = false := decide_eq_false (by omega)
      go_enter Try.func7, Try.ntmps7
      go_wp2_with (first | (go_at_call 8; (with_reducible refine (HF.out).mono ?_); rintro e w' ⟨rfl, rfl⟩) | (go_at_call 9; (with_reducible refine (calls_ctx (Hid.out (by assumption)) (kawake_any _)).mono ?_); rintro e w' ⟨rfl, hc⟩; have HC' := Lib.hid hc; clear hc) | (go_at_call 18; (with_reducible refine (kbelow_ctx (by assumption) (by assumption) (by assumption) (by assumption)).mono ?_); rintro e w' ⟨he, hc⟩; (first | rw [AB.out] at he | rw [AA.out] at he); subst he; have HC' := Lib.hid hc; clear hc))
      go_ret
      exact ⟨rfl, HW.out.trans (Hid.out ‹Hid (Below _ _ _)› |>.mono HB.out)⟩
    · have AA := Lib.hid (self.trans (decide_eq_false (by omega)))
      clear self
      have g0 : decide (a < (sup'.length : Int)) = false := decide_eq_false (by omega)
      go_enter Try.func7, Try.ntmps7
      go_wp2_with (first | (go_at_call 8; (with_reducible refine (HF.out).mono ?_); rintro e w' ⟨rfl, rfl⟩) | (go_at_call 9; (with_reducible refine (calls_ctx (Hid.out (by assumption)) (kawake_any _)).mono ?_); rintro e w' ⟨rfl, hc⟩; have HC' := Lib.hid hc; clear hc) | (go_at_call 18; (with_reducible refine (kbelow_ctx (by assumption) (by assumption) (by assumption) (by assumption)).mono ?_); rintro e w' ⟨he, hc⟩; (first | rw [AB.out] at he | rw [AA.out] at he); subst he; have HC' := Lib.hid hc; clear hc))
      go_ret
      exact ⟨rfl, HW.out.trans (Hid.out ‹Hid (Below _ _ _)› |>.mono HB.out)⟩

end Go.Proofs.Ytkfhpbedllcecaa
