/-
  The statements on types, walked: each answers true whatever classes and types it is given.
-/
import Derived.Test.YtkfhpbedllcecaaKindAwake
import Derived.Test.YtkfhpbedllcecaaKindMath
import Derived.Test.YtkfhpbedllcecaaKindLaws
import Derived.Deep.RegionHeld3
namespace Go.Proofs.Ytkfhpbedllcecaa
open Go.ChangeShapes Go.WideShapes Go.ChangeAt Go.RowKit
set_option linter.unusedVariables false

set_option maxRecDepth 100000 in
set_option maxHeartbeats 3200000 in
theorem kindTurned_walk (sup : List Int) (A : Option Addr) (cap : Nat) (k n k' n' : Int) (w : World) (hc : sup.length ≤ cap) (hm : cap ≤ 9223372036854775807) (h : Supers w w.heap.size A sup) :
    Calls Try.prog 6 #[.slice A sup.length cap, tyV k n, tyV k' n'] w fun e w' => e = .returned (.bool true) ∧ Below w.heap.size w w' := by
  have hW : Below w.heap.size w ((w.alloc (.cells #[.int .i64 k, .int .i64 n] 24)).alloc (.cells #[.int .i64 k', .int .i64 n'] 24)) := ((Below.refl _ _).alloc (Nat.le_refl _) _).alloc (by simp) _
  have HW := Lib.hid hW
  have HS : Hid (Supers ((w.alloc (.cells #[.int .i64 k, .int .i64 n] 24)).alloc (.cells #[.int .i64 k', .int .i64 n'] 24)) w.heap.size A (sup.take 40)) := Lib.hid (supers_take (h.below_to hW (Nat.le_refl _)) 40)
  have HB : Hid (w.heap.size ≤ ((w.alloc (.cells #[.int .i64 k, .int .i64 n] 24)).alloc (.cells #[.int .i64 k', .int .i64 n'] 24)).heap.size) := Lib.hid hW.size
  have HL : Hid ((sup.take 40).length ≤ 1048576) := Lib.hid (by rw [List.length_take]; omega)
  have HC : Hid (Below ((w.alloc (.cells #[.int .i64 k, .int .i64 n] 24)).alloc (.cells #[.int .i64 k', .int .i64 n'] 24)).heap.size ((w.alloc (.cells #[.int .i64 k, .int .i64 n] 24)).alloc (.cells #[.int .i64 k', .int .i64 n'] 24)) ((w.alloc (.cells #[.int .i64 k, .int .i64 n] 24)).alloc (.cells #[.int .i64 k', .int .i64 n'] 24)).drew) := Lib.hid (Below.refl _ _).drew
  have HF := Lib.hid (few_any sup A cap ((w.alloc (.cells #[.int .i64 k, .int .i64 n] 24)).alloc (.cells #[.int .i64 k', .int .i64 n'] 24)) hc hm)
  clear h hW hc hm
  generalize hsup : sup.take 40 = sup' at *
  clear hsup
  by_cases h4 : k = 4 ∧ k' = 4
  · obtain ⟨rfl, rfl⟩ := h4
    have J1 := Lib.hid (show joinR sup' 4 n 4 n' = (4, n') by simp [joinR, subB, isRefB])
    have J2 := J1
    go_enter Try.func6, Try.ntmps6
    go_wp2_with (go_at_call 8; (with_reducible refine (HF.out).mono ?_); rintro e w' ⟨rfl, rfl⟩)
    clear HF
    go_region_held3 (fun w' => w'.cell? ⟨w.heap.size, 0, none⟩ = some (.int .i64 4) ∧ w'.cell? ⟨w.heap.size, 1, none⟩ = some (.int .i64 n) ∧ w'.cell? ⟨w.heap.size + 1, 0, none⟩ = some (.int .i64 4) ∧ w'.cell? ⟨w.heap.size + 1, 1, none⟩ = some (.int .i64 n'))
      (first | go_keep | exact ⟨q0, q1, q2, q3⟩)
      (first
        | (go_at_call 9; (with_reducible refine (calls_ctx (Hid.out (by assumption)) (kawake_any _)).mono ?_); rintro e w' ⟨rfl, hc⟩; obtain ⟨q0, q1, q2, q3⟩ := two_boxes hc; have HC' := Lib.hid hc; clear hc)
        | (go_at_call 16; (with_reducible refine (kjoin_ctx (by assumption) (by assumption) (by assumption) (by assumption)).mono ?_); rintro e w' ⟨he, hc⟩; (first | rw [J1.out] at he | rw [J2.out] at he); subst he; obtain ⟨q0, q1, q2, q3⟩ := two_boxes hc; have HC' := Lib.hid hc; clear hc))
    go_wp2
    go_ret
    exact ⟨rfl, HW.out.trans (Hid.out ‹Hid (Below _ _ _)› |>.mono HB.out)⟩
  · obtain ⟨⟨x, y⟩, hj⟩ : ∃ j, joinR sup' k n k' n' = j := ⟨_, rfl⟩
    have J1 := Lib.hid hj
    have J2 := Lib.hid ((join_turned h4).symm.trans hj)
    clear hj
    have hcs : ¬ k = 4 ∨ (k = 4 ∧ ¬ k' = 4) := by omega
    clear h4
    rcases hcs with g4 | ⟨rfl, g4⟩
    · have d4 : decide (k = 4) = false := decide_eq_false g4
      go_enter Try.func6, Try.ntmps6
      go_wp2_with (go_at_call 8; (with_reducible refine (HF.out).mono ?_); rintro e w' ⟨rfl, rfl⟩)
      clear HF
      go_region_held3 (fun w' => w'.cell? ⟨w.heap.size, 0, none⟩ = some (.int .i64 k) ∧ w'.cell? ⟨w.heap.size, 1, none⟩ = some (.int .i64 n) ∧ w'.cell? ⟨w.heap.size + 1, 0, none⟩ = some (.int .i64 k') ∧ w'.cell? ⟨w.heap.size + 1, 1, none⟩ = some (.int .i64 n'))
        (first | go_keep | exact ⟨q0, q1, q2, q3⟩)
        (first
          | (go_at_call 9; (with_reducible refine (calls_ctx (Hid.out (by assumption)) (kawake_any _)).mono ?_); rintro e w' ⟨rfl, hc⟩; obtain ⟨q0, q1, q2, q3⟩ := two_boxes hc; have HC' := Lib.hid hc; clear hc)
          | (go_at_call 16; (with_reducible refine (kjoin_ctx (by assumption) (by assumption) (by assumption) (by assumption)).mono ?_); rintro e w' ⟨he, hc⟩; (first | rw [J1.out] at he | rw [J2.out] at he); subst he; obtain ⟨q0, q1, q2, q3⟩ := two_boxes hc; have HC' := Lib.hid hc; clear hc))
      go_wp2
      go_ret
      exact ⟨rfl, HW.out.trans (Hid.out ‹Hid (Below _ _ _)› |>.mono HB.out)⟩
    · have d4 : decide (k' = 4) = false := decide_eq_false g4
      go_enter Try.func6, Try.ntmps6
      go_wp2_with (go_at_call 8; (with_reducible refine (HF.out).mono ?_); rintro e w' ⟨rfl, rfl⟩)
      clear HF
      go_region_held3 (fun w' => w'.cell? ⟨w.heap.size, 0, none⟩ = some (.int .i64 4) ∧ w'.cell? ⟨w.heap.size, 1, none⟩ = some (.int .i64 n) ∧ w'.cell? ⟨w.heap.size + 1, 0, none⟩ = some (.int .i64 k') ∧ w'.cell? ⟨w.heap.size + 1, 1, none⟩ = some (.int .i64 n'))
        (first | go_keep | exact ⟨q0, q1, q2, q3⟩)
        (first
          | (go_at_call 9; (with_reducible refine (calls_ctx (Hid.out (by assumption)) (kawake_any _)).mono ?_); rintro e w' ⟨rfl, hc⟩; obtain ⟨q0, q1, q2, q3⟩ := two_boxes hc; have HC' := Lib.hid hc; clear hc)
          | (go_at_call 16; (with_reducible refine (kjoin_ctx (by assumption) (by assumption) (by assumption) (by assumption)).mono ?_); rintro e w' ⟨he, hc⟩; (first | rw [J1.out] at he | rw [J2.out] at he); subst he; obtain ⟨q0, q1, q2, q3⟩ := two_boxes hc; have HC' := Lib.hid hc; clear hc))
      go_wp2
      go_ret
      exact ⟨rfl, HW.out.trans (Hid.out ‹Hid (Below _ _ _)› |>.mono HB.out)⟩
end Go.Proofs.Ytkfhpbedllcecaa
