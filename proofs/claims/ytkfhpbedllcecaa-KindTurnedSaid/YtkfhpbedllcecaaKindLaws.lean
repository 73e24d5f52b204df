/-
  The statements on types, walked: each answers true whatever classes and types it is given.
-/
import Derived.Test.YtkfhpbedllcecaaKindAwake
import Derived.Test.YtkfhpbedllcecaaKindMath
import Derived.Deep.RegionHeld3
namespace Go.Proofs.Ytkfhpbedllcecaa
open Go.ChangeShapes Go.WideShapes Go.ChangeAt Go.RowKit
set_option linter.unusedVariables false

/-- The cells of two structs of two, the newest blocks, behind whatever leaves them alone. -/
theorem two_boxes {w w1 : World} {x y x' y' : Value} {T : TypeId} (hb : Below ((w.alloc (.cells #[x, y] T)).alloc (.cells #[x', y'] T)).heap.size ((w.alloc (.cells #[x, y] T)).alloc (.cells #[x', y'] T)) w1) :
    w1.cell? ⟨w.heap.size, 0, none⟩ = some x ∧ w1.cell? ⟨w.heap.size, 1, none⟩ = some y ∧ w1.cell? ⟨w.heap.size + 1, 0, none⟩ = some x' ∧ w1.cell? ⟨w.heap.size + 1, 1, none⟩ = some y' := by
  have h0 : w.heap.size < ((w.alloc (.cells #[x, y] T)).alloc (.cells #[x', y'] T)).heap.size := by simp; omega
  have h1 : w.heap.size + 1 < ((w.alloc (.cells #[x, y] T)).alloc (.cells #[x', y'] T)).heap.size := by simp
  have e : (w.alloc (.cells #[x, y] T)).heap.size = w.heap.size + 1 := by simp
  refine ⟨(hb.cell h0).trans ?_, (hb.cell h0).trans ?_, (hb.cell h1).trans ?_, (hb.cell h1).trans ?_⟩
  · rw [World.cell?_alloc_past _ _ _ (by simp), World.cell?_alloc_at _ _ _ _ rfl]; rfl
  · rw [World.cell?_alloc_past _ _ _ (by simp), World.cell?_alloc_at _ _ _ _ rfl]; rfl
  · rw [World.cell?_alloc_at _ _ _ _ e.symm]; rfl
  · rw [World.cell?_alloc_at _ _ _ _ e.symm]; rfl


set_option maxRecDepth 100000 in
set_option maxHeartbeats 6400000 in
theorem kindTypes_walk (sup : List Int) (A : Option Addr) (cap : Nat) (k n k' n' c : Int) (w : World) (hc : sup.length ≤ cap) (hm : cap ≤ 9223372036854775807) (h : Supers w w.heap.size A sup) :
    Calls Try.prog 3 #[.slice A sup.length cap, tyV k n, tyV k' n', .int .i64 c] w fun e w' => e = .returned (.bool true) ∧ Below w.heap.size w w' := by
  have hW : Below w.heap.size w ((w.alloc (.cells #[.int .i64 k, .int .i64 n] 24)).alloc (.cells #[.int .i64 k', .int .i64 n'] 24)) := ((Below.refl _ _).alloc (Nat.le_refl _) _).alloc (by simp) _
  have HW := Lib.hid hW
  have HS : Hid (Supers ((w.alloc (.cells #[.int .i64 k, .int .i64 n] 24)).alloc (.cells #[.int .i64 k', .int .i64 n'] 24)) w.heap.size A (sup.take 40)) := Lib.hid (supers_take (h.below_to hW (Nat.le_refl _)) 40)
  have HB : Hid (w.heap.size ≤ ((w.alloc (.cells #[.int .i64 k, .int .i64 n] 24)).alloc (.cells #[.int .i64 k', .int .i64 n'] 24)).heap.size) := Lib.hid hW.size
  have HL : Hid ((sup.take 40).length ≤ 1048576) := Lib.hid (by rw [List.length_take]; omega)
  have HC : Hid (Below ((w.alloc (.cells #[.int .i64 k, .int .i64 n] 24)).alloc (.cells #[.int .i64 k', .int .i64 n'] 24)).heap.size ((w.alloc (.cells #[.int .i64 k, .int .i64 n] 24)).alloc (.cells #[.int .i64 k', .int .i64 n'] 24)) ((w.alloc (.cells #[.int .i64 k, .int .i64 n] 24)).alloc (.cells #[.int .i64 k', .int .i64 n'] 24)).drew) := Lib.hid (Below.refl _ _).drew
  have HF := Lib.hid (few_any sup A cap ((w.alloc (.cells #[.int .i64 k, .int .i64 n] 24)).alloc (.cells #[.int .i64 k', .int .i64 n'] 24)) hc hm)
  clear h hW hc hm
  generalize hsup : sup.take 40 = sup' at *
  clear hsup
  go_enter Try.func3, Try.ntmps3
  go_wp2_with (go_at_call 8; (with_reducible refine (HF.out).mono ?_); rintro e w' ⟨rfl, rfl⟩)
  clear HF
  go_region_held3 (fun w' => w'.cell? ⟨w.heap.size, 0, none⟩ = some (.int .i64 k) ∧ w'.cell? ⟨w.heap.size, 1, none⟩ = some (.int .i64 n) ∧ w'.cell? ⟨w.heap.size + 1, 0, none⟩ = some (.int .i64 k') ∧ w'.cell? ⟨w.heap.size + 1, 1, none⟩ = some (.int .i64 n'))
    (first | go_keep | exact ⟨q0, q1, q2, q3⟩)
    (first
      | (go_at_call 9; (with_reducible refine (calls_ctx (Hid.out (by assumption)) (kawake_any _)).mono ?_); rintro e w' ⟨rfl, hc⟩; obtain ⟨q0, q1, q2, q3⟩ := two_boxes hc; have HC' := Lib.hid hc; clear hc)
      | (go_at_call 10; (with_reducible refine (kgood_ctx (by assumption)).mono ?_); rintro e w' ⟨rfl, hc⟩; obtain ⟨q0, q1, q2, q3⟩ := two_boxes hc; have HC' := Lib.hid hc; clear hc)
      | (go_at_call 11; (with_reducible refine (rgood_ctx (by assumption)).mono ?_); rintro e w' ⟨rfl, hc⟩; obtain ⟨q0, q1, q2, q3⟩ := two_boxes hc; have HC' := Lib.hid hc; clear hc)
      | (go_at_call 12; (with_reducible refine (kisref_ctx (by assumption)).mono ?_); rintro e w' ⟨rfl, hc⟩; obtain ⟨q0, q1, q2, q3⟩ := two_boxes hc; have HC' := Lib.hid hc; clear hc)
      | (go_at_call 13; (with_reducible refine (risref_ctx (by assumption)).mono ?_); rintro e w' ⟨rfl, hc⟩; obtain ⟨q0, q1, q2, q3⟩ := two_boxes hc; have HC' := Lib.hid hc; clear hc)
      | (go_at_call 14; (with_reducible refine (ksub_ctx (by assumption) (by assumption) (by assumption) (by assumption)).mono ?_); rintro e w' ⟨rfl, hc⟩; obtain ⟨q0, q1, q2, q3⟩ := two_boxes hc; have HC' := Lib.hid hc; clear hc)
      | (go_at_call 15; (with_reducible refine (rsub_ctx (by assumption) (by assumption) (by assumption) (by assumption)).mono ?_); rintro e w' ⟨rfl, hc⟩; obtain ⟨q0, q1, q2, q3⟩ := two_boxes hc; have HC' := Lib.hid hc; clear hc)
      | (go_at_call 16; (with_reducible refine (kjoin_ctx (by assumption) (by assumption) (by assumption) (by assumption)).mono ?_); rintro e w' ⟨rfl, hc⟩; obtain ⟨q0, q1, q2, q3⟩ := two_boxes hc; have HC' := Lib.hid hc; clear hc)
      | (go_at_call 17; (with_reducible refine (rjoin_ctx (by assumption) (by assumption) (by assumption) (by assumption)).mono ?_); rintro e w' ⟨rfl, hc⟩; obtain ⟨q0, q1, q2, q3⟩ := two_boxes hc; have HC' := Lib.hid hc; clear hc))
  go_wp2
  go_ret
  exact ⟨rfl, HW.out.trans (Hid.out ‹Hid (Below _ _ _)› |>.mono HB.out)⟩

end Go.Proofs.Ytkfhpbedllcecaa
