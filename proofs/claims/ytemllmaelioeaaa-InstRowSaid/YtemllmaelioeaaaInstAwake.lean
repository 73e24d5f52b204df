/-
  The fixed fact of the statements on instructions (awake) is true, whatever the world; it makes new memory alone.
-/
import Derived.Test.YtemllmaelioeaaaInstCtx
import Derived.Deep.RegionHeld3
namespace Go.Proofs.Ytemllmaelioeaaa
open Go.ChangeShapes Go.WideShapes Go.ChangeAt Go.RowKit
set_option linter.unusedVariables false

theorem put_k : putI 27 3 200 = [27, 3, 200, 1] := by
  unfold putI
  rw [if_pos (by decide), if_pos (by decide), bytesOf_small (by decide), bytesOf_small (by decide), bytesOf_great (by decide), bytesOf_small (by decide)]
  rfl
theorem instr_k : instrB 27 3 200 = true := by decide
theorem getI_k : getI [27, 3, 200, 1] false = ((27, 3, 200), [], false) := by
  have h := getI_put [] instr_k
  rw [put_k] at h
  exact h

theorem iawake_any (w : World) : Calls Try.prog 7 #[] w fun e w' => e = .returned (.bool true) ∧ Below w.heap.size w w' := by
  have HX1 := Lib.hid (ins_new w (.int .i64 27) (.int .i64 3) (.int .i64 200) 23)
  have HW1 := Lib.hid ((Below.refl w.heap.size w).alloc (Nat.le_refl _) (.cells #[.int .i64 27, .int .i64 3, .int .i64 200] 23))
  have hz : w.heap.size < (w.alloc (.cells #[.int .i64 27, .int .i64 3, .int .i64 200] 23)).heap.size := by simp
  go_enter Try.func7, Try.ntmps7
  go_wp2_with fail
  refine (iput_any [] (.slice none 0 0) 27 3 200 _ _ (by decide) (by decide) (by decide) (by decide) (Nat.le_refl _) (World.ownsRow_nil _ _ _ _)).mono ?_
  rintro e w2 ⟨v2, rfl, ho2, hb2⟩
  rw [put_k] at ho2
  obtain ⟨g, cap, rfl, hc1, hc2, hg, hgl, hl2⟩ := own_bytes (l := [27, 3, 200, 1]) ho2 (by decide)
  have X2 := HX1.out.keep hb2 hz
  have z2 : w.heap.size < w2.heap.size := Nat.lt_of_lt_of_le hz hb2.size
  have HX2 := Lib.hid X2
  have HZ2 := Lib.hid z2
  have HW2 := Lib.hid (HW1.out.trans (hb2.mono (Nat.le_of_lt hz)))
  have HL := Lib.hid hl2
  obtain ⟨q0, q1, q2⟩ := X2
  have HC : Hid (Below w2.heap.size w2 w2.drew) := Lib.hid (Below.refl _ _).drew
  have K33 : Hid (argsI 33 = 0) := Lib.hid (by decide)
  have K99 : Hid (argsI 99 = -1) := Lib.hid (by decide)
  have KI : Hid (instrB 27 3 200 = true) := Lib.hid instr_k
  have KM : Hid (([27, 3, 200, 1] : List Int).length = 4) := Lib.hid rfl
  have KL : Hid (4 ≤ 1000000) := Lib.hid (by decide)
  have KL' : Hid (([27, 3, 200, 1] : List Int).length ≤ 1000000) := Lib.hid (by decide)
  have KR : Hid (∀ b ∈ ([27, 3, 200, 1] : List Int), 0 ≤ b ∧ b ≤ 255) := Lib.hid (by decide)
  have KA : Hid (some (⟨g, 0, none⟩ : Addr) = none → cap = 0) := Lib.hid (fun h => by cases h)
  have KG : Hid (getI [27, 3, 200, 1] false = ((27, 3, 200), [], false)) := Lib.hid getI_k
  clear hb2 ho2 hl2 z2 hz
  go_wp2_with fail
  go_region_held3 (fun w' => w'.cell? ⟨w.heap.size, 0, none⟩ = some (.int .i64 27) ∧ w'.cell? ⟨w.heap.size, 1, none⟩ = some (.int .i64 3) ∧ w'.cell? ⟨w.heap.size, 2, none⟩ = some (.int .i64 200))
    (first | go_keep | exact ⟨q0, q1, q2⟩)
    (first
    | (go_at_call 8; (with_reducible refine (iargs_is (by assumption) K33).mono ?_); rintro e w' ⟨rfl, hc⟩; obtain ⟨q0, q1, q2⟩ := HX2.out.keep hc HZ2.out; have HC' := Lib.hid hc; clear hc)
    | (go_at_call 8; (with_reducible refine (iargs_is (by assumption) K99).mono ?_); rintro e w' ⟨rfl, hc⟩; obtain ⟨q0, q1, q2⟩ := HX2.out.keep hc HZ2.out; have HC' := Lib.hid hc; clear hc)
    | (go_at_call 10; (with_reducible refine (igood_is (by assumption) KI).mono ?_); rintro e w' ⟨rfl, hc⟩; obtain ⟨q0, q1, q2⟩ := HX2.out.keep hc HZ2.out; have HC' := Lib.hid hc; clear hc)
    | (go_at_call 14; (with_reducible refine (bnew_ctx (by assumption) HL KM KL KR KA).mono ?_); rintro e w' ⟨N, rfl, hN, hr, hc⟩; have HN := Lib.hid hN; have HR := Lib.hid hr; obtain ⟨q0, q1, q2⟩ := HX2.out.keep hc HZ2.out; have HC' := Lib.hid hc; clear hc hr hN)
    | (go_at_call 15; (with_reducible refine (iget_ctx (by assumption) HN KL' KR HR KG).mono ?_); rintro e w' ⟨rfl, hr, hc⟩; obtain ⟨q0, q1, q2⟩ := HX2.out.keep hc HZ2.out; have HC' := Lib.hid hc; clear hc hr)
    | (go_at_call 11; (with_reducible refine (rinstr_is (by assumption) KI).mono ?_); rintro e w' ⟨rfl, hc⟩; obtain ⟨q0, q1, q2⟩ := HX2.out.keep hc HZ2.out; have HC' := Lib.hid hc; clear hc))
  go_wp2
  go_ret
  exact ⟨rfl, HW2.out.trans (Hid.out ‹Hid (Below _ _ _)› |>.mono HW2.out.size)⟩
end Go.Proofs.Ytemllmaelioeaaa
