/-
  New arenas: how many cells they have, all 0.
-/
import Derived.Test.YtmjoollhkjgohaaMemRow
import Derived.IntWalk
import Derived.RegionTactic
import Derived.ChangeAlike
import Derived.Deep.RegionHeld3
import Derived.Deep.QuietTactic
import Derived.BigQuiet
import Derived.Deep.Cut
namespace Go.Proofs.Ytmjoollhkjgohaa
set_option maxRecDepth 100000
set_option linter.unusedVariables false
set_option linter.unusedSimpArgs false
open Go.ChangeShapes Go.WideShapes Go.ChangeAt Go.RowKit
set_option linter.unusedVariables false
set_option linter.unusedSimpArgs false

theorem info_i32M : (Try.prog.info? 21).map (fun i => (i.zero, i.size, i.bytes)) = some (some (.int .i32 0), 1, 4) := by kernel_rfl
/-- So many cells, or the nearest number of them that may be. -/
def manyM (n : Int) : Nat := if n < 0 then 0 else if 65536 < n then 65536 else n.toNat
theorem manyM_le (n : Int) : manyM n ≤ 65536 := by unfold manyM; split <;> (try split) <;> omega
def zerosM (n : Nat) : List Int := List.replicate n 0
theorem zerosM_len (n : Nat) : (zerosM n).length = n := List.length_replicate
theorem zeros_made (n : Nat) : (madeCells (Value.int .i32 0).cells (n * 1)).toList = i32V (zerosM n) := by
  rw [made_one (v := .int .i32 0) rfl]
  unfold i32V zerosM
  rw [List.map_replicate]
theorem marena_any (n : Int) (w : World) :
    Calls Try.prog 18 #[.int .i64 n] w fun e w' => ∃ q, e = .returned (.slice (some ⟨q, 0, none⟩) (manyM n) (manyM n)) ∧ w.heap.size ≤ q ∧ Whole w' q (i32V (zerosM (manyM n))) 21 ∧ Below w.heap.size w w' := by
  obtain ⟨i0, hi, hz0, hz1, hz2⟩ := info_parts info_i32M
  obtain ⟨k, hk⟩ : ∃ k, manyM n = k := ⟨_, rfl⟩
  have hk2 : k ≤ 65536 := hk ▸ manyM_le n
  have hk3 : (n < 0 ∧ k = 0) ∨ (¬ n < 0 ∧ 65536 < n ∧ k = 65536) ∨ (¬ n < 0 ∧ ¬ 65536 < n ∧ n = (k : Int)) := by
    rw [← hk]
    unfold manyM
    by_cases h0 : n < 0
    · exact .inl ⟨h0, by rw [if_pos h0]⟩
    · by_cases h1 : 65536 < n
      · exact .inr (.inl ⟨h0, h1, by rw [if_neg h0, if_pos h1]⟩)
      · exact .inr (.inr ⟨h0, h1, by rw [if_neg h0, if_neg h1]; omega⟩)
  rw [hk]
  clear hk
  rcases hk3 with ⟨h0, rfl⟩ | ⟨h0, h1, rfl⟩ | ⟨h0, h1, rfl⟩
  · go_enter Try.func18, Try.ntmps18
    go_wp2_with (at_make; refine wpList_make_full _ rfl _ _ 29 rfl w.heap.size 21 i0 (.int .i32 0) 1 Try.underlying29 hi hz0 hz1 .i64 .i64 _ _ 0 rfl rfl rfl rfl (by rw [hz2]; omega) (by unfold maxLen; omega) (Nat.le_refl _) ?_; intro w2 hown hgrow; have HO2 := Lib.hid hown; have HB2 := Lib.hid ((Below.refl w.heap.size w).grown hgrow (Nat.le_refl _) (fun k hk => by cases hk)); clear hown hgrow)
    go_ret
    exact ⟨w.heap.size, rfl, Nat.le_refl _, by have := own_whole1 HO2.out; rw [zeros_made] at this; exact this, HB2.out⟩
  · go_enter Try.func18, Try.ntmps18
    go_wp2_with (at_make; refine wpList_make_full _ rfl _ _ 29 rfl w.heap.size 21 i0 (.int .i32 0) 1 Try.underlying29 hi hz0 hz1 .i64 .i64 _ _ 65536 rfl rfl rfl rfl (by rw [hz2]; omega) (by unfold maxLen; omega) (Nat.le_refl _) ?_; intro w2 hown hgrow; have HO2 := Lib.hid hown; have HB2 := Lib.hid ((Below.refl w.heap.size w).grown hgrow (Nat.le_refl _) (fun k hk => by cases hk)); clear hown hgrow)
    go_ret
    exact ⟨w.heap.size, rfl, Nat.le_refl _, by have := own_whole1 HO2.out; rw [zeros_made] at this; exact this, HB2.out⟩
  · go_enter Try.func18, Try.ntmps18
    go_wp2_with (at_make; refine wpList_make_full _ rfl _ _ 29 rfl w.heap.size 21 i0 (.int .i32 0) 1 Try.underlying29 hi hz0 hz1 .i64 .i64 _ _ k rfl rfl rfl rfl (by rw [hz2]; omega) (by unfold maxLen; omega) (Nat.le_refl _) ?_; intro w2 hown hgrow; have HO2 := Lib.hid hown; have HB2 := Lib.hid ((Below.refl w.heap.size w).grown hgrow (Nat.le_refl _) (fun k hk => by cases hk)); clear hown hgrow)
    go_ret
    exact ⟨w.heap.size, rfl, Nat.le_refl _, by have := own_whole1 HO2.out; rw [zeros_made] at this; exact this, HB2.out⟩
/-- New arenas stand for nothing but free cells. -/
theorem mnew_any (s h : Int) (B : Nat) (w : World) (hB : B ≤ w.heap.size) :
    Calls Try.prog 8 #[.int .i64 s, .int .i64 h] w fun e w' => ∃ g gs gh ρ, e = .returned (.pointer (some ⟨g, 0, none⟩)) ∧ MemIn w' B g gs gh ⟨zerosM (manyM s), zerosM (manyM h), [], 0, 0⟩ none 0 ρ ∧ Below w.heap.size w w' ∧ ∀ b, b < w.heap.size → ρ b = 0 := by
  go_enter Try.func8, Try.ntmps8
  go_wp2_with (first
    | (go_at_call 18; (with_reducible refine (marena_any s w).mono ?_); rintro e w1 ⟨q, rfl, hq, hw, hb⟩; have HQ1 := Lib.hid hw; have HL1 := Lib.hid hq; have HB1 := Lib.hid hb; clear hq hw hb)
    | (go_at_call 18; (with_reducible refine (marena_any h w1).mono ?_); rintro e w2 ⟨q2, rfl, hq, hw, hb⟩; have HQ2 := Lib.hid hw; have HL2 := Lib.hid hq; have HB2 := Lib.hid hb; clear hq hw hb))
  go_ret
  have l1 := Whole.lt HQ1.out
  have l2 := Whole.lt HQ2.out
  have g1 := HL1.out
  have g2 := HL2.out
  have s1 := HB1.out.size
  have s2 := HB2.out.size
  have hb2 : Below w.heap.size w w2 := HB1.out.trans (HB2.out.mono s1)
  have hn1 : q ≠ w2.heap.size := by omega
  have hn2 : q2 ≠ w2.heap.size := by omega
  have hn3 : q2 ≠ q := by omega
  have hB3 : Below w2.heap.size w2 (w2.alloc (.cells #[.slice (some ⟨q, 0, none⟩) (manyM s) (manyM s), .slice (some ⟨q2, 0, none⟩) (manyM h) (manyM h), .slice none 0 0, .int .i64 0, .int .i64 0] 47)) := (Below.refl _ _).alloc (Nat.le_refl _) _
  refine ⟨w2.heap.size, q, q2, fun b => if b = w2.heap.size then 1 else if b = q then 2 else if b = q2 then 3 else 0, rfl, ⟨fun b hb => ?_, fun b hb => ?_, by simp; omega, ?_, ?_, ?_, World.ownsRow_nil _ _ _ _, if_pos rfl, ?_, ?_, fun b hb => by cases hb⟩, hb2.alloc (by omega) _, fun b hb => ?_⟩
  · (try dsimp only); rw [if_neg (by omega), if_neg (by omega), if_neg (by omega)]
  · simp at hb
    (try dsimp only); rw [if_neg (by omega), if_neg (by omega), if_neg (by omega)]
  · have := Whole.new w2 (memV ⟨zerosM (manyM s), zerosM (manyM h), [], 0, 0⟩ q q2 none 0) 47
    unfold memV at this ⊢
    dsimp only at this ⊢
    rw [zerosM_len, zerosM_len] at this ⊢
    exact this
  · exact Whole.keep (Whole.keep HQ1.out HB2.out l1) hB3 (by omega)
  · exact Whole.keep HQ2.out hB3 l2
  · (try dsimp only); rw [if_neg hn1, if_pos rfl]
  · (try dsimp only); rw [if_neg hn2, if_neg hn3, if_pos rfl]
  · (try dsimp only); rw [if_neg (by omega), if_neg (by omega), if_neg (by omega)]
end Go.Proofs.Ytmjoollhkjgohaa
