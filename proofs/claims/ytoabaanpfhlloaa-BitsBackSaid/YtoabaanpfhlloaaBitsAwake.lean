/-
  The fixed fact of the statements on bytes (awake) is true, whatever the world; it makes new memory alone.
-/
import Derived.Test.YtoabaanpfhlloaaBits
import Derived.Test.YtoabaanpfhlloaaRefInst
namespace Go.Proofs.Ytoabaanpfhlloaa
open Go.ChangeShapes Go.WideShapes Go.ChangeAt Go.RowKit
set_option linter.unusedVariables false

theorem b300 : bytesOf (300 : Int).toNat = [172, 2] := by
  rw [bytesOf_great (by decide), bytesOf_small (by decide)]; rfl
theorem b3 : bytesOf (zig (-3)).toNat = [5] := by rw [bytesOf_small (by decide)]; rfl
theorem next_k1 : nextOf [172, 2, 5] = (300, 2) := by decide
theorem next_k2 : nextOf [5] = (5, 1) := by decide
theorem get_k1 : getR [172, 2, 5] false 300 = (300, [5], false) := by
  unfold getR; rw [next_k1]; rfl
theorem get_k2 : getR [5] false 4294967295 = (5, [], false) := by
  unfold getR; rw [next_k2]; rfl
theorem zag_k : zag 5 = -3 := by decide

/-- A row of the call's own with these bytes, written out. -/
theorem own_bytes {w : World} {B e : Nat} {v : Value} {l : List Int} (h : w.ownsRow B e 1 v l.length (l.map (Value.int .u8))) (hl : 0 < l.length) :
    ∃ g cap, v = .slice (some ⟨g, 0, none⟩) l.length cap ∧ l.length ≤ cap ∧ cap ≤ 9223372036854775807 ∧ B ≤ g ∧ g < w.heap.size ∧ Lies w w.heap.size (some ⟨g, 0, none⟩) (l.map (Value.int .u8)) := by
  have hlt := own_block_lt h
  rcases h.2 with ⟨_, hn⟩ | ⟨g, cap, cur, rfl, hb, _, h1, h2, _⟩
  · omega
  · exact ⟨g, cap, rfl, h1, by unfold maxLen at h2; omega, hb, hlt g rfl, Lies.of_own h⟩
theorem lies_cell {w : World} {B g : Nat} {xs : List Value} (h : Lies w B (some ⟨g, 0, none⟩) xs) (j : Nat) (hj : j < xs.length) : w.cell? ⟨g, j, none⟩ = some xs[j] := by
  obtain ⟨ad, e, _, hc⟩ := h.at_ hj
  injection e with e
  subst e
  have e : (Addr.add ⟨g, 0, none⟩ j) = ⟨g, j, none⟩ := by
    unfold Addr.add; split
    · rename_i h0; subst h0; rfl
    · simp
  rw [← e]
  exact hc

section
variable {w : World} {N B : Nat}
theorem bget_k (HR : Hid (Rd w N [172, 2, 5] false)) (HB : Hid (B ≤ N)) : Calls Try.prog 16 #[.pointer (some ⟨N, 0, none⟩), .int .i64 300] w (GetOut .i64 N B 300 [5] false w) := by
  have h := bget_any N B [172, 2, 5] false 300 w (by decide) (by decide) HB.out HR.out
  rw [get_k1] at h
  exact h
theorem blong_k (HR : Hid (Rd w N [5] false)) (HB : Hid (B ≤ N)) : Calls Try.prog 15 #[.pointer (some ⟨N, 0, none⟩)] w (GetOut .i32 N B (-3) [] false w) := by
  have h := breadlong_any N B [5] false w (by decide) (by decide) HB.out HR.out
  rw [get_k2, zag_k] at h
  exact h
theorem bend_k (HR : Hid (Rd w N [] false)) : Calls Try.prog 18 #[.pointer (some ⟨N, 0, none⟩)] w fun e w' => e = .returned (.bool true) ∧ Below w.heap.size w w' := bend_any N [] false w HR.out
theorem bbad_k (HR : Hid (Rd w N [] false)) : Calls Try.prog 17 #[.pointer (some ⟨N, 0, none⟩)] w fun e w' => e = .returned (.bool false) ∧ Below w.heap.size w w' := bbad_any N [] false w HR.out
end
theorem rargs_k (w : World) : Calls Try.prog 19 #[.int .i64 1] w fun e w' => e = .returned (.int .i64 1) ∧ Below w.heap.size w w' := rargs_any 1 w

theorem bawake_any (w : World) : Calls Try.prog 8 #[] w fun e w' => e = .returned (.bool true) ∧ Below w.heap.size w w' := by
  go_enter Try.func8, Try.ntmps8
  go_wp2_with fail
  refine (bput_any [] (.slice none 0 0) 300 w.heap.size w (by decide) (by decide) (Nat.le_refl _) (World.ownsRow_nil _ _ _ _)).mono ?_
  rintro e w1 ⟨v1, rfl, ho1, hb1⟩
  rw [b300] at ho1
  have hs1 := hb1.size
  have HO1 := Lib.hid ho1
  have HB1 := Lib.hid hb1
  clear ho1 hb1
  go_wp2_with fail
  refine (blong_any [172, 2] v1 (-3) w.heap.size w1 (by decide) (by decide) (by decide) hs1 HO1.out).mono ?_
  rintro e w2 ⟨v2, rfl, ho2, hb2⟩
  rw [b3] at ho2
  obtain ⟨g, cap, rfl, hc1, hc2, hg, hgl, hl2⟩ := own_bytes (l := [172, 2, 5]) ho2 (by decide)
  have HL2 := Lib.hid hl2
  have HB2 := Lib.hid (HB1.out.trans hb2)
  clear ho2 hb2 hl2 HO1 HB1
  go_wp2_with fail
  refine (bnew_any [172, 2, 5] _ cap w2.heap.size w2 (by decide) (by decide) (fun h => by cases h) (Nat.le_refl _) HL2.out).mono ?_
  rintro e w3 ⟨N, rfl, hN, hr3, hb3⟩
  have hl3 := HL2.out.below hb3
  have c0 : w3.cell? ⟨g, 0, none⟩ = some (.int .u8 172) := lies_cell hl3 0 (by decide)
  have c1 : w3.cell? ⟨g, 1, none⟩ = some (.int .u8 2) := lies_cell hl3 1 (by decide)
  have c2 : w3.cell? ⟨g, 2, none⟩ = some (.int .u8 5) := lies_cell hl3 2 (by decide)
  have HR := Lib.hid hr3
  have HB3 := Lib.hid (HB2.out.trans (hb3.mono HB2.out.size))
  have HBN : Hid (w.heap.size ≤ N) := Lib.hid (Nat.le_trans HB2.out.size hN)
  clear hl3 hr3 hb3 HL2
  go_wp2_with (first
    | (go_at_call 16; (with_reducible refine (bget_k HR HBN).mono ?_); rintro e w4 ⟨rfl, hr, hb⟩; have HR4 := Lib.hid hr; have HB4 := Lib.hid (HB3.out.trans hb); clear hr hb)
    | (go_at_call 15; (with_reducible refine (blong_k HR4 HBN).mono ?_); rintro e w5 ⟨rfl, hr, hb⟩; have HR5 := Lib.hid hr; have HB5 := Lib.hid (HB4.out.trans hb); clear hr hb)
    | (go_at_call 18; (with_reducible refine (bend_k HR5).mono ?_); rintro e w6 ⟨rfl, hb⟩; have HR6 := Lib.hid (HR5.out.keep hb); have HB6 := Lib.hid (HB5.out.trans (hb.mono HB5.out.size)); clear hb)
    | (go_at_call 17; (with_reducible refine (bbad_k HR6).mono ?_); rintro e w7 ⟨rfl, hb⟩; have HB7 := Lib.hid (HB6.out.trans (hb.mono HB6.out.size)); clear hb)
    | (go_at_call 19; (with_reducible refine (rargs_k _).mono ?_); rintro e w8 ⟨rfl, hb⟩; have HB8 := Lib.hid (HB7.out.trans (hb.mono HB7.out.size)); clear hb))
  go_ret
  exact ⟨rfl, HB8.out⟩
end Go.Proofs.Ytoabaanpfhlloaa
