/-
  What the program's own bits.Put comes to: the bytes that came in, and the number's behind them, in a row of the call's own.
-/
import Derived.Test.YtikljohgdgibnaaBitsDefs
import Derived.OwnWalk
namespace Go.Proofs.Ytikljohgdgibnaa
set_option maxRecDepth 100000
open Go.ChangeShapes Go.WideShapes Go.ChangeAt Go.RowKit
set_option linter.unusedVariables false

/-- Bytes put behind a row of the call's own: the row that holds both; what lies below a block number stays. -/
def PutOut (B : Nat) (l : List Int) (w : World) (e : Ending) (w' : World) : Prop :=
  ∃ v, e = .returned v ∧ w'.ownsRow B 5 1 v l.length (l.map (Value.int .u8)) ∧ Below B w w'

theorem or_128 (n : Nat) : bits .or .u8 ((n : Int) % 256) 128 = 128 + (n : Int) % 128 := by
  have e : (n : Int) % 256 = ((n % 256 : Nat) : Int) := by omega
  rw [e]
  have h := (bits_nat .u8 8 (by decide) wraps_u8 (n % 256) 128 (by omega) (by decide)).2
  rw [show (128 : Int) = ((128 : Nat) : Int) from rfl, h]
  have h2 : n % 256 = 128 * (n / 128 % 2) + n % 128 := by omega
  have h3 : ∀ m : Nat, m < 128 → (128 * 0 + m ||| 128) = 128 + m := by
    intro m hm
    rw [Nat.mul_zero, Nat.zero_add, Nat.or_comm]
    have h5 : 128 + m = (128 ||| m) := by simpa using Nat.two_pow_add_eq_or_of_lt (i := 7) (b := m) (by simpa using hm) 1
    exact h5.symm
  have h4 : ∀ m : Nat, m < 128 → (128 * 1 + m ||| 128) = 128 + m := by
    intro m hm
    have h5 := Nat.two_pow_add_eq_or_of_lt (i := 7) (b := m) (by simpa using hm) 1
    have h6 : 128 * 1 + m = (128 ||| m) := by
      simp at h5
      exact h5
    rw [h6, Nat.or_comm, ← Nat.or_assoc, Nat.or_self]
  rcases Nat.mod_two_eq_zero_or_one (n / 128) with h0 | h0
  · rw [h2, h0, h3 _ (by omega)]; omega
  · rw [h2, h0, h4 _ (by omega)]; omega

theorem lies_grown {w w' : World} {A : Option Addr} {xs : List Value} (h : Lies w w.heap.size A xs) (hg : w.grownBy w' none) : Lies w' w.heap.size A xs :=
  h.keep fun _ hp => ((Below.refl w.heap.size w).grown hg (Nat.le_refl _) (fun k hk => by cases hk)).cell hp
theorem own_from {w : World} {B e m : Nat} {v : Value} {xs : List Value} (h : w.ownsRow B e 1 v (0 + m) ([] ++ xs)) : w.ownsRow B e 1 v m xs := by simpa using h

theorem one_at {w : World} (x : Value) (e : TypeId) : ∀ (j : Nat) (u : Value), [x][j]? = some u → (w.alloc (.cells #[x] e)).cell? (Addr.add ⟨w.heap.size, 0, none⟩ j) = some u := by
  intro j u hj
  match j, hj with
  | 0, hj => simp at hj; subst hj; simp [Addr.add]
theorem one_one (k : IntKind) (n : Int) : ∀ u ∈ [Value.int k n], u.oneCell' = true := by
  intro u hu; simp at hu; subst hu; rfl

set_option maxHeartbeats 800000 in
theorem bput_lies (l : List Int) (A : Option Addr) (cap : Nat) (n : Int) (B : Nat) (w : World) (hn : n ≤ 9223372036854775807) (hl : l.length ≤ 1048576) (hB : B ≤ w.heap.size)
    (hA : A = none → cap = 0) (h : Lies w w.heap.size A (l.map (Value.int .u8))) :
    Calls Try.prog 67 #[.slice A l.length cap, .int .i64 n] w (PutOut B (l ++ bytesOf n.toNat) w) := by
  obtain ⟨i0, hi, hz0, hz1, hz2⟩ := info_parts info_u8
  have HL := Lib.hid h
  have HA := Lib.hid hA
  clear h hA
  have hz : Hid (w.heap.size ≤ w.heap.size) := Lib.hid (Nat.le_refl _)
  by_cases hn0 : n < 0
  all_goals
    have L9 := bytesOf_len9 (n := n.toNat) (by omega)
    go_enter Try.func67, Try.ntmps67
    go_wp2_with (first
      | (at_make; refine wpList_make_own _ rfl _ _ 31 rfl B 5 i0 (.int .u8 0) 1 Try.underlying31 hi hz0 hz1 .i64 .i64 _ (l.length + 9) rfl rfl (by omega) (by rw [hz2]; omega) (by unfold maxLen; omega) (by omega) ?_; intro w1 hown1 hgrow1; have HL1 := Lib.hid (lies_grown HL.out hgrow1); have HB1 := Lib.hid ((Below.refl B w).grown hgrow1 hB (fun k hk => by cases hk)); have HO1 := Lib.hid hown1; clear hown1 hgrow1)
      | (at_builtin; refine append_lies rfl _ _ 31 rfl B 5 i0 (.int .u8 0) 1 Try.underlying31 hi hz0 hz1 hz2 rfl _ _ _ rfl HO1.out A l.length cap _ (l.map (Value.int .u8)) (by simp) rfl HA.out HL1.out (u8_one _) (by unfold maxLen; omega) (by omega) (by have := HB1.out.size; omega) ?_; intro v2 w2 hown2 hgrow2; have HO2 := Lib.hid (own_from hown2); have HB2 := Lib.hid (HB1.out.grown hgrow2 (by have := HB1.out.size; omega) (fun k hk => by cases hk; exact hB)); clear hown2 hgrow2 HO1 HL1 HB1))
    go_loopw [1, 5] (fun a v wr => ∃ (m : Nat) (pre : List Int), a = .int .i64 m ∧ (m : Int) ≤ 9223372036854775807 ∧ Hid (pre ++ bytesOf m = bytesOf n.toNat) ∧
        Hid (wr.ownsRow B 5 1 v (l ++ pre).length ((l ++ pre).map (Value.int .u8))) ∧ Hid (Below B w wr)) (fun a _ _ => (intOf a).toNat)
    case atStart =>
      refine ⟨n.toNat, [], ?_, by omega, Lib.hid rfl, Lib.hid (by simpa using HO2.out), HB2⟩
      first | (show Value.int .i64 0 = _; congr 1; omega) | (show Value.int .i64 n = _; congr 1; omega)
    case round =>
      obtain ⟨m, pre, rfl, hm, HP, HO, HB⟩ := hrel
      have hlen : pre.length + (bytesOf m).length ≤ 9 := by rw [← List.length_append, HP.out]; exact L9
      have hpos := bytesOf_pos m
      by_cases hlt : 128 ≤ m
      · have G := Lib.hid (bytesOf_great hlt)
        have E := or_128 m
        go_wp2_with (at_builtin; refine wpList_append_own _ rfl _ _ 31 rfl B 5 i0 (.int .u8 0) 1 1 Try.underlying31 hi hz0 hz1 hz2 rfl (by decide) _ _ _ rfl (HO.out.alloc _) ⟨_, 0, none⟩ 1 1 [.int .u8 (128 + (m : Int) % 128)] rfl rfl (one_at _ _) (one_one _ _) (by simp only [List.length_append]; unfold maxLen; omega) (by simp only [List.length_append]; omega) (by have := HB.out.size; simp; omega) ?_; intro v' w1 hown' hgrow _; have R := Lib.hid (own_snoc HO.out (Nat.le_trans hB HB.out.size) HB.out hown' hgrow); clear hown' hgrow HO HB)
        go_roundw
        case rel => exact ⟨m / 128, pre ++ [128 + (m : Int) % 128], by simp, by omega, Lib.hid (by rw [← HP.out, G.out]; simp), Lib.hid (by simpa using R.out.1), Lib.hid R.out.2⟩
        case measure => simp [intOf]; omega
      · have G := Lib.hid (bytesOf_small (n := m) (by omega))
        go_wp2_with (at_builtin; refine wpList_append_own _ rfl _ _ 31 rfl B 5 i0 (.int .u8 0) 1 1 Try.underlying31 hi hz0 hz1 hz2 rfl (by decide) _ _ _ rfl (HO.out.alloc _) ⟨_, 0, none⟩ 1 1 [.int .u8 (m : Int)] rfl rfl (one_at _ _) (one_one _ _) (by simp only [List.length_append]; unfold maxLen; omega) (by simp only [List.length_append]; omega) (by have := HB.out.size; simp; omega) ?_; intro v' w1 hown' hgrow _; have R := Lib.hid (own_snoc HO.out (Nat.le_trans hB HB.out.size) HB.out hown' hgrow); clear hown' hgrow HO HB)
        go_ret
        refine ⟨v', rfl, ?_, R.out.2⟩
        rw [← HP.out, G.out]
        simpa using R.out.1

theorem bput_any (l : List Int) (v : Value) (n : Int) (B : Nat) (w : World) (hn : n ≤ 9223372036854775807) (hl : l.length ≤ 1048576) (hB : B ≤ w.heap.size)
    (ho : w.ownsRow B 5 1 v l.length (l.map (Value.int .u8))) :
    Calls Try.prog 67 #[v, .int .i64 n] w (PutOut B (l ++ bytesOf n.toNat) w) := by
  obtain ⟨A, c, rfl, hL, hA⟩ := own_slice_nil ho
  exact bput_lies l A c n B w hn hl hB hA hL

end Go.Proofs.Ytikljohgdgibnaa
