/-
  slices.BinarySearch of numbers, from the library: of rising numbers it tells whether one is among them.
-/
import Derived.Test.YtcehkmnneimdeaaAppK
import Derived.Test.YtcehkmnneimdeaaRefIn
import Derived.Lib.Hide
import Derived.Deep.LoopGhost
import Derived.Deep.QuietTactic
import Derived.BigQuiet
import Derived.WalkKit
namespace Go.Proofs.Ytcehkmnneimdeaa
set_option maxRecDepth 100000
set_option linter.unusedVariables false
set_option linter.unusedSimpArgs false
open Go.ChangeShapes Go.WideShapes Go.ChangeAt Go.RowKit

theorem cmpNaN_any (x : Int) (w : World) : Calls Try.prog 35 #[.int .i64 x] w fun e w' => e = .returned (.bool false) ∧ w = w' := by
  go_enter Try.func35, Try.ntmps35
  go_wp2
  go_ret
  exact ⟨by simp, rfl⟩
theorem sliceNaN_any (x : Int) (w : World) : Calls Try.prog 33 #[.int .i64 x] w fun e w' => e = .returned (.bool false) ∧ w = w' := by
  go_enter Try.func33, Try.ntmps33
  go_wp2
  go_ret
  exact ⟨by simp, rfl⟩
theorem cmpLess_any (x y : Int) (w : World) : Calls Try.prog 32 #[.int .i64 x, .int .i64 y] w fun e w' => e = .returned (.bool (decide (x < y))) ∧ w = w' := by
  go_enter Try.func32, Try.ntmps32
  go_wp2_with (go_at_call 35; (with_reducible refine (cmpNaN_any _ _).mono ?_); rintro e w' ⟨rfl, rfl⟩)
  go_ret
  exact ⟨rfl, rfl⟩

theorem getD_at {l : List Int} {t : Nat} (h : t < l.length) : l.getD t 0 = l[t] := by simp [List.getD, List.getElem?_eq_getElem h]
theorem rise_at {l : List Int} (h : l.Pairwise (· < ·)) {a b : Nat} (hab : a ≤ b) (hb : b < l.length) : l.getD a 0 ≤ l.getD b 0 := by
  rcases Nat.lt_or_ge a b with g | g
  · have := List.pairwise_iff_getElem.mp h a b (by omega) hb g
    rw [getD_at (by omega), getD_at hb]
    omega
  · obtain rfl : a = b := by omega
    exact Int.le_refl _
theorem rise_in {l : List Int} {x : Int} {lo : Nat} (h1 : ∀ t, t < lo → l.getD t 0 < x) (h2 : ∀ t, lo ≤ t → t < l.length → x ≤ l.getD t 0) (h : l.Pairwise (· < ·)) : inB l x = (decide (lo < l.length) && decide (l.getD lo 0 = x)) := by
  unfold inB
  rw [Bool.eq_iff_iff]
  simp only [decide_eq_true_eq, Bool.and_eq_true]
  constructor
  · intro hm
    obtain ⟨t, ht, e⟩ := List.mem_iff_getElem.mp hm
    have et : l.getD t 0 = x := by rw [getD_at ht]; exact e
    have hlt : lo ≤ t := by
      rcases Nat.lt_or_ge t lo with g | g
      · have := h1 t g; omega
      · exact g
    refine ⟨by omega, ?_⟩
    have := rise_at h hlt ht
    have := h2 lo (Nat.le_refl _) (by omega)
    omega
  · rintro ⟨hl, e⟩
    rw [getD_at hl] at e
    rw [← e]
    exact List.getElem_mem hl

def FoundIn (b : Bool) (w : World) (e : Ending) (w' : World) : Prop := ∃ p : Int, e = .returned (.tuple #[.int .i64 p, .bool b]) ∧ Below w.heap.size w w'

set_option maxHeartbeats 4000000 in
theorem search_any (l : List Int) (x : Int) (A : Option Addr) (cap : Nat) (w : World) (hl : l.length ≤ 1048576) (h : Lies w w.heap.size A (l.map (Value.int .i64))) (hs : l.Pairwise (· < ·)) :
    Calls Try.prog 28 #[.slice A l.length cap, .int .i64 x] w (FoundIn (inB l x) w) := by
  have HL := Lib.hid h
  have HS := Lib.hid hs
  obtain ⟨b, hb⟩ : ∃ b, inB l x = b := ⟨_, rfl⟩
  have E := Lib.hid hb
  rw [hb]
  clear h hs hb
  obtain ⟨n, hn⟩ : ∃ n, l.length = n := ⟨_, rfl⟩
  have HN := Lib.hid hn
  rw [hn] at hl ⊢
  clear hn
  go_enter Try.func28, Try.ntmps28
  go_wp2
  go_loopg [7, 8] n (fun g s7 s8 wr => ∃ lo hi : Nat, s7 = .int .i64 lo ∧ s8 = .int .i64 hi ∧ lo ≤ hi ∧ hi ≤ n ∧ hi - lo ≤ g ∧ Hid (Below w.heap.size w wr) ∧ Hid ((∀ t, t < lo → l.getD t 0 < x) ∧ (∀ t, hi ≤ t → t < n → x ≤ l.getD t 0)))
  case atStart => exact ⟨0, n, rfl, rfl, Nat.zero_le _, Nat.le_refl _, by omega, Lib.hid (Below.refl _ _), Lib.hid ⟨fun t ht => absurd ht (Nat.not_lt_zero _), fun t h1 h2 => by omega⟩⟩
  case round =>
    obtain ⟨lo, hi, rfl, rfl, hlh, hin, hg, HX, I⟩ := hrel
    by_cases hlt : lo < hi
    · have hmn : (lo + hi) / 2 < n := by omega
      obtain ⟨ad, rfl, hab, hc0⟩ := (HL.out.below HX.out).at_ (k := (lo + hi) / 2) (by rw [List.length_map, HN.out]; exact hmn)
      have Y := Lib.hid (show l.getD ((lo + hi) / 2) 0 = l[(lo + hi) / 2]'(by rw [HN.out]; exact hmn) from getD_at _)
      rw [List.getElem_map] at hc0
      generalize l[(lo + hi) / 2]'(by rw [HN.out]; exact hmn) = y at *
      by_cases hyx : y < x
      · go_wp2_with (first | (go_at_call 32; (with_reducible refine (cmpLess_any _ _ _).mono ?_); rintro e w' ⟨rfl, rfl⟩) | (go_at_call 33; (with_reducible refine (sliceNaN_any _ _).mono ?_); rintro e w' ⟨rfl, rfl⟩))
        go_roundg (hi - ((lo + hi) / 2 + 1))
        case measure => omega
        case rel =>
          refine ⟨(lo + hi) / 2 + 1, hi, by rw [show ((lo : Int) + (hi : Int)) / 2 + 1 = (((lo + hi) / 2 + 1 : Nat) : Int) by omega], rfl, by omega, hin, Nat.le_refl _, HX, Lib.hid ⟨fun t ht => ?_, I.out.2⟩⟩
          have := rise_at HS.out (a := t) (b := (lo + hi) / 2) (by omega) (by rw [HN.out]; exact hmn)
          rw [Y.out] at this
          omega
      · go_wp2_with (first | (go_at_call 32; (with_reducible refine (cmpLess_any _ _ _).mono ?_); rintro e w' ⟨rfl, rfl⟩) | (go_at_call 33; (with_reducible refine (sliceNaN_any _ _).mono ?_); rintro e w' ⟨rfl, rfl⟩))
        go_roundg ((lo + hi) / 2 - lo)
        case measure => omega
        case rel =>
          refine ⟨lo, (lo + hi) / 2, rfl, by rw [show ((lo : Int) + (hi : Int)) / 2 = (((lo + hi) / 2 : Nat) : Int) by omega], by omega, by omega, Nat.le_refl _, HX, Lib.hid ⟨I.out.1, fun t ht htn => ?_⟩⟩
          have := rise_at HS.out (a := (lo + hi) / 2) (b := t) ht (by rw [HN.out]; exact htn)
          rw [Y.out] at this
          omega
    · obtain rfl : lo = hi := by omega
      have E2 := Lib.hid (E.out.symm.trans (rise_in I.out.1 (fun t h0 h1 => I.out.2 t h0 (by rw [← HN.out]; exact h1)) HS.out))
      by_cases hln : lo < n
      · obtain ⟨ad, rfl, hab, hc0⟩ := (HL.out.below HX.out).at_ (k := lo) (by rw [List.length_map, HN.out]; exact hln)
        have Y := Lib.hid (show l.getD lo 0 = l[lo]'(by rw [HN.out]; exact hln) from getD_at _)
        rw [List.getElem_map] at hc0
        generalize l[lo]'(by rw [HN.out]; exact hln) = y at *
        have E3 : Hid (b = decide (y = x)) := Lib.hid (by rw [E2.out, Y.out, HN.out]; simp [hln])
        by_cases hyx : y = x
        · subst hyx
          go_wp2_with (go_at_call 33; (with_reducible refine (sliceNaN_any _ _).mono ?_); rintro e w' ⟨rfl, rfl⟩)
          go_ret2
          exact ⟨(lo : Int), by rw [E3.out]; simp, HX.out⟩
        · have hne : ((y : Int) == x) = false := by simpa using hyx
          go_wp2_with (go_at_call 33; (with_reducible refine (sliceNaN_any _ _).mono ?_); rintro e w' ⟨rfl, rfl⟩)
          go_ret2
          exact ⟨(lo : Int), by rw [E3.out]; simp [hyx], HX.out⟩
      · have E3 : Hid (b = false) := Lib.hid (by rw [E2.out, HN.out]; simp [hln])
        go_wp2_with fail
        go_ret2
        exact ⟨_, by rw [E3.out]; rfl, HX.out⟩
end Go.Proofs.Ytcehkmnneimdeaa
