/-
  What the document's own answers for whether numbers and types fit (in, typ, types, list), and whether lists are the same (Types, Ints), come to.
-/
import Derived.Test.YtefgepppcmhphaaM01
import Derived.Test.YtefgepppcmhphaaRows
import Derived.ProofKit
import Derived.OpenShut
import Derived.Outline
import Derived.Deep.QuietTactic
import Derived.BigQuiet
namespace Go.Proofs.Ytefgepppcmhphaa
set_option maxRecDepth 100000
set_option linter.unusedVariables false
set_option linter.unusedSimpArgs false
open Go.ChangeShapes Go.WideShapes Go.ChangeAt Go.RowKit
set_option linter.unusedVariables false

def withinB (n least most : Int) : Bool := decide (least ≤ n ∧ n ≤ most)
def typB (t : Int × Int) : Bool := decide (0 ≤ t.1 ∧ t.1 ≤ 5 ∧ (t.2 = 0 ∨ t.1 = 3 ∧ 0 ≤ t.2 ∧ t.2 ≤ 7))
def typesB (l : List (Int × Int)) (n : Int) : Bool := decide ((l.length : Int) ≤ n ∧ ∀ t ∈ l, typB t = true)
def listB (l : List Int) (n most : Int) : Bool := decide ((l.length : Int) ≤ n ∧ ∀ x ∈ l, 0 ≤ x ∧ x ≤ most)

theorem rwithin_any (n least most : Int) (w : World) : Calls Try.prog 45 #[.int .i64 n, .int .i64 least, .int .i64 most] w fun e w' => e = .returned (.bool (withinB n least most)) ∧ w = w' := by
  by_cases h : least ≤ n
  · by_cases g : n ≤ most
    · have E := Lib.hid (show withinB n least most = true from decide_eq_true ⟨h, g⟩)
      go_enter Try.func45, Try.ntmps45
      go_wp2
      go_ret
      exact ⟨by rw [E.out]; first | rfl | simp [g], rfl⟩
    · have E := Lib.hid (show withinB n least most = false from decide_eq_false (fun x => g x.2))
      go_enter Try.func45, Try.ntmps45
      go_wp2
      go_ret
      exact ⟨by rw [E.out]; first | rfl | simp [g], rfl⟩
  · have E := Lib.hid (show withinB n least most = false from decide_eq_false (fun x => h x.1))
    go_enter Try.func45, Try.ntmps45
    go_wp2
    go_ret
    exact ⟨by rw [E.out]; first | rfl | simp [h], rfl⟩
theorem rwithin_is {n least most : Int} {r : Bool} {w : World} (H : Hid (withinB n least most = r)) : Calls Try.prog 45 #[.int .i64 n, .int .i64 least, .int .i64 most] w fun e w' => e = .returned (.bool r) ∧ w = w' := by
  have h := rwithin_any n least most w
  rw [H.out] at h
  exact h

/-- A type as a value, once more. -/
theorem rtyp_any (t : Int × Int) (w : World) : Calls Try.prog 46 #[tyV t.1 t.2] w fun e w' => e = .returned (.bool (typB t)) ∧ Below w.heap.size w w' := by
  obtain ⟨k, n⟩ := t
  dsimp only
  have HW := Lib.hid ((Below.refl w.heap.size w).alloc (Nat.le_refl _) (.cells #[.int .i64 k, .int .i64 n] 49))
  obtain ⟨r, hr⟩ : ∃ r, withinB k 0 5 = r := ⟨_, rfl⟩
  obtain ⟨q, hq⟩ : ∃ q, withinB n 0 7 = q := ⟨_, rfl⟩
  have R := Lib.hid hr
  have Q := Lib.hid hq
  have E : Hid (typB (k, n) = (r && (decide (n = 0) || (decide (k = 3) && q)))) := Lib.hid (by
    rw [← hr, ← hq]; unfold typB withinB; rw [Bool.eq_iff_iff]; simp; omega)
  clear hr hq
  generalize typB (k, n) = b at E ⊢
  cases r
  · go_enter Try.func46, Try.ntmps46
    go_wp2_with (go_at_call 45; (with_reducible refine (rwithin_is R).mono ?_); rintro e w' ⟨rfl, rfl⟩)
    go_ret
    exact ⟨by rw [E.out]; rfl, HW.out⟩
  · by_cases h0 : n = 0
    · subst h0
      go_enter Try.func46, Try.ntmps46
      go_wp2_with (go_at_call 45; (with_reducible refine (rwithin_is R).mono ?_); rintro e w' ⟨rfl, rfl⟩)
      go_ret
      exact ⟨by rw [E.out]; rfl, HW.out⟩
    · by_cases h3 : k = 3
      · subst h3
        cases q
        all_goals
          go_enter Try.func46, Try.ntmps46
          go_wp2_with (first | (go_at_call 45; (with_reducible refine (rwithin_is R).mono ?_); rintro e w' ⟨rfl, rfl⟩) | (go_at_call 45; (with_reducible refine (rwithin_is Q).mono ?_); rintro e w' ⟨rfl, rfl⟩))
          go_ret
          exact ⟨by rw [E.out]; simp [h0], HW.out⟩
      · go_enter Try.func46, Try.ntmps46
        go_wp2_with (go_at_call 45; (with_reducible refine (rwithin_is R).mono ?_); rintro e w' ⟨rfl, rfl⟩)
        go_ret
        exact ⟨by rw [E.out]; simp [h0, h3], HW.out⟩

theorem rtypes_any (l : List (Int × Int)) (n : Int) (A : Option Addr) (cap B : Nat) (w : World) (hB : B ≤ w.heap.size) (h : SlcIs TyAt 2 w B A cap l) :
    Calls Try.prog 43 #[.slice A l.length cap, .int .i64 n] w fun e w' => e = .returned (.bool (typesB l n)) ∧ Below w.heap.size w w' := by
  have hlc := h.le
  have hcm := h.cap
  have HL := Lib.hid h
  have HB := Lib.hid hB
  clear h hB
  by_cases hn : n < l.length
  · have E := Lib.hid (show typesB l n = false from decide_eq_false (fun x => by omega))
    go_enter Try.func43, Try.ntmps43
    go_wp2
    go_ret
    exact ⟨by rw [E.out]; rfl, Below.refl _ _⟩
  · obtain ⟨b, hb⟩ : ∃ b, typesB l n = b := ⟨_, rfl⟩
    rw [hb]
    have E : Hid (b = decide (∀ t ∈ l, typB t = true)) := Lib.hid (by rw [← hb]; unfold typesB; rw [decide_eq_decide]; exact ⟨fun x => x.2, fun x => ⟨by omega, x⟩⟩)
    clear hb
    go_enter Try.func43, Try.ntmps43
    go_wp2
    go_loopw [5] (fun i wr => ∃ k : Nat, k ≤ l.length ∧ i = .int .i64 k ∧ Hid (∀ t ∈ l.take k, typB t = true) ∧ Hid (Below w.heap.size w wr)) (fun i _ => l.length - (intOf i).toNat)
    case atStart => exact ⟨0, by omega, rfl, Lib.hid (by simp), Lib.hid (Below.refl _ _)⟩
    case round =>
      obtain ⟨k, hk, rfl, HN, HX⟩ := hrel
      by_cases hlt : k < l.length
      · obtain ⟨ad, rfl, hab, q0, q1⟩ := (HL.out.below_to TyAt.keeps HX.out HB.out).row.at_ hlt
        have T1 := Lib.hid (show l.take (k + 1) = l.take k ++ [l[k]] by rw [List.take_add_one, List.getElem?_eq_getElem hlt]; rfl)
        have M1 := Lib.hid (List.getElem_mem hlt)
        generalize l[k] = t at *
        obtain ⟨r, hr⟩ : ∃ r, typB t = r := ⟨_, rfl⟩
        have R := Lib.hid hr
        clear hr
        cases r
        · have E2 := Lib.hid (show b = false by rw [E.out]; exact decide_eq_false (fun x => by have := x t M1.out; rw [R.out] at this; cases this))
          go_wp2_with (go_at_call 46; (with_reducible refine (rtyp_any t _).mono ?_); rintro e w1 ⟨he, hb⟩; rw [R.out] at he; subst he; have HX1 := Lib.hid (HX.out.trans (hb.mono HX.out.size)))
          go_ret
          exact ⟨by rw [E2.out]; rfl, HX1.out⟩
        · go_wp2_with (go_at_call 46; (with_reducible refine (rtyp_any t _).mono ?_); rintro e w1 ⟨he, hb⟩; rw [R.out] at he; subst he; have HX1 := Lib.hid (HX.out.trans (hb.mono HX.out.size)); clear hb)
          go_roundw
          case rel => exact ⟨k + 1, by omega, by go_num, Lib.hid (by rw [T1.out]; intro s hs; rcases List.mem_append.mp hs with g | g; exact HN.out s g; simp at g; subst g; exact R.out), HX1⟩
          case measure => simp [intOf]; omega
      · have E2 := Lib.hid (show b = true by rw [E.out]; exact decide_eq_true (by have := HN.out; rwa [List.take_of_length_le (by omega)] at this))
        go_wp2_with fail
        go_ret
        exact ⟨by rw [E2.out]; rfl, HX.out⟩

theorem rlist_any (l : List Int) (n most : Int) (A : Option Addr) (cap B : Nat) (w : World) (hB : B ≤ w.heap.size) (h : SlcIs IntAt 1 w B A cap l) :
    Calls Try.prog 44 #[.slice A l.length cap, .int .i64 n, .int .i64 most] w fun e w' => e = .returned (.bool (listB l n most)) ∧ w = w' := by
  have hlc := h.le
  have hcm := h.cap
  have HL := Lib.hid h
  clear h
  by_cases hn : n < l.length
  · have E := Lib.hid (show listB l n most = false from decide_eq_false (fun x => by omega))
    go_enter Try.func44, Try.ntmps44
    go_wp2
    go_ret
    exact ⟨by rw [E.out]; rfl, rfl⟩
  · obtain ⟨b, hb⟩ : ∃ b, listB l n most = b := ⟨_, rfl⟩
    rw [hb]
    have E : Hid (b = decide (∀ t ∈ l, 0 ≤ t ∧ t ≤ most)) := Lib.hid (by rw [← hb]; unfold listB; rw [decide_eq_decide]; exact ⟨fun x => x.2, fun x => ⟨by omega, x⟩⟩)
    clear hb
    go_enter Try.func44, Try.ntmps44
    go_wp2
    go_loop [7] (fun i => ∃ k : Nat, k ≤ l.length ∧ i = .int .i64 k ∧ Hid (∀ t ∈ l.take k, 0 ≤ t ∧ t ≤ most)) (fun i => l.length - (intOf i).toNat)
    case atStart => exact ⟨0, by omega, rfl, Lib.hid (by simp)⟩
    case round =>
      obtain ⟨k, hk, rfl, HN⟩ := hrel
      by_cases hlt : k < l.length
      · obtain ⟨ad, rfl, hab, q0⟩ := HL.out.row.at_ hlt
        rw [Nat.mul_one] at q0
        have T1 := Lib.hid (show l.take (k + 1) = l.take k ++ [l[k]] by rw [List.take_add_one, List.getElem?_eq_getElem hlt]; rfl)
        have M1 := Lib.hid (List.getElem_mem hlt)
        generalize l[k] = t at *
        have q0' : w.cell? (ad.add k) = some (.int .i64 t) := q0
        obtain ⟨r, hr⟩ : ∃ r, withinB t 0 most = r := ⟨_, rfl⟩
        have R := Lib.hid hr
        clear hr
        cases r
        · have E2 := Lib.hid (show b = false by rw [E.out]; exact decide_eq_false (fun x => by have := of_decide_eq_false R.out; exact this (x t M1.out)))
          go_wp2_with (go_at_call 45; (with_reducible refine (rwithin_is R).mono ?_); rintro e w1 ⟨rfl, rfl⟩)
          go_ret
          exact ⟨by rw [E2.out]; rfl, rfl⟩
        · go_wp2_with (go_at_call 45; (with_reducible refine (rwithin_is R).mono ?_); rintro e w1 ⟨rfl, rfl⟩)
          go_round
          case rel => exact ⟨k + 1, by omega, by go_num, Lib.hid (by rw [T1.out]; intro s hs; rcases List.mem_append.mp hs with g | g; exact HN.out s g; simp at g; subst g; exact of_decide_eq_true R.out)⟩
          case measure => simp [intOf]; omega
      · have E2 := Lib.hid (show b = true by rw [E.out]; exact decide_eq_true (by have := HN.out; rwa [List.take_of_length_le (by omega)] at this))
        go_wp2_with fail
        go_ret
        exact ⟨by rw [E2.out]; rfl, rfl⟩
end Go.Proofs.Ytefgepppcmhphaa
