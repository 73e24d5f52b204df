/-
  What the program's own kind.Below comes to.
-/
import Derived.Test.YtcehkmnneimdeaaAboveMath
namespace Go.Proofs.Ytcehkmnneimdeaa
set_option maxRecDepth 100000
set_option linter.unusedVariables false
set_option linter.unusedSimpArgs false
open Go.ChangeShapes Go.WideShapes Go.ChangeAt Go.RowKit
set_option linter.unusedVariables false

/-- What stands above a class, in the program's own words: -1, if nothing does. -/
def supI (sup : List Int) (c : Int) : Int := match sup[c.toNat]? with
  | some s => if 0 ≤ s ∧ s < c then s else -1
  | none => -1

theorem kabove_any (sup : List Int) (c : Int) (h0 : 0 ≤ c) (h1 : c < sup.length) (A : Option Addr) (cap B : Nat) (w : World) (hl : sup.length ≤ 1048576) (h : Supers w B A sup) :
    Calls Try.prog 37 #[.slice A sup.length cap, .int .i64 c] w fun e w' => e = .returned (.int .i64 (supI sup c)) ∧ w = w' := by
  obtain ⟨K, rfl⟩ := Int.eq_ofNat_of_zero_le h0
  have hlt : K < sup.length := by omega
  have hs0 := List.getElem?_eq_getElem hlt
  obtain ⟨ad, rfl, hab, hc⟩ := h K _ hs0
  have E := Lib.hid (show supI sup (K : Int) = if 0 ≤ sup[K] ∧ sup[K] < (K : Int) then sup[K] else -1 by unfold supI; rw [Int.toNat_natCast, hs0])
  clear hs0 h
  generalize sup[K] = s at *
  by_cases g : 0 ≤ s ∧ s < (K : Int)
  · have E2 := Lib.hid (show supI sup (K : Int) = s by rw [E.out, if_pos g])
    clear E
    obtain ⟨g0, g1⟩ := g
    go_enter Try.func37, Try.ntmps37
    go_wp2_with fail
    go_ret
    rw [E2.out]
    exact ⟨rfl, rfl⟩
  · have E2 := Lib.hid (show supI sup (K : Int) = -1 by rw [E.out, if_neg g])
    clear E
    by_cases g0 : 0 ≤ s
    · have g1 : ¬ s < (K : Int) := by omega
      clear g
      go_enter Try.func37, Try.ntmps37
      go_wp2_with fail
      go_ret
      rw [E2.out]
      exact ⟨rfl, rfl⟩
    · clear g
      go_enter Try.func37, Try.ntmps37
      go_wp2_with fail
      go_ret
      rw [E2.out]
      exact ⟨rfl, rfl⟩

/-- Is there a class of that number? -/
def isClsB (sup : List Int) (c : Int) : Bool := decide (0 ≤ c ∧ c < sup.length)

theorem kisclass_any (sup : List Int) (c : Int) (A : Option Addr) (cap : Nat) (w : World) (hl : sup.length ≤ 1048576) :
    Calls Try.prog 36 #[.slice A sup.length cap, .int .i64 c] w fun e w' => e = .returned (.bool (isClsB sup c)) ∧ w = w' := by
  by_cases h0 : 0 ≤ c
  · by_cases h1 : c < sup.length
    · have E := Lib.hid (show isClsB sup c = true from decide_eq_true ⟨h0, h1⟩)
      go_enter Try.func36, Try.ntmps36
      go_wp2_with fail
      go_ret
      rw [E.out]
      exact ⟨by first | rfl | simp [h1], rfl⟩
    · have E := Lib.hid (show isClsB sup c = false from decide_eq_false (by omega))
      go_enter Try.func36, Try.ntmps36
      go_wp2_with fail
      go_ret
      rw [E.out]
      exact ⟨by first | rfl | simp [h1], rfl⟩
  · have E := Lib.hid (show isClsB sup c = false from decide_eq_false (by omega))
    go_enter Try.func36, Try.ntmps36
    go_wp2_with fail
    go_ret
    rw [E.out]
    exact ⟨by first | rfl | simp [h0], rfl⟩

theorem supI_bounds (sup : List Int) (c : Int) : -1 ≤ supI sup c ∧ (0 ≤ c → supI sup c < c) := by
  unfold supI
  split
  · split <;> omega
  · exact ⟨by omega, fun h => by omega⟩
theorem above_sup {sup : List Int} {c : Int} (h0 : 0 ≤ c) (h1 : c < sup.length) : aboveI sup c = c :: aboveI sup (supI sup c) := by
  obtain ⟨s, hs⟩ := super_at h0 h1
  rw [aboveI_step h0 hs]
  unfold supI
  rw [hs]
  dsimp only
  by_cases g : s < c
  · rw [if_pos g]
    by_cases g0 : 0 ≤ s
    · rw [if_pos ⟨g0, g⟩]
    · rw [if_neg (by omega), aboveI_bad (.inl (by omega)), aboveI_bad (.inl (by omega))]
  · rw [if_neg g, if_neg (by omega), aboveI_bad (.inl (by omega))]
theorem class_true {sup : List Int} {c : Int} (h : isClsB sup c = true) : 0 ≤ c ∧ c < sup.length := of_decide_eq_true h
theorem class_false {sup : List Int} {c : Int} (h : ¬ isClsB sup c = true) : c < 0 ∨ (sup.length : Int) ≤ c := by
  unfold isClsB at h
  simp at h
  omega
theorem inB_no {l : List Int} {n : Int} (h : n ∉ l) : inB l n = false := decide_eq_false h

theorem kbelow_any (sup : List Int) (a b : Int) (A : Option Addr) (cap B : Nat) (w : World) (hl : sup.length ≤ 1048576) (hB : B ≤ w.heap.size) (h : Supers w B A sup) :
    Calls Try.prog 34 #[.slice A sup.length cap, .int .i64 a, .int .i64 b] w fun e w' => e = .returned (.bool (inB (aboveI sup a) b)) ∧ Below w.heap.size w w' := by
  have HS := Lib.hid h
  clear h
  by_cases ha : isClsB sup a = true
  · by_cases hb : isClsB sup b = true
    · obtain ⟨a0, a1⟩ := class_true ha
      obtain ⟨b0, b1⟩ := class_true hb
      have HA := Lib.hid ha
      have HB := Lib.hid hb
      clear ha hb
      go_enter Try.func34, Try.ntmps34
      go_wp2_with (first
        | (go_at_call 36; (with_reducible refine (kisclass_any sup a A cap w hl).mono ?_); rintro e w' ⟨he, rfl⟩; rw [HA.out] at he; subst he)
        | (go_at_call 36; (with_reducible refine (kisclass_any sup b A cap w hl).mono ?_); rintro e w' ⟨he, rfl⟩; rw [HB.out] at he; subst he))
      go_loop [1] (fun i => ∃ c : Int, i = .int .i64 c ∧ -1 ≤ c ∧ c < sup.length ∧ inB (aboveI sup a) b = inB (aboveI sup c) b) (fun i => (intOf i + 1).toNat)
      case atStart => exact ⟨a, rfl, by omega, a1, rfl⟩
      case round =>
        obtain ⟨c, rfl, c0, c1, hn⟩ := hrel
        have HN := Lib.hid hn
        clear hn
        by_cases hcb : b < c
        · have R := Lib.hid (show inB (aboveI sup a) b = inB (aboveI sup (supI sup c)) b by
            rw [HN.out, above_sup (by omega) c1]
            unfold inB
            simp only [List.mem_cons]
            rw [decide_eq_decide]
            constructor
            · rintro (g | g)
              · omega
              · exact g
            · exact .inr)
          have hc0 : 0 ≤ c := by omega
          have hs := supI_bounds sup c
          clear HN
          go_wp2_with (go_at_call 37; (with_reducible refine (kabove_any sup c hc0 c1 A cap B w hl HS.out).mono ?_); rintro e w' ⟨rfl, rfl⟩)
          go_round
          case rel => exact ⟨supI sup c, rfl, hs.1, by have := hs.2 hc0; omega, R.out⟩
          case measure => have := hs.2 hc0; simp [intOf]; omega
        · by_cases hc : c = b
          · have R := Lib.hid (show inB (aboveI sup a) b = true by rw [HN.out, hc]; exact inB_iff.mpr (above_self b0 b1))
            clear HN
            go_wp2_with fail
            go_ret
            rw [R.out]
            exact ⟨by first | rfl | simp [hc], Below.refl _ _⟩
          · have R := Lib.hid (show inB (aboveI sup a) b = false by rw [HN.out]; exact inB_no (fun g => by have := above_range g; omega))
            clear HN
            go_wp2_with fail
            go_ret
            rw [R.out]
            exact ⟨by first | rfl | simp [hc], Below.refl _ _⟩
    · have HA := Lib.hid ha
      have HB := Lib.hid (show isClsB sup b = false by simpa using hb)
      have R := Lib.hid (show inB (aboveI sup a) b = false from inB_no (fun g => by have := above_range g; have := class_false hb; omega))
      clear ha hb
      go_enter Try.func34, Try.ntmps34
      go_wp2_with (first
        | (go_at_call 36; (with_reducible refine (kisclass_any sup a A cap w hl).mono ?_); rintro e w' ⟨he, rfl⟩; rw [HA.out] at he; subst he)
        | (go_at_call 36; (with_reducible refine (kisclass_any sup b A cap w hl).mono ?_); rintro e w' ⟨he, rfl⟩; rw [HB.out] at he; subst he))
      go_ret
      rw [R.out]
      exact ⟨rfl, Below.refl _ _⟩
  · have HA := Lib.hid (show isClsB sup a = false by simpa using ha)
    have R := Lib.hid (show inB (aboveI sup a) b = false from inB_no (fun g => by have := above_range g; have := class_false ha; omega))
    clear ha
    go_enter Try.func34, Try.ntmps34
    go_wp2_with (go_at_call 36; (with_reducible refine (kisclass_any sup a A cap w hl).mono ?_); rintro e w' ⟨he, rfl⟩; rw [HA.out] at he; subst he)
    go_ret
    rw [R.out]
    exact ⟨rfl, Below.refl _ _⟩
end Go.Proofs.Ytcehkmnneimdeaa
