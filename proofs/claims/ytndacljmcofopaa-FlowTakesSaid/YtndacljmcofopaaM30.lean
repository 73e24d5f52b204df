/-
  What the program's own kind.IsRef comes to.
  What the program's own kind.Sub comes to.
  What flow's words for whether operands fit where others are wanted (fits, allFit) come to.
-/
import Derived.Test.YtndacljmcofopaaM02
import Derived.Test.YtndacljmcofopaaM08
namespace Go.Proofs.Ytndacljmcofopaa
set_option maxRecDepth 100000
set_option linter.unusedVariables false
set_option linter.unusedSimpArgs false
open Go.ChangeShapes Go.WideShapes Go.ChangeAt Go.RowKit
set_option linter.unusedVariables false

theorem kisref_any (k n : Int) (w : World) : Calls Try.prog 68 #[tyV k n] w fun e w' => e = .returned (.bool (isRefB k)) ∧ Below w.heap.size w w' := by
  by_cases h : k = 2 ∨ k = 3 ∨ k = 4
  · have E := Lib.hid (show isRefB k = true from decide_eq_true h)
    rcases h with rfl | rfl | rfl
    all_goals
      go_enter Try.func68, Try.ntmps68
      go_wp2
      go_ret
      refine ⟨?_, ?_⟩
      · rw [E.out]; rfl
      · exact (Below.refl _ _).alloc (Nat.le_refl _) _
  · have E := Lib.hid (show isRefB k = false from decide_eq_false h)
    have h2 : ¬ k = 2 := by omega
    have h3 : ¬ k = 3 := by omega
    have h4 : ¬ k = 4 := by omega
    clear h
    go_enter Try.func68, Try.ntmps68
    go_wp2
    go_ret
    refine ⟨?_, ?_⟩
    · rw [E.out]; simp [h2, h3, h4]
    · exact (Below.refl _ _).alloc (Nat.le_refl _) _

end Go.Proofs.Ytndacljmcofopaa
namespace Go.Proofs.Ytndacljmcofopaa
set_option maxRecDepth 100000
set_option linter.unusedVariables false
set_option linter.unusedSimpArgs false
open Go.ChangeShapes Go.WideShapes Go.ChangeAt Go.RowKit
set_option linter.unusedVariables false

theorem ksub_any (sup : List Int) (k n k' n' : Int) (A : Option Addr) (cap B : Nat) (w : World) (hl : sup.length ≤ 1048576) (hB : B ≤ w.heap.size) (h : Supers w B A sup) :
    Calls Try.prog 69 #[.slice A sup.length cap, tyV k n, tyV k' n'] w fun e w' => e = .returned (.bool (subB sup k n k' n')) ∧ Below w.heap.size w w' := by
  have hW : Below w.heap.size w ((w.alloc (.cells #[.int .i64 k, .int .i64 n] 38)).alloc (.cells #[.int .i64 k', .int .i64 n'] 38)) :=
    ((Below.refl w.heap.size w).alloc (Nat.le_refl _) _).alloc (by simp) _
  have HS := Lib.hid (h.below_to hW hB)
  have HW := Lib.hid hW
  have HB := Lib.hid hB
  clear h hW hB
  by_cases h4 : k = 4
  · subst h4
    have e : subB sup 4 n k' n' = isRefB k' := by simp [subB]
    rw [e]
    clear e
    go_enter Try.func69, Try.ntmps69
    go_wp2_with (go_at_call 68; (with_reducible refine (kisref_any _ _ _).mono ?_); rintro e w' ⟨rfl, hb⟩)
    go_ret
    exact ⟨rfl, HW.out.trans (hb.mono (by simp; omega))⟩
  · by_cases h3 : k = 3
    · subst h3
      by_cases hk : k' = 3
      · subst hk
        have e : subB sup 3 n 3 n' = inB (aboveI sup n) n' := by simp [subB]
        rw [e]
        clear e
        go_enter Try.func69, Try.ntmps69
        go_wp2_with (go_at_call 77; (with_reducible refine (kbelow_any sup n n' A cap B _ hl (by have := HB.out; simp; omega) HS.out).mono ?_); rintro e w' ⟨rfl, hb⟩)
        go_ret
        exact ⟨rfl, HW.out.trans (hb.mono (by simp; omega))⟩
      · have e : subB sup 3 n k' n' = false := by simp [subB, hk]
        rw [e]
        clear e
        go_enter Try.func69, Try.ntmps69
        go_wp2_with fail
        go_ret
        exact ⟨by first | rfl | simp [hk], HW.out⟩
    · by_cases h12 : k = 1 ∨ k = 2
      · have e : subB sup k n k' n' = decide (k = k' ∧ n = n') := by simp [subB, h3, h4, h12]
        rw [e]
        clear e
        rcases h12 with rfl | rfl
        all_goals
          go_enter Try.func69, Try.ntmps69
          go_wp2_with fail
          all_goals
            go_ret
            refine ⟨?_, ((Below.refl _ _).alloc (Nat.le_refl _) _).alloc (by simp) _⟩
            first | rfl | (simp [*]; done)
      · have e : subB sup k n k' n' = false := by simp [subB, h3, h4, h12]
        rw [e]
        have h1 : ¬ k = 1 := by omega
        have h2 : ¬ k = 2 := by omega
        clear e h12
        go_enter Try.func69, Try.ntmps69
        go_wp2_with fail
        go_ret
        exact ⟨rfl, HW.out⟩

end Go.Proofs.Ytndacljmcofopaa
namespace Go.Proofs.Ytndacljmcofopaa
set_option maxRecDepth 100000
set_option linter.unusedVariables false
set_option linter.unusedSimpArgs false
open Go.ChangeShapes Go.WideShapes Go.ChangeAt Go.RowKit

/-- Does a type fit where one is wanted? Kind 6: any; 7: any reference; 8: any but Arr. -/
def fitB (sup : List Int) (t u : Int × Int) : Bool := if u.1 = 6 then true else if u.1 = 7 then isRefB t.1 else if u.1 = 8 then isRefB t.1 && !(decide (t.1 = 2)) else subB sup t.1 t.2 u.1 u.2
def allFitB (sup : List Int) (L U : List (Int × Int)) : Bool := decide (L.length = U.length) && (L.zip U).all (fun p => fitB sup p.1 p.2)
theorem kisref_is {t0 t1 : Int} {w : World} {r : Bool} (HR : Hid (isRefB t0 = r)) : Calls Try.prog 68 #[tyV t0 t1] w fun e w' => e = .returned (.bool r) ∧ Below w.heap.size w w' := by
  have H := kisref_any t0 t1 w
  rw [HR.out] at H
  exact H
theorem two_ty (w : World) (x y z u : Int) : Cells ((w.alloc (.cells #[.int .i64 x, .int .i64 y] 38)).alloc (.cells #[.int .i64 z, .int .i64 u] 38)) w.heap.size [.int .i64 x, .int .i64 y] ∧ Cells ((w.alloc (.cells #[.int .i64 x, .int .i64 y] 38)).alloc (.cells #[.int .i64 z, .int .i64 u] 38)) (w.heap.size + 1) [.int .i64 z, .int .i64 u] ∧
    Below w.heap.size w ((w.alloc (.cells #[.int .i64 x, .int .i64 y] 38)).alloc (.cells #[.int .i64 z, .int .i64 u] 38)) ∧ ((w.alloc (.cells #[.int .i64 x, .int .i64 y] 38)).alloc (.cells #[.int .i64 z, .int .i64 u] 38)).heap.size = w.heap.size + 2 := by
  obtain ⟨c1, z1, b1⟩ := cells_step (w := w) rfl [.int .i64 x, .int .i64 y] 38
  obtain ⟨c2, z2, b2⟩ := cells_step z1 [.int .i64 z, .int .i64 u] 38
  exact ⟨c1.keep b2 (by omega), c2, b1.trans (b2.mono (by omega)), z2⟩

theorem ffits_any (sup : List Int) (t0 t1 u0 u1 : Int) (A : Option Addr) (c : Nat) (w : World) (hl : sup.length ≤ 1048576) (h : Supers w w.heap.size A sup) :
    Calls Try.prog 52 #[.slice A sup.length c, tyV t0 t1, tyV u0 u1] w fun e w' => e = .returned (.bool (fitB sup (t0, t1) (u0, u1))) ∧ Below w.heap.size w w' := by
  obtain ⟨c1, c2, hb, hz⟩ := two_ty w t0 t1 u0 u1
  have HC1 := Lib.hid c1
  have HC2 := Lib.hid c2
  have HW := Lib.hid hb
  have HZ := Lib.hid hz
  have HS := Lib.hid (h.below_to hb (Nat.le_refl _))
  clear c1 c2 hb hz h
  by_cases h6 : u0 = 6
  · subst h6
    have e : fitB sup (t0, t1) (6, u1) = true := rfl
    rw [e]
    clear e
    go_enter Try.func52, Try.ntmps52
    go_upto_region 1 with fail
    generalize (w.alloc (.cells #[.int .i64 t0, .int .i64 t1] 38)).alloc (.cells #[.int .i64 6, .int .i64 u1] 38) = w1 at *
    have d0 := HC2.out 0 _ rfl
    go_wp2_with fail
    go_ret
    exact ⟨rfl, HW.out⟩
  · by_cases h7 : u0 = 7
    · subst h7
      obtain ⟨r, hr⟩ : ∃ r, isRefB t0 = r := ⟨_, rfl⟩
      have HR := Lib.hid hr
      have e : fitB sup (t0, t1) (7, u1) = r := hr
      rw [e]
      clear e hr h6
      go_enter Try.func52, Try.ntmps52
      go_upto_region 1 with fail
      generalize (w.alloc (.cells #[.int .i64 t0, .int .i64 t1] 38)).alloc (.cells #[.int .i64 7, .int .i64 u1] 38) = w1 at *
      have d0 := HC2.out 0 _ rfl
      have e0 := HC1.out 0 _ rfl
      have e1 := HC1.out 1 _ rfl
      go_wp2_with (go_at_call 68; (with_reducible refine (kisref_is HR).mono ?_); rintro e w2 ⟨rfl, hb⟩; have HB2 := Lib.hid hb; clear hb)
      go_ret
      exact ⟨rfl, HW.out.trans (HB2.out.mono HW.out.size)⟩
    · by_cases h8 : u0 = 8
      · subst h8
        obtain ⟨r, hr⟩ : ∃ r, isRefB t0 = r := ⟨_, rfl⟩
        have HR := Lib.hid hr
        have e : fitB sup (t0, t1) (8, u1) = (r && !(decide (t0 = 2))) := by rw [← hr]; rfl
        rw [e]
        clear e hr h6 h7
        cases r
        · go_enter Try.func52, Try.ntmps52
          go_upto_region 1 with fail
          generalize (w.alloc (.cells #[.int .i64 t0, .int .i64 t1] 38)).alloc (.cells #[.int .i64 8, .int .i64 u1] 38) = w1 at *
          have d0 := HC2.out 0 _ rfl
          have e0 := HC1.out 0 _ rfl
          have e1 := HC1.out 1 _ rfl
          go_wp2_with (go_at_call 68; (with_reducible refine (kisref_is HR).mono ?_); rintro e w2 ⟨rfl, hb⟩; have HB2 := Lib.hid hb; have e0 := (HC1.out.keep hb (by have := HZ.out; omega)) 0 _ rfl; clear hb)
          go_ret
          exact ⟨rfl, HW.out.trans (HB2.out.mono HW.out.size)⟩
        · go_enter Try.func52, Try.ntmps52
          go_upto_region 1 with fail
          generalize (w.alloc (.cells #[.int .i64 t0, .int .i64 t1] 38)).alloc (.cells #[.int .i64 8, .int .i64 u1] 38) = w1 at *
          have d0 := HC2.out 0 _ rfl
          have e0 := HC1.out 0 _ rfl
          have e1 := HC1.out 1 _ rfl
          go_wp2_with (go_at_call 68; (with_reducible refine (kisref_is HR).mono ?_); rintro e w2 ⟨rfl, hb⟩; have HB2 := Lib.hid hb; have e0 := (HC1.out.keep hb (by have := HZ.out; omega)) 0 _ rfl; clear hb)
          go_ret
          refine ⟨?_, HW.out.trans (HB2.out.mono HW.out.size)⟩
          by_cases h2 : t0 = 2 <;> simp [h2]
      · have e : fitB sup (t0, t1) (u0, u1) = subB sup t0 t1 u0 u1 := by unfold fitB; rw [if_neg h6, if_neg h7, if_neg h8]
        rw [e]
        clear e
        go_enter Try.func52, Try.ntmps52
        go_upto_region 1 with fail
        generalize (w.alloc (.cells #[.int .i64 t0, .int .i64 t1] 38)).alloc (.cells #[.int .i64 u0, .int .i64 u1] 38) = w1 at *
        have d0 := HC2.out 0 _ rfl
        have d1 := HC2.out 1 _ rfl
        have e0 := HC1.out 0 _ rfl
        have e1 := HC1.out 1 _ rfl
        go_wp2_with (go_at_call 69; (with_reducible refine (ksub_any sup t0 t1 u0 u1 A c w.heap.size w1 hl HW.out.size HS.out).mono ?_); rintro e w2 ⟨rfl, hb⟩; have HB2 := Lib.hid hb; clear hb)
        go_ret
        exact ⟨rfl, HW.out.trans (HB2.out.mono HW.out.size)⟩

abbrev fitF (N : Nat) : Value := .func (.func 51) #[] #[.pointer (some ⟨N, 0, none⟩)]
theorem ffit1_any (sup : List Int) (t0 t1 u0 u1 : Int) (A : Option Addr) (c N : Nat) (w : World) (hl : sup.length ≤ 1048576) (h : Supers w w.heap.size A sup) (hN : N < w.heap.size) (hc : w.cell? ⟨N, 0, none⟩ = some (.slice A sup.length c)) :
    Calls Try.prog 51 #[tyV t0 t1, tyV u0 u1, .pointer (some ⟨N, 0, none⟩)] w fun e w' => e = .returned (.bool (fitB sup (t0, t1) (u0, u1))) ∧ Below w.heap.size w w' := by
  obtain ⟨c1, c2, hb, hz⟩ := two_ty w t0 t1 u0 u1
  have HC1 := Lib.hid c1
  have HC2 := Lib.hid c2
  have HW := Lib.hid hb
  have HS : Hid (Supers _ _ A sup) := Lib.hid (Supers.below_to h hb (Nat.le_refl _))
  have HC := Lib.hid ((hb.cell (p := ⟨N, 0, none⟩) hN).trans hc)
  clear c1 c2 hb hz h hc
  go_enter Try.func51, Try.ntmps51
  go_upto_region 1 with fail
  generalize (w.alloc (.cells #[.int .i64 t0, .int .i64 t1] 38)).alloc (.cells #[.int .i64 u0, .int .i64 u1] 38) = w1 at *
  have d0 := HC2.out 0 _ rfl
  have d1 := HC2.out 1 _ rfl
  have e0 := HC1.out 0 _ rfl
  have e1 := HC1.out 1 _ rfl
  have c0 := HC.out
  have HS1 : Hid (Supers w1 w1.heap.size A sup) := Lib.hid (fun i s hs => by
    obtain ⟨ad, e, hb, hc⟩ := HS.out i s hs
    exact ⟨ad, e, Nat.lt_of_lt_of_le hb HW.out.size, hc⟩)
  go_wp2_with (go_at_call 52; (with_reducible refine (ffits_any sup t0 t1 u0 u1 A c w1 hl HS1.out).mono ?_); rintro e w2 ⟨rfl, hb⟩; have HB2 := Lib.hid hb; clear hb)
  go_ret
  exact ⟨rfl, HW.out.trans (HB2.out.mono HW.out.size)⟩
end Go.Proofs.Ytndacljmcofopaa
