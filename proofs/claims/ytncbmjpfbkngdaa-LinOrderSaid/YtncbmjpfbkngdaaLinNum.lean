/-
  Numbers that may have grown too great, counted with, as plain data; rows of such numbers. Plain definitions and lemmas; no conditions.
-/
import Derived.Test.YtncbmjpfbkngdaaLinMath
import Derived.Test.YtncbmjpfbkngdaaWholeOf
import Derived.IntWalk
namespace Go.Proofs.Ytncbmjpfbkngdaa
set_option maxRecDepth 100000
set_option linter.unusedVariables false
set_option linter.unusedSimpArgs false
open Go.ChangeShapes Go.WideShapes Go.ChangeAt Go.RowKit
set_option linter.unusedVariables false

/-- A number, unless it is too great. -/
def ofO (n : Int) : Option Int := if fineB n = true then some n else none
def addO : Option Int → Option Int → Option Int
  | some a, some b => ofO (a + b)
  | _, _ => none
def mulO : Option Int → Option Int → Option Int
  | some a, some b => ofO (a * b)
  | _, _ => none
def FineO (r : Option Int) : Prop := ∀ n, r = some n → fineB n = true
theorem ofO_fine (n : Int) : FineO (ofO n) := fun k e => by
  unfold ofO at e
  split at e
  · injection e with e; subst e; assumption
  · cases e
theorem addO_fine (a b : Option Int) : FineO (addO a b) := by
  cases a with
  | none => intro k e; cases e
  | some x => cases b with
    | none => intro k e; cases e
    | some y => exact ofO_fine _
theorem mulO_fine (a b : Option Int) : FineO (mulO a b) := by
  cases a with
  | none => intro k e; cases e
  | some x => cases b with
    | none => intro k e; cases e
    | some y => exact ofO_fine _
theorem fine_zero : FineO (some 0) := fun n e => by injection e with e; subst e; rfl
theorem mul_times (a b : Int) : mulO (ofO a) (ofO b) = timesR a b := by
  unfold timesR ofO
  cases ha : fineB a with
  | false => cases hb : fineB b with
    | false => simp [mulO]
    | true => simp [mulO]
  | true => cases hb : fineB b with
    | false => simp [mulO]
    | true => cases hc : fineB (a * b) with
      | false => simp [mulO, ofO, hc]
      | true => simp [mulO, ofO, hc]
theorem times_fine {a b n : Int} (h : timesR a b = some n) : fineB n = true := by
  rw [← mul_times] at h
  exact mulO_fine _ _ n h
theorem add_plus {a b : Int} (ha : fineB a = true) (hb : fineB b = true) : addO (some a) (some b) = plusR a b := by
  unfold plusR
  cases hc : fineB (a + b) with
  | false => simp [addO, ofO, hc]
  | true => simp [addO, ofO, hc, ha, hb]
/-- One product more. -/
def stepO (s : Option Int) (p : Int × Int) : Option Int := addO s (mulO (ofO p.1) (ofO p.2))
theorem stepO_fine (s : Option Int) (p : Int × Int) : FineO (stepO s p) := addO_fine _ _
def foldO (s : Option Int) (l : List (Int × Int)) : Option Int := l.foldl stepO s
theorem foldO_none : ∀ l : List (Int × Int), foldO none l = none
  | [] => rfl
  | p :: l => foldO_none l
theorem foldO_dot : ∀ (l : List (Int × Int)) (s : Int), fineB s = true → foldO (some s) l = dotFrom s l
  | [], s, h => rfl
  | p :: l, s, h => by
    show foldO (stepO (some s) p) l = _
    unfold stepO
    rw [mul_times]
    cases hx : timesR p.1 p.2 with
    | none => rw [dot_none hx]; exact foldO_none l
    | some x =>
      rw [add_plus h (times_fine hx)]
      cases hy : plusR s x with
      | none => rw [dot_over hx hy]; exact foldO_none l
      | some y =>
        rw [dot_some hx hy]
        have hf : fineB y = true := by
          rw [← add_plus h (times_fine hx)] at hy
          exact addO_fine _ _ y hy
        exact foldO_dot l y hf
/-- The sum of the first so many products. -/
def partO (L M : List Int) (i : Nat) : Option Int := foldO (some 0) ((L.zip M).take i)
theorem partO_zero (L M : List Int) : partO L M 0 = some 0 := rfl
theorem foldO_fine : ∀ (l : List (Int × Int)) (s : Option Int), FineO s → FineO (foldO s l)
  | [], s, h => h
  | p :: l, s, h => foldO_fine l (stepO s p) (stepO_fine s p)
theorem partO_fine (L M : List Int) (i : Nat) : FineO (partO L M i) := foldO_fine _ _ fine_zero
theorem partO_succ {L M : List Int} {i : Nat} {x y : Int} (h1 : L[i]? = some x) (h2 : M[i]? = some y) : partO L M (i + 1) = addO (partO L M i) (mulO (ofO x) (ofO y)) := by
  have hz : (L.zip M)[i]? = some (x, y) := by rw [List.getElem?_zip_eq_some]; exact ⟨h1, h2⟩
  unfold partO
  rw [List.take_add_one, hz]
  unfold foldO
  rw [List.foldl_append]
  rfl
theorem partO_all {L M : List Int} {n : Nat} (h : (L.zip M).length ≤ n) : partO L M n = dotR L M := by
  unfold partO
  rw [List.take_of_length_le h, foldO_dot _ _ rfl]
  rfl
/-- A product that has wrapped round does not come back by division. -/
theorem wrap_quo {x y n : Int} (hx : fineB x = true) (hy : fineB y = true) (h0 : y ≠ 0) (hn : IntKind.i64.wrap (x * y) = n) : (-9223372036854775808 ≤ Int.tdiv n y ∧ Int.tdiv n y < 9223372036854775808) ∧ (Int.tdiv n y = x → n = x * y) := by
  have ⟨x1, x2⟩ := fine_iff.mp hx
  have ⟨y1, y2⟩ := fine_iff.mp hy
  have hr : -9223372036854775808 ≤ n ∧ n < 9223372036854775808 ∧ ∃ k : Int, n = x * y + k * 18446744073709551616 := by
    rw [IntKind.wrap_i64] at hn
    refine ⟨by omega, by omega, ?_⟩
    refine ⟨(n - x * y) / 18446744073709551616, ?_⟩
    omega
  obtain ⟨n1, n2, k, hk⟩ := hr
  have hd := Int.mul_tdiv_add_tmod n y
  have hm1 : (Int.tmod n y).natAbs < y.natAbs := by
    rw [Int.natAbs_tmod]
    exact Nat.mod_lt _ (Int.natAbs_pos.mpr h0)
  have hq : (Int.tdiv n y).natAbs = n.natAbs / y.natAbs := by rw [Int.natAbs_tdiv]; rfl
  have hback : Int.tdiv n y = x → n = x * y := fun e => by
    rw [e, Int.mul_comm y x] at hd
    have : k * 18446744073709551616 = Int.tmod n y := by omega
    have hk0 : k = 0 := by omega
    rw [hk0] at hk
    omega
  refine ⟨?_, hback⟩
  by_cases e1 : y = -1
  · subst e1
    have hxy : x * -1 = -x := by omega
    have hnx : n = -x := by
      rw [hxy] at hn
      rw [← hn]
      exact IntWalk.i64_in _ (by omega)
    rw [hnx, show ((-1 : Int)) = -(1 : Int) by rfl, Int.tdiv_neg, Int.tdiv_one]
    omega
  · have hle : n.natAbs / y.natAbs ≤ n.natAbs := Nat.div_le_self _ _
    by_cases e2 : y = 1
    · subst e2; rw [Int.tdiv_one]; omega
    · have h2 : 2 ≤ y.natAbs := by omega
      have : n.natAbs / y.natAbs ≤ n.natAbs / 2 := Nat.div_le_div_left h2 (by decide)
      omega
/-- What the program's product comes to. -/
theorem mul_prog {x y n : Int} (hx : fineB x = true) (hy : fineB y = true) (h0 : y ≠ 0) (hn : IntKind.i64.wrap (x * y) = n) : (Int.tdiv n y ≠ x → fineB (x * y) = false) ∧ (Int.tdiv n y = x → n = x * y) := by
  have ⟨_, hb⟩ := wrap_quo hx hy h0 hn
  refine ⟨fun h => ?_, hb⟩
  cases hf : fineB (x * y) with
  | false => rfl
  | true =>
    have ⟨a, b⟩ := fine_iff.mp hf
    exfalso
    apply h
    rw [← hn, IntWalk.i64_in _ (by omega)]
    exact Int.mul_tdiv_cancel x h0

/-- A number's cells; a row of numbers. -/
def numC (r : Option Int) : List Value := [.int .i64 (r.getD 0), .bool r.isNone]
abbrev numV (r : Option Int) : Value := .agg #[.int .i64 (r.getD 0), .bool r.isNone]
def numsV (X : List (Option Int)) : List Value := X.flatMap numC
theorem numsV_len (X : List (Option Int)) : (numsV X).length = X.length * 2 := flat_length (f := numC) (k := 2) (fun _ => rfl) X
theorem nums_at {w : World} {g i : Nat} {X : List (Option Int)} {T : TypeId} {r : Option Int} (h : Whole w g (numsV X) T) (hi : X[i]? = some r) : w.cell? ⟨g, i * 2, none⟩ = some (.int .i64 (r.getD 0)) ∧ w.cell? ⟨g, i * 2 + 1, none⟩ = some (.bool r.isNone) :=
  ⟨h.cells _ _ (flat_get (f := numC) (k := 2) (fun _ => rfl) X i 0 r hi (by decide)), h.cells _ _ (flat_get (f := numC) (k := 2) (fun _ => rfl) X i 1 r hi (by decide))⟩
theorem numsV_set : ∀ (X : List (Option Int)) (i : Nat) (r : Option Int), i < X.length → numsV (X.set i r) = ((numsV X).set (i * 2) (.int .i64 (r.getD 0))).set (i * 2 + 1) (.bool r.isNone)
  | [], i, x, h => by simp at h
  | y :: X, 0, x, h => rfl
  | y :: X, i + 1, x, h => by
    have := numsV_set X i x (by simpa using h)
    show numC y ++ numsV (X.set i x) = ((numC y ++ numsV X).set _ _).set _ _
    rw [this, show (i + 1) * 2 = i * 2 + 2 by omega]
    rfl
theorem nums_put {w : World} {g i : Nat} {X : List (Option Int)} {T : TypeId} {r : Option Int} (h : Whole w g (numsV X) T) (hi : i < X.length) : Whole ((w.setCell ⟨g, i * 2, none⟩ (.int .i64 (r.getD 0))).setCell ⟨g, i * 2 + 1, none⟩ (.bool r.isNone)) g (numsV (X.set i r)) T := by
  rw [numsV_set X i r hi]
  exact (h.set _ _).set _ _
theorem nums_put1 {w : World} {g : Nat} {s r : Option Int} {T : TypeId} (h : Whole w g (numC s) T) : Whole ((w.setCell ⟨g, 0, none⟩ (.int .i64 (r.getD 0))).setCell ⟨g, 1, none⟩ (.bool r.isNone)) g (numC r) T := (h.set 0 _).set 1 _
theorem Whole.drew' {w : World} {g : Nat} {vs : List Value} {T : TypeId} (h : Whole w g vs T) : Whole w.drew g vs T := h
end Go.Proofs.Ytncbmjpfbkngdaa
