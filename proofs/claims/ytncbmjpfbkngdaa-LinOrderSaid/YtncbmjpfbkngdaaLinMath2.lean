/-
  Sums of products as plain numbers, and what they come to of what is small, in any order, and twice. Plain definitions and lemmas; no conditions.
-/
import Derived.Test.YtncbmjpfbkngdaaLinMath
namespace Go.Proofs.Ytncbmjpfbkngdaa
set_option maxRecDepth 100000
set_option linter.unusedVariables false
set_option linter.unusedSimpArgs false
open Go.ChangeShapes Go.WideShapes Go.ChangeAt Go.RowKit
set_option linter.unusedVariables false

def dotI : List Int → List Int → Int
  | a :: l, b :: m => a * b + dotI l m
  | [], _ => 0
  | _ :: _, [] => 0
theorem dotI_nil_right (a : List Int) : dotI a [] = 0 := by cases a <;> rfl
theorem times_eq {a b x : Int} (h : timesR a b = some x) : x = a * b := by
  unfold timesR at h
  split at h
  · injection h with h; exact h.symm
  · cases h
theorem plus_eq {a b x : Int} (h : plusR a b = some x) : x = a + b := by
  unfold plusR at h
  split at h
  · injection h with h; exact h.symm
  · cases h
theorem dotFrom_eq : ∀ (a b : List Int) (s x : Int), dotFrom s (a.zip b) = some x → x = s + dotI a b
  | [], b, s, x, h => by simp [dotFrom] at h; simp [dotI, h]
  | a :: l, [], s, x, h => by simp [dotFrom] at h; simp [dotI, h]
  | a :: l, b :: m, s, x, h => by
    rw [List.zip_cons_cons] at h
    cases ht : timesR a b with
    | none => rw [dot_none (p := (a, b)) ht] at h; cases h
    | some y =>
      cases hp : plusR s y with
      | none => rw [dot_over (p := (a, b)) ht hp] at h; cases h
      | some z =>
        rw [dot_some (p := (a, b)) ht hp] at h
        have := dotFrom_eq l m z x h
        have e1 := times_eq ht
        have e2 := plus_eq hp
        show x = s + (a * b + dotI l m)
        rw [this, e2, e1, Int.add_assoc]
theorem dotR_eq {a b : List Int} {x : Int} (h : dotR a b = some x) : x = dotI a b := by
  have := dotFrom_eq a b 0 x h
  rw [this, Int.zero_add]
theorem fine_abs {n : Int} (h : n.natAbs < 4611686018427387904) : fineB n = true := fine_iff.mpr ⟨by omega, by omega⟩
theorem dotFrom_small (P Q : Nat) (hP : P < 4611686018427387904) (hQ : Q < 4611686018427387904) (hPQ : P * Q < 4611686018427387904) : ∀ (a b : List Int) (s : Int), (∀ x ∈ a, x.natAbs ≤ P) → (∀ y ∈ b, y.natAbs ≤ Q) → s.natAbs + a.length * (P * Q) < 4611686018427387904 →
    dotFrom s (a.zip b) = some (s + dotI a b)
  | [], b, s, _, _, _ => by simp [dotFrom, dotI]
  | a :: l, [], s, _, _, _ => by simp [dotFrom, dotI]
  | a :: l, b :: m, s, ha, hb, hs => by
    have h1 := ha a (by simp)
    have h2 := hb b (by simp)
    have h3 : (a * b).natAbs ≤ P * Q := by rw [Int.natAbs_mul]; exact Nat.mul_le_mul h1 h2
    have h4 : (s + a * b).natAbs ≤ s.natAbs + P * Q := Nat.le_trans (Int.natAbs_add_le _ _) (Nat.add_le_add_left h3 _)
    have h5 : (l.length + 1) * (P * Q) = l.length * (P * Q) + P * Q := Nat.succ_mul _ _
    rw [List.length_cons, h5] at hs
    have ht : timesR a b = some (a * b) := if_pos ⟨fine_abs (by omega), fine_abs (by omega), fine_abs (by omega)⟩
    have hp : plusR s (a * b) = some (s + a * b) := if_pos ⟨fine_abs (by omega), fine_abs (by omega), fine_abs (by omega)⟩
    rw [List.zip_cons_cons, dot_some (p := (a, b)) ht hp, dotFrom_small P Q hP hQ hPQ l m (s + a * b) (fun x hx => ha x (by simp [hx])) (fun x hx => hb x (by simp [hx])) (by omega)]
    show some (s + a * b + dotI l m) = some (s + (a * b + dotI l m))
    rw [Int.add_assoc]
theorem dotR_small {P Q : Nat} (hP : P < 4611686018427387904) (hQ : Q < 4611686018427387904) (hPQ : P * Q < 4611686018427387904) {a b : List Int} (ha : ∀ x ∈ a, x.natAbs ≤ P) (hb : ∀ y ∈ b, y.natAbs ≤ Q) (h : a.length * (P * Q) < 4611686018427387904) : dotR a b = some (dotI a b) := by
  have := dotFrom_small P Q hP hQ hPQ a b 0 ha hb (by simpa using h)
  rw [Int.zero_add] at this
  exact this
/-- Its size, where the parts are small. -/
theorem dotI_abs {P Q : Nat} : ∀ (a b : List Int), (∀ x ∈ a, x.natAbs ≤ P) → (∀ y ∈ b, y.natAbs ≤ Q) → (dotI a b).natAbs ≤ a.length * (P * Q)
  | [], b, _, _ => by simp [dotI]
  | a :: l, [], _, _ => by simp [dotI]
  | a :: l, b :: m, ha, hb => by
    have h3 : (a * b).natAbs ≤ P * Q := by rw [Int.natAbs_mul]; exact Nat.mul_le_mul (ha a (by simp)) (hb b (by simp))
    have h4 := dotI_abs l m (fun x hx => ha x (by simp [hx])) (fun x hx => hb x (by simp [hx]))
    have h5 : (l.length + 1) * (P * Q) = l.length * (P * Q) + P * Q := Nat.succ_mul _ _
    have h6 : (a * b + dotI l m).natAbs ≤ (a * b).natAbs + (dotI l m).natAbs := Int.natAbs_add_le _ _
    show (a * b + dotI l m).natAbs ≤ _
    rw [List.length_cons, h5]
    omega
theorem dotI_append : ∀ (a b c d : List Int), a.length = b.length → dotI (a ++ c) (b ++ d) = dotI a b + dotI c d
  | [], [], c, d, _ => by simp [dotI]
  | a :: l, b :: m, c, d, h => by
    show a * b + dotI (l ++ c) (m ++ d) = a * b + dotI l m + dotI c d
    rw [dotI_append l m c d (by simpa using h), Int.add_assoc]
theorem dotI_reverse : ∀ (a b : List Int), a.length = b.length → dotI a.reverse b.reverse = dotI a b
  | [], [], _ => rfl
  | a :: l, b :: m, h => by
    have hl : l.length = m.length := by simpa using h
    rw [List.reverse_cons, List.reverse_cons, dotI_append _ _ _ _ (by simp [hl]), dotI_reverse l m hl]
    show dotI l m + (a * b + 0) = a * b + dotI l m
    omega
theorem dotI_twice : ∀ (a b : List Int), dotI a (b.map (2 * ·)) = 2 * dotI a b
  | [], b => by simp [dotI]
  | a :: l, [] => by simp [dotI]
  | a :: l, b :: m => by
    show a * (2 * b) + dotI l (m.map (2 * ·)) = 2 * (a * b + dotI l m)
    rw [dotI_twice l m, Int.mul_add, Int.mul_left_comm]
theorem dotI_scale (k : Int) : ∀ (a b : List Int), dotI (a.map (· * k)) b = dotI a b * k
  | [], b => by simp [dotI]
  | a :: l, [] => by simp [dotI]
  | a :: l, b :: m => by
    show a * k * b + dotI (l.map (· * k)) m = (a * b + dotI l m) * k
    rw [dotI_scale k l m, Int.add_mul, Int.mul_right_comm]
theorem dotI_sum {f g : Nat → Int} : ∀ (I : List Nat) (b : List Int), dotI (I.map fun v => f v + g v) b = dotI (I.map f) b + dotI (I.map g) b
  | [], b => by simp [dotI]
  | i :: I, [] => by simp [dotI]
  | i :: I, b :: m => by
    show (f i + g i) * b + dotI (I.map fun v => f v + g v) m = f i * b + dotI (I.map f) m + (g i * b + dotI (I.map g) m)
    rw [dotI_sum I m, Int.add_mul]
    omega
theorem dotI_zero : ∀ (I : List Nat) (b : List Int), dotI (I.map fun _ => (0 : Int)) b = 0
  | [], b => by simp [dotI]
  | i :: I, [] => by simp [dotI]
  | i :: I, b :: m => by
    show 0 * b + dotI (I.map fun _ => (0 : Int)) m = 0
    rw [dotI_zero I m]
    omega
theorem dotI_le : ∀ (a c t : List Int), a.length = c.length → (∀ (i : Nat) (x y : Int), a[i]? = some x → c[i]? = some y → x ≤ y) → (∀ x ∈ t, 0 ≤ x) → dotI a t ≤ dotI c t
  | [], [], t, _, _, _ => Int.le_refl _
  | a :: l, c :: m, [], _, _, _ => Int.le_refl _
  | a :: l, c :: m, t :: k, h, hle, ht => by
    have h1 := dotI_le l m k (by simpa using h) (fun i x y hx hy => hle (i + 1) x y (by simpa using hx) (by simpa using hy)) (fun x hx => ht x (by simp [hx]))
    have h2 : a * t ≤ c * t := Int.mul_le_mul_of_nonneg_right (hle 0 a c rfl rfl) (ht t (by simp))
    show a * t + dotI l k ≤ c * t + dotI m k
    omega
/-- All of all variables, as plain numbers. -/
def colsI (list : List Inq) (times : List Int) (n : Nat) : List Int := (List.range n).map fun v => dotI (colR list v) times
theorem colsI_len (list : List Inq) (times : List Int) (n : Nat) : (colsI list times n).length = n := by unfold colsI; simp
theorem cols_eq {list : List Inq} {times : List Int} : ∀ {n : Nat} {l : List Int}, colsR list times n = some l → l = colsI list times n
  | 0, l, h => by
    injection h with h
    exact h.symm
  | n + 1, l, h => by
    unfold colsR at h
    cases h1 : colsR list times n with
    | none => rw [h1] at h; cases h
    | some l1 =>
      rw [h1] at h
      cases h2 : dotR (colR list n) times with
      | none => simp only [h2] at h; cases h
      | some x =>
        simp only [h2] at h
        injection h with h
        rw [← h, cols_eq h1, dotR_eq h2]
        unfold colsI
        rw [List.range_succ, List.map_append]
        rfl
theorem cols_small {list : List Inq} {times : List Int} : ∀ {n : Nat}, (∀ v < n, dotR (colR list v) times = some (dotI (colR list v) times)) → colsR list times n = some (colsI list times n)
  | 0, _ => rfl
  | n + 1, h => by
    unfold colsR
    rw [cols_small (fun v hv => h v (by omega))]
    simp only [h n (by omega)]
    unfold colsI
    rw [List.range_succ, List.map_append]
    rfl
/-- The sum over all variables of all inequalities is the sum over all inequalities of all variables. -/
theorem dot_turn (n : Nat) (x : List Int) : ∀ (list : List Inq) (t : List Int), list.length = t.length → (∀ q ∈ list, q.1.length = n) → dotI (colsI list t n) x = dotI (list.map fun q => dotI q.1 x) t
  | [], [], _, _ => by
    show dotI ((List.range n).map fun v => dotI (colR [] v) []) x = 0
    exact dotI_zero _ _
  | q :: list, k :: t, h, hq => by
    have h1 := dot_turn n x list t (by simpa using h) (fun p hp => hq p (by simp [hp]))
    have e : colsI (q :: list) (k :: t) n = (List.range n).map fun v => (q.1[v]?.getD 0 * k) + dotI (colR list v) t := rfl
    have e2 : (List.range n).map (fun v => q.1[v]?.getD 0 * k) = q.1.map (· * k) := by
      have hl := hq q (by simp)
      refine List.ext_getElem (by simp [hl]) fun i hi hj => ?_
      simp at hi hj
      simp [List.getElem?_eq_getElem hj]
    rw [e, dotI_sum, e2, dotI_scale]
    show dotI q.1 x * k + dotI (colsI list t n) x = dotI q.1 x * k + dotI (list.map fun q => dotI q.1 x) t
    rw [h1]
theorem sum_parts {list : List Inq} {times L : List Int} {n : Nat} {x : Int} (h : sumR list times (n : Int) = some (L, x)) :
    list.length = times.length ∧ (∀ t ∈ times, 0 ≤ t) ∧ (∀ q ∈ list, q.1.length = n) ∧ L = colsI list times n ∧ x = dotI (list.map Prod.snd) times := by
  unfold sumR at h
  split at h
  · rename_i hok
    unfold sumOk at hok
    simp only [Bool.and_eq_true, decide_eq_true_eq, List.all_eq_true, List.mem_range] at hok
    obtain ⟨h1, _, _, h4⟩ := hok
    cases h2 : dotR (list.map Prod.snd) times with
    | none => simp only [h2] at h; cases h
    | some y =>
      cases h3 : colsR list times ((n : Int).toNat) with
      | none => simp only [h2, h3] at h; cases h
      | some l =>
        simp only [h2, h3] at h
        injection h with h
        injection h with ha hb
        refine ⟨h1, fun t ht => ?_, fun q hq => ?_, ?_, ?_⟩
        · obtain ⟨i, hi, rfl⟩ := List.getElem_of_mem ht
          have := (h4 i (by omega)).1
          rw [List.getElem?_eq_getElem hi] at this
          exact this
        · obtain ⟨i, hi, rfl⟩ := List.getElem_of_mem hq
          have := (h4 i hi).2
          rw [List.getElem?_eq_getElem hi] at this
          have : ((list[i].1.length : Nat) : Int) = n := this
          omega
        · rw [← ha]; exact cols_eq h3
        · rw [← hb]; exact dotR_eq h2
  · cases h
/-- Where inequalities hold, what they come to does. -/
theorem sum_sound {list : List Inq} {times L x : List Int} {n : Nat} {y : Int} (h : sumR list times (n : Int) = some (L, y)) (hx : ∀ q ∈ list, dotI q.1 x ≤ q.2) : dotI L x ≤ y := by
  obtain ⟨h1, h2, h3, h4, h5⟩ := sum_parts h
  rw [h4, h5, dot_turn n x list times h1 h3]
  refine dotI_le _ _ _ (by simp) (fun i a c ha hc => ?_) h2
  rw [List.getElem?_map] at ha hc
  cases hq : list[i]? with
  | none => rw [hq] at ha; cases ha
  | some q =>
    rw [hq] at ha hc
    injection ha with ha
    injection hc with hc
    rw [← ha, ← hc]
    exact hx q (List.mem_of_getElem? hq)
/-- Small inequalities, few of them, few times: they come to something. -/
theorem sum_small {list : List Inq} {times : List Int} {n P Q : Nat} (hlen : list.length = times.length) (hn : n ≤ 64) (ht : ∀ t ∈ times, 0 ≤ t ∧ t.natAbs ≤ Q) (hq : ∀ q ∈ list, q.1.length = n ∧ q.2.natAbs ≤ P ∧ ∀ c ∈ q.1, c.natAbs ≤ P) (hP : P < 4611686018427387904) (hQ : Q < 4611686018427387904) (hPQ : P * Q < 4611686018427387904) (hL : list.length * (P * Q) < 4611686018427387904) :
    sumR list times (n : Int) = some (colsI list times n, dotI (list.map Prod.snd) times) := by
  have hok : sumOk list times (n : Int) = true := by
    unfold sumOk
    simp only [Bool.and_eq_true, decide_eq_true_eq, List.all_eq_true, List.mem_range]
    refine ⟨hlen, by omega, by omega, fun i hi => ⟨?_, ?_⟩⟩
    · rw [List.getElem?_eq_getElem (by omega)]
      exact (ht _ (List.getElem_mem _)).1
    · rw [List.getElem?_eq_getElem hi]
      have := (hq _ (List.getElem_mem hi)).1
      show ((list[i].1.length : Nat) : Int) = n
      omega
  have hT : ∀ t ∈ times, t.natAbs ≤ Q := fun t h => (ht t h).2
  have h2 : dotR (list.map Prod.snd) times = some (dotI (list.map Prod.snd) times) := dotR_small hP hQ hPQ (fun x hx => by
    obtain ⟨q, h, rfl⟩ := List.mem_map.mp hx
    exact (hq q h).2.1) hT (by rw [List.length_map]; exact hL)
  have h3 : colsR list times n = some (colsI list times n) := cols_small fun v hv => dotR_small hP hQ hPQ (fun x hx => by
    unfold colR at hx
    obtain ⟨q, h, rfl⟩ := List.mem_map.mp hx
    have hl := (hq q h).1
    rw [List.getElem?_eq_getElem (by omega)]
    exact (hq q h).2.2 _ (List.getElem_mem _)) hT (by unfold colR; rw [List.length_map]; exact hL)
  unfold sumR
  rw [if_pos hok]
  simp only [h2, show ((n : Nat) : Int).toNat = n from rfl, h3]
/-- In any order. -/
theorem sum_turned (list : List Inq) (times : List Int) (n : Nat) (h : list.length = times.length) : colsI list.reverse times.reverse n = colsI list times n ∧ dotI (list.reverse.map Prod.snd) times.reverse = dotI (list.map Prod.snd) times := by
  refine ⟨?_, ?_⟩
  · unfold colsI
    refine List.map_congr_left fun v _ => ?_
    show dotI (list.reverse.map _) times.reverse = dotI (list.map _) times
    rw [List.map_reverse]
    exact dotI_reverse _ _ (by rw [List.length_map]; exact h)
  · rw [List.map_reverse]
    exact dotI_reverse _ _ (by rw [List.length_map]; exact h)
/-- Twice as much. -/
theorem sum_twice (list : List Inq) (times : List Int) (n : Nat) : colsI list (times.map (2 * ·)) n = (colsI list times n).map (2 * ·) ∧ dotI (list.map Prod.snd) (times.map (2 * ·)) = 2 * dotI (list.map Prod.snd) times := by
  refine ⟨?_, dotI_twice _ _⟩
  unfold colsI
  rw [List.map_map]
  exact List.map_congr_left fun v _ => dotI_twice _ _
/-- With more that does not count. -/
theorem sum_more (list : List Inq) (times : List Int) (n : Nat) (q : Inq) (h : list.length = times.length) : colsI (list ++ [q]) (times ++ [0]) n = colsI list times n ∧ dotI ((list ++ [q]).map Prod.snd) (times ++ [0]) = dotI (list.map Prod.snd) times := by
  have hz : ∀ (a : List Int) (x : Int), a.length = times.length → dotI (a ++ [x]) (times ++ [0]) = dotI a times := fun a x ha => by
    rw [dotI_append _ _ _ _ ha]
    show dotI a times + (x * 0 + 0) = _
    omega
  refine ⟨?_, ?_⟩
  · unfold colsI
    refine List.map_congr_left fun v _ => ?_
    show dotI ((list ++ [q]).map _) (times ++ [0]) = dotI (list.map _) times
    rw [List.map_append]
    exact hz _ _ (by rw [List.length_map]; exact h)
  · rw [List.map_append]
    exact hz _ _ (by rw [List.length_map]; exact h)
theorem dotFrom_more : ∀ (a b : List Int) (s x y : Int), a.length = b.length → fineB x = true → fineB s = true → dotFrom s (a.zip b) = some y → dotFrom s ((a ++ [x]).zip (b ++ [0])) = some y
  | [], [], s, x, y, _, hx, hs, h => by
    injection h with h
    subst h
    have ht : timesR x 0 = some 0 := by
      unfold timesR
      rw [Int.mul_zero, if_pos ⟨hx, by decide, by decide⟩]
    have hp : plusR s 0 = some s := by
      unfold plusR
      rw [Int.add_zero, if_pos ⟨hs, by decide, hs⟩]
    show dotFrom s [(x, 0)] = some s
    rw [dot_some (p := (x, 0)) ht hp]
    rfl
  | a :: l, b :: m, s, x, y, hl, hx, hs, h => by
    rw [List.zip_cons_cons] at h
    show dotFrom s ((a, b) :: (l ++ [x]).zip (m ++ [0])) = some y
    cases ht : timesR a b with
    | none => rw [dot_none (p := (a, b)) ht] at h; cases h
    | some u =>
      cases hp : plusR s u with
      | none => rw [dot_over (p := (a, b)) ht hp] at h; cases h
      | some z =>
        rw [dot_some (p := (a, b)) ht hp] at h ⊢
        have hz : fineB z = true := by
          have e := plus_eq hp
          unfold plusR at hp
          split at hp
          · rename_i q; rw [e]; exact q.2.2
          · cases hp
        exact dotFrom_more l m z x y (by simpa using hl) hx hz h
theorem dotR_more {a b : List Int} {x y : Int} (hl : a.length = b.length) (hx : fineB x = true) (h : dotR a b = some y) : dotR (a ++ [x]) (b ++ [0]) = some y :=
  dotFrom_more a b 0 x y hl hx (by decide) h
/-- What some come to, more of which none counts come to, if these are not too great. -/
theorem sumR_more {list : List Inq} {times : List Int} {n : Nat} {q S : Inq} (h : sumR list times (n : Int) = some S) (hl : q.1.length = n) (hm : fineB q.2 = true) (hc : ∀ c ∈ q.1, fineB c = true) : sumR (list ++ [q]) (times ++ [0]) (n : Int) = some S := by
  obtain ⟨L, x⟩ := S
  obtain ⟨h1, h2, h3, h4, h5⟩ := sum_parts h
  unfold sumR at h
  split at h
  · rename_i hok
    have hn : n ≤ 64 := by
      unfold sumOk at hok
      simp only [Bool.and_eq_true, decide_eq_true_eq] at hok
      omega
    cases h6 : dotR (list.map Prod.snd) times with
    | none => simp only [h6] at h; cases h
    | some y =>
      cases h7 : colsR list times n with
      | none => simp only [h6, show ((n : Nat) : Int).toNat = n from rfl, h7] at h; cases h
      | some l =>
        simp only [h6, show ((n : Nat) : Int).toNat = n from rfl, h7] at h
        have hk : sumOk (list ++ [q]) (times ++ [0]) (n : Int) = true := by
          unfold sumOk
          simp only [Bool.and_eq_true, decide_eq_true_eq, List.all_eq_true, List.mem_range, List.length_append, List.length_cons, List.length_nil]
          refine ⟨by omega, by omega, by omega, fun i hi => ?_⟩
          rcases Nat.lt_or_ge i list.length with g | g
          · rw [List.getElem?_append_left (by omega), List.getElem?_append_left g, List.getElem?_eq_getElem (show i < times.length by omega), List.getElem?_eq_getElem g]
            exact ⟨h2 _ (List.getElem_mem _), by have := h3 _ (List.getElem_mem g); show ((list[i].1.length : Nat) : Int) = n; omega⟩
          · have e : i = list.length := by omega
            subst e
            rw [h1, List.getElem?_concat_length, ← h1, List.getElem?_concat_length]
            exact ⟨Int.le_refl _, by show ((q.1.length : Nat) : Int) = n; omega⟩
        have c0 : dotR ((list ++ [q]).map Prod.snd) (times ++ [0]) = some y := by
          rw [List.map_append]
          exact dotR_more (by rw [List.length_map]; exact h1) hm h6
        have c1 : ∀ {k : Nat} {l : List Int}, k ≤ n → colsR list times k = some l → colsR (list ++ [q]) (times ++ [0]) k = some l := fun {k} => by
          induction k with
          | zero => exact fun _ h => h
          | succ k ih =>
            intro l hk h
            unfold colsR at h ⊢
            cases g1 : colsR list times k with
            | none => rw [g1] at h; cases h
            | some l1 =>
              rw [g1] at h
              rw [ih (by omega) g1]
              cases g2 : dotR (colR list k) times with
              | none => simp only [g2] at h; cases h
              | some x2 =>
                simp only [g2] at h
                have g3 : dotR (colR (list ++ [q]) k) (times ++ [0]) = some x2 := by
                  unfold colR
                  rw [List.map_append]
                  refine dotR_more (by rw [List.length_map]; exact h1) ?_ g2
                  show fineB (q.1[k]?.getD 0) = true
                  rw [List.getElem?_eq_getElem (show k < q.1.length by omega)]
                  exact hc _ (List.getElem_mem _)
                simp only [g3]
                exact h
        unfold sumR
        rw [if_pos hk]
        simp only [c0, show ((n : Nat) : Int).toNat = n from rfl, c1 (Nat.le_refl n) h7]
        exact h
  · cases h
end Go.Proofs.Ytncbmjpfbkngdaa
