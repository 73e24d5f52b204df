/-
  What the document's own answer for inequalities put together (Sum) comes to.
-/
import Derived.Test.YtncbmjpfbkngdaaRefLin2
import Derived.Test.YtncbmjpfbkngdaaWholeOf
import Derived.Test.YtncbmjpfbkngdaaOwnTurn
import Derived.Outline
import Derived.Deep.Cut
import Derived.IntWalk
import Derived.RegionTactic
import Derived.ChangeAlike
import Derived.Deep.RegionHeld3
import Derived.Deep.QuietTactic
import Derived.BigQuiet
namespace Go.Proofs.Ytncbmjpfbkngdaa
set_option maxRecDepth 100000
set_option linter.unusedVariables false
set_option linter.unusedSimpArgs false
open Go.ChangeShapes Go.WideShapes Go.ChangeAt Go.RowKit
set_option linter.unusedVariables false
set_option linter.unusedSimpArgs false

/-- What Sum answers: the sum, or none. -/
def SumAns (r : Option Inq) (w : World) (e : Ending) (w' : World) : Prop := ∃ A c, e = .returned (.tuple #[.agg #[.slice A (r.getD ([], 0)).1.length c, .int .i64 (r.getD ([], 0)).2], .bool r.isSome]) ∧ Below w.heap.size w w' ∧ SlcIs IntAt 1 w' w'.heap.size A c (r.getD ([], 0)).1
theorem sum_none {w w' : World} (hb : Below w.heap.size w w') : SumAns none w (.returned (.tuple #[.agg #[.slice none 0 0, .int .i64 0], .bool false])) w' := ⟨none, 0, rfl, hb, slc_none⟩
theorem whole_other14 {w : World} {g : Nat} {vs : List Value} {T : TypeId} (h : Whole w g vs T) {p : Addr} (v : Value) (hp : ¬ p.block = g) : Whole (w.setCell p v) g vs T := (Below.heap_setCell w p v g (fun e => hp e.symm)).trans h
/-- A row of numbers of the call's own, as a slice. -/
theorem sum_own {w : World} {B e n : Nat} {v : Value} {l : List Int} (h : w.ownsRow B e 1 v n (l.map (Value.int .i64))) (hn : l.length = n) : ∃ A c, v = .slice A n c ∧ SlcIs IntAt 1 w w.heap.size A c l := by
  subst hn
  obtain ⟨A, c, rfl, hl, g1, g2⟩ := own_ints h
  exact ⟨A, c, rfl, g1, g2, fun i x hi => by
    obtain ⟨ad, e, hb, hc⟩ := hl i (.int .i64 x) (by rw [List.getElem?_map, hi]; rfl)
    exact ⟨ad, e, hb, by rw [Nat.mul_one]; exact hc⟩⟩
theorem info_int14 : (Try.prog.info? 3).map (fun i => (i.zero, i.size, i.bytes)) = some (some (.int .i64 0), 1, 8) := by kernel_rfl
theorem info_parts14 {P : Program} {t : TypeId} {z : Value} {k b : Nat} (h : (P.info? t).map (fun i => (i.zero, i.size, i.bytes)) = some (some z, k, b)) : ∃ i, P.info? t = some i ∧ i.zero = some z ∧ i.size = k ∧ i.bytes = b := by
  cases hi : P.info? t with
  | none => rw [hi] at h; cases h
  | some i =>
    rw [hi] at h
    simp at h
    exact ⟨i, rfl, h.1, h.2.1, h.2.2⟩
theorem cols_none {list : List Inq} {times : List Int} {v V : Nat} (h : colsR list times v = none) (hv : v ≤ V) : colsR list times V = none := by
  induction V with
  | zero => rw [show v = 0 by omega] at h; exact h
  | succ V ih =>
    rcases Nat.lt_or_ge V v with q | q
    · rw [show V + 1 = v by omega]; exact h
    · unfold colsR
      rw [ih q]
theorem cols_next {list : List Inq} {times : List Int} {v : Nat} {l : List Int} (h : colsR list times v = some l) : colsR list times (v + 1) = (dotR (colR list v) times).map (fun x => l ++ [x]) := by
  conv => lhs; unfold colsR
  rw [h]
  cases dotR (colR list v) times <;> rfl
theorem cols_len {list : List Inq} {times : List Int} {v : Nat} {l : List Int} (h : colsR list times v = some l) : l.length = v := by
  induction v generalizing l with
  | zero => unfold colsR at h; rw [← Option.some.inj h]; rfl
  | succ v ih =>
    cases hl : colsR list times v with
    | none => unfold colsR at h; rw [hl] at h; cases h
    | some l0 =>
      rw [cols_next hl] at h
      cases hd : dotR (colR list v) times with
      | none => rw [hd] at h; cases h
      | some y =>
        rw [hd] at h
        rw [← Option.some.inj h, List.length_append, ih hl]
        rfl
theorem sum_slc {w : World} {B e n N : Nat} {A : Option Addr} {c : Nat} {l : List Int} {x y : Value} (h : w.ownsRow B e 1 (.slice A n c) n (l.map (Value.int .i64))) (hs : SlcIs IntAt 1 w w.heap.size A c l) (hN : N < B) :
    SlcIs IntAt 1 ((w.setCell ⟨N, 0, none⟩ x).setCell ⟨N, 1, none⟩ y) ((w.setCell ⟨N, 0, none⟩ x).setCell ⟨N, 1, none⟩ y).heap.size A c l :=
  ⟨hs.le, hs.cap, fun i t hi => by
    obtain ⟨ad, e1, hb, hc⟩ := hs.row i t hi
    have h1 := (h.lt ad.block (by rw [e1]; rfl)).1
    have hk : ∀ (u : World) (j : Nat) (v : Value), (u.setCell ⟨N, j, none⟩ v).cell? (ad.add (i * 1)) = u.cell? (ad.add (i * 1)) := fun u j v => World.cell?_of_block (Below.heap_setCell u ⟨N, j, none⟩ v _ (by rw [addr_add_block]; show ad.block ≠ N; omega))
    refine ⟨ad, e1, by simpa using hb, ?_⟩
    show World.cell? _ (ad.add (i * 1)) = _
    rw [hk, hk]
    exact hc⟩
theorem own_someR {w : World} {B e n : Nat} {v : Value} {xs : List Value} (h : w.ownsRow B e 1 v (n + 1) xs) : ∃ g c, v = .slice (some ⟨g, 0, none⟩) (n + 1) c := by
  rcases ownK_slice h with ⟨_, hz⟩ | ⟨g, c, e1, _, _⟩
  · cases hz
  · exact ⟨g, c, e1⟩
def okAt (list : List Inq) (times : List Int) (vars : Int) (i : Nat) : Bool := decide (0 ≤ times[i]?.getD 0) && decide (((list[i]?.getD ([], 0)).1.length : Int) = vars)
theorem sum_bad {list : List Inq} {times : List Int} {vars : Int} {i : Nat} (hi : i < list.length) (h : okAt list times vars i = false) : sumOk list times vars = false := by
  unfold sumOk
  have : (List.range list.length).all (fun i => decide (0 ≤ times[i]?.getD 0) && decide (((list[i]?.getD ([], 0)).1.length : Int) = vars)) = false := by
    rw [Bool.eq_false_iff]
    intro z
    have h2 := List.all_eq_true.mp z i (List.mem_range.mpr hi)
    have h2 : okAt list times vars i = true := h2
    rw [h] at h2
    cases h2
  rw [this]
  simp
theorem sum_good {list : List Inq} {times : List Int} {vars : Int} (h1 : list.length = times.length) (h2 : 0 ≤ vars) (h3 : vars ≤ 64) (h : ∀ i, i < list.length → okAt list times vars i = true) : sumOk list times vars = true := by
  unfold sumOk
  rw [decide_eq_true h1, decide_eq_true h2, decide_eq_true h3, Bool.true_and, Bool.true_and, Bool.true_and, List.all_eq_true]
  exact fun i hi => h i (List.mem_range.mp hi)
set_option maxHeartbeats 6400000 in
theorem rsum_any (list : List Inq) (times : List Int) (vars : Int) (A B : Option Addr) (c d : Nat) (w : World) (hl : SlcIs IneqAt 2 w w.heap.size A c list) (ht : SlcIs IntAt 1 w w.heap.size B d times) (h1 : list.length ≤ 1000) :
    Calls Try.prog 12 #[.slice A list.length c, .slice B times.length d, .int .i64 vars] w (SumAns (sumR list times vars) w) := by
  have HW := Lib.hid ((Below.refl w.heap.size w).alloc (Nat.le_refl _) (.cells #[.slice none 0 0, .int .i64 0] 27))
  have HR := Lib.hid (Whole.new w [.slice none 0 0, .int .i64 0] 27)
  have HZ : Hid (w.heap.size < (w.alloc (.cells #[.slice none 0 0, .int .i64 0] 27)).heap.size) := Lib.hid (by simp)
  have HL := Lib.hid (lslcUp IneqAt.keeps hl HW.out)
  have HT := Lib.hid (lslcUp IntAt.keeps ht HW.out)
  have hl1 := hl.cap
  have ht1 := ht.cap
  have ht2 := ht.le
  have hl2 := hl.le
  obtain ⟨S, hS⟩ : ∃ S, sumR list times vars = S := ⟨_, rfl⟩
  rw [hS]
  have HS := Lib.hid hS
  clear hl ht hS
  have HNO : Hid (sumOk list times vars = false → S = none) := Lib.hid (fun g => by rw [← HS.out]; unfold sumR; rw [if_neg (by rw [g]; decide)])
  by_cases c1 : list.length = times.length
  rotate_left
  · have hne : ((list.length : Int) != (times.length : Int)) = true := bne_iff_ne.mpr (by omega)
    have HN := Lib.hid (HNO.out (by unfold sumOk; rw [decide_eq_false c1, Bool.false_and]))
    go_enter Try.func12, Try.ntmps12
    go_upto_region 1 with fail
    change Code.wp _ _ _ _ (w.alloc (.cells #[.slice none 0 0, .int .i64 0] 27))
    generalize w.alloc (.cells #[.slice none 0 0, .int .i64 0] 27) = w1 at *
    have HRw := HR.out
    have hX := Below.refl w1.heap.size w1
    have r0 := HRw.cells 0 _ rfl
    have r1 := HRw.cells 1 _ rfl
    have f0 := HRw.free 0
    have f1 := HRw.free 1
    go_wp2_with fail
    have hq := (HRw.set 0 (.slice none 0 0)).set 1 (.int .i64 0)
    have k0 := hq.cells 0 _ rfl
    have k1 := hq.cells 1 _ rfl
    rw [HN.out]
    refine bodyPost_ret (v := .tuple #[.agg #[.slice none 0 0, .int .i64 0], .bool false]) (by simp [results, Try.results12, go_sem, k0, k1]) rfl (sum_none ?_)
    exact ((HW.out.trans (hX.mono (Nat.le_of_lt HZ.out))).setCell (p := ⟨w.heap.size, 0, none⟩) (Nat.le_refl _) _).setCell (p := ⟨w.heap.size, 1, none⟩) (Nat.le_refl _) _
  have hne : ((list.length : Int) != (times.length : Int)) = false := bne_eq_false_iff_eq.mpr (by omega)
  by_cases c2 : 0 ≤ vars
  rotate_left
  · have hlt : vars < 0 := by omega
    have HN := Lib.hid (HNO.out (by unfold sumOk; rw [decide_eq_false c2]; simp))
    go_enter Try.func12, Try.ntmps12
    go_upto_region 1 with fail
    change Code.wp _ _ _ _ (w.alloc (.cells #[.slice none 0 0, .int .i64 0] 27))
    generalize w.alloc (.cells #[.slice none 0 0, .int .i64 0] 27) = w1 at *
    have HRw := HR.out
    have hX := Below.refl w1.heap.size w1
    have r0 := HRw.cells 0 _ rfl
    have r1 := HRw.cells 1 _ rfl
    have f0 := HRw.free 0
    have f1 := HRw.free 1
    go_wp2_with fail
    have hq := (HRw.set 0 (.slice none 0 0)).set 1 (.int .i64 0)
    have k0 := hq.cells 0 _ rfl
    have k1 := hq.cells 1 _ rfl
    rw [HN.out]
    refine bodyPost_ret (v := .tuple #[.agg #[.slice none 0 0, .int .i64 0], .bool false]) (by simp [results, Try.results12, go_sem, k0, k1]) rfl (sum_none ?_)
    exact ((HW.out.trans (hX.mono (Nat.le_of_lt HZ.out))).setCell (p := ⟨w.heap.size, 0, none⟩) (Nat.le_refl _) _).setCell (p := ⟨w.heap.size, 1, none⟩) (Nat.le_refl _) _
  have hlt : ¬ vars < 0 := by omega
  by_cases c3 : vars ≤ 64
  rotate_left
  · have hgt : vars > 64 := by omega
    have HN := Lib.hid (HNO.out (by unfold sumOk; rw [decide_eq_false c3]; simp))
    go_enter Try.func12, Try.ntmps12
    go_upto_region 1 with fail
    change Code.wp _ _ _ _ (w.alloc (.cells #[.slice none 0 0, .int .i64 0] 27))
    generalize w.alloc (.cells #[.slice none 0 0, .int .i64 0] 27) = w1 at *
    have HRw := HR.out
    have hX := Below.refl w1.heap.size w1
    have r0 := HRw.cells 0 _ rfl
    have r1 := HRw.cells 1 _ rfl
    have f0 := HRw.free 0
    have f1 := HRw.free 1
    go_wp2_with fail
    have hq := (HRw.set 0 (.slice none 0 0)).set 1 (.int .i64 0)
    have k0 := hq.cells 0 _ rfl
    have k1 := hq.cells 1 _ rfl
    rw [HN.out]
    refine bodyPost_ret (v := .tuple #[.agg #[.slice none 0 0, .int .i64 0], .bool false]) (by simp [results, Try.results12, go_sem, k0, k1]) rfl (sum_none ?_)
    exact ((HW.out.trans (hX.mono (Nat.le_of_lt HZ.out))).setCell (p := ⟨w.heap.size, 0, none⟩) (Nat.le_refl _) _).setCell (p := ⟨w.heap.size, 1, none⟩) (Nat.le_refl _) _
  have hgt : ¬ vars > 64 := by omega
  obtain ⟨V, rfl⟩ := Int.eq_ofNat_of_zero_le c2
  obtain ⟨n, hn⟩ : ∃ n, list.length = n := ⟨_, rfl⟩
  have HLN := Lib.hid hn
  have HTN : Hid (times.length = n) := Lib.hid (by rw [← hn]; exact c1.symm)
  have hn1000 : n ≤ 1000 := by omega
  have htl : times.length = n := HTN.out
  rw [hn] at hl2 hne ⊢
  rw [htl] at ht2 hne ⊢
  clear hn htl c1
  go_enter Try.func12, Try.ntmps12
  go_upto_region 1 with fail
  change Code.wp _ _ _ _ (w.alloc (.cells #[.slice none 0 0, .int .i64 0] 27))
  generalize w.alloc (.cells #[.slice none 0 0, .int .i64 0] 27) = w1 at *
  go_wp2_with fail
  go_loopw [8] (fun i wr => ∃ k : Nat, k ≤ n ∧ i = .int .i64 k ∧ Hid (∀ i, i < k → okAt list times (V : Int) i = true) ∧ wr = w1) (fun i _ => n - (intOf i).toNat)
  case atStart => exact ⟨0, Nat.zero_le _, rfl, Lib.hid (fun i h => by omega), by first | rfl | trivial⟩
  case round =>
    obtain ⟨k, hk, rfl, HOK, hwr⟩ := hrel
    have hwr := hwr.symm
    subst hwr
    by_cases hkn : k < n
    · have hkL : k < list.length := by rw [HLN.out]; exact hkn
      have hkT : k < times.length := by rw [HTN.out]; exact hkn
      obtain ⟨adL, rfl, habL, ⟨A1, cq, s0, hs⟩, s1⟩ := HL.out.row.at_ hkL
      obtain ⟨adT, rfl, habT, t0⟩ := HT.out.row.at_ hkT
      have t0 : w1.cell? (adT.add k) = some (.int .i64 times[k]) := by have := t0; rw [Nat.mul_one] at this; exact this
      have HOA : Hid (okAt list times (V : Int) k = (decide (0 ≤ times[k]) && decide ((list[k].1.length : Int) = V))) := Lib.hid (by unfold okAt; rw [List.getElem?_eq_getElem hkL, List.getElem?_eq_getElem hkT]; rfl)
      have HBAD : Hid (okAt list times (V : Int) k = false → S = none) := Lib.hid (fun g => HNO.out (sum_bad hkL g))
      have hq1 := hs.cap
      have hq2 := hs.le
      generalize list[k] = q at *
      generalize times[k] = y at *
      clear hs s1
      by_cases hy : y < 0
      · have HN := Lib.hid (HBAD.out (by rw [HOA.out, decide_eq_false (by omega), Bool.false_and]))
        have HRw := HR.out
        have hX := Below.refl w1.heap.size w1
        have r0 := HRw.cells 0 _ rfl
        have r1 := HRw.cells 1 _ rfl
        have f0 := HRw.free 0
        have f1 := HRw.free 1
        go_wp2_with fail
        have hq := (HRw.set 0 (.slice none 0 0)).set 1 (.int .i64 0)
        have k0 := hq.cells 0 _ rfl
        have k1 := hq.cells 1 _ rfl
        rw [HN.out]
        refine bodyPost_ret (v := .tuple #[.agg #[.slice none 0 0, .int .i64 0], .bool false]) (by simp [results, Try.results12, go_sem, k0, k1]) rfl (sum_none ?_)
        exact ((HW.out.trans (hX.mono (Nat.le_of_lt HZ.out))).setCell (p := ⟨w.heap.size, 0, none⟩) (Nat.le_refl _) _).setCell (p := ⟨w.heap.size, 1, none⟩) (Nat.le_refl _) _
      by_cases hqv : q.1.length = V
      rotate_left
      · have hqn : ((q.1.length : Int) != (V : Int)) = true := bne_iff_ne.mpr (by omega)
        have HN := Lib.hid (HBAD.out (by rw [HOA.out, decide_eq_false (show ¬ ((q.1.length : Int) = V) by omega), Bool.and_false]))
        have HRw := HR.out
        have hX := Below.refl w1.heap.size w1
        have r0 := HRw.cells 0 _ rfl
        have r1 := HRw.cells 1 _ rfl
        have f0 := HRw.free 0
        have f1 := HRw.free 1
        go_wp2_with fail
        have hq := (HRw.set 0 (.slice none 0 0)).set 1 (.int .i64 0)
        have k0 := hq.cells 0 _ rfl
        have k1 := hq.cells 1 _ rfl
        rw [HN.out]
        refine bodyPost_ret (v := .tuple #[.agg #[.slice none 0 0, .int .i64 0], .bool false]) (by simp [results, Try.results12, go_sem, k0, k1]) rfl (sum_none ?_)
        exact ((HW.out.trans (hX.mono (Nat.le_of_lt HZ.out))).setCell (p := ⟨w.heap.size, 0, none⟩) (Nat.le_refl _) _).setCell (p := ⟨w.heap.size, 1, none⟩) (Nat.le_refl _) _
      have hqn : ((q.1.length : Int) != (V : Int)) = false := bne_eq_false_iff_eq.mpr (by omega)
      have HOK2 : Hid (∀ i, i < k + 1 → okAt list times (V : Int) i = true) := Lib.hid (fun i hi => by
        rcases Nat.lt_or_ge i k with z | z
        · exact HOK.out i z
        · obtain rfl : i = k := by omega
          rw [HOA.out, decide_eq_true (show 0 ≤ y by omega), decide_eq_true (show (q.1.length : Int) = V by omega)]
          rfl)
      clear hqv
      go_wp2_with fail
      go_roundw
      case rel => exact ⟨k + 1, by omega, by go_num, HOK2, by first | rfl | trivial⟩
      case measure => simp [intOf]; omega
    have hki : ¬ (k : Int) < (n : Int) := by omega
    have HSM : Hid (S = match dotR (list.map Prod.snd) times with
        | none => none
        | some x => match colsR list times V with
          | none => none
          | some l => some (l, x)) := Lib.hid (by
      rw [← HS.out]
      unfold sumR
      rw [if_pos (sum_good (by rw [HLN.out, HTN.out]) c2 c3 (fun i hi => HOK.out i (by rw [HLN.out] at hi; omega)))]
      rfl)
    have HCV : Hid (∀ i, i < n → (list[i]?.getD ([], 0)).1.length = V) := Lib.hid (fun i hi => by
      have := HOK.out i (by omega)
      unfold okAt at this
      rw [Bool.and_eq_true, decide_eq_true_eq, decide_eq_true_eq] at this
      omega)
    clear HNO HOK
    go_upto_region 9 with fail
    have HQ2 := Lib.hid (Whole.new w1 [.slice none 0 0, .int .i64 0] 27)
    have HB2 : Hid (Below w1.heap.size w1 (w1.alloc (.cells #[.slice none 0 0, .int .i64 0] 27))) := Lib.hid ((Below.refl _ _).alloc (Nat.le_refl _) _)
    change Code.wp _ _ _ _ (w1.alloc (.cells #[.slice none 0 0, .int .i64 0] 27))
    have HZ2 : Hid (w1.heap.size < (w1.alloc (.cells #[.slice none 0 0, .int .i64 0] 27)).heap.size) := Lib.hid (by simp)
    change Hid (Whole (w1.alloc (.cells #[.slice none 0 0, .int .i64 0] 27)) w1.heap.size [.slice none 0 0, .int .i64 0] 27) at HQ2
    generalize w1.alloc (.cells #[.slice none 0 0, .int .i64 0] 27) = w2 at *
    go_wp2_with fail
    obtain ⟨i1, hi1, hz01, hz11, hz21⟩ := info_parts14 info_int14
    go_loopw [10, 11] (fun u i wr => ∃ k : Nat, k ≤ n ∧ i = .int .i64 k ∧ Hid (wr.ownsRow w2.heap.size 3 1 u k (((list.take k).map Prod.snd).map (Value.int .i64))) ∧ Hid (Below w2.heap.size w2 wr)) (fun _ i _ => n - (intOf i).toNat)
    case atStart => exact ⟨0, Nat.zero_le _, rfl, Lib.hid (by simpa using own_empty w2 _), Lib.hid ((Below.refl _ _).alloc (Nat.le_refl _) _)⟩
    case round =>
      obtain ⟨k, hk, rfl, HO, HX⟩ := hrel
      by_cases hkn : k < n
      · have hkL : k < list.length := by rw [HLN.out]; exact hkn
        obtain ⟨adL, rfl, habL, _, s1⟩ := HL.out.row.at_ hkL
        have s1 := ((HB2.out.trans (HX.out.mono HB2.out.size)).cell (p := off_ (adL.add (k * 2)) 1) (by show (adL.add _).block < _; rw [addr_add_block]; exact habL)).trans s1
        have HTK : Hid ((((list.take (k + 1)).map Prod.snd).map (Value.int .i64)) = (((list.take k).map Prod.snd).map (Value.int .i64)) ++ [.int .i64 list[k].2]) := Lib.hid (by rw [List.take_add_one, List.getElem?_eq_getElem hkL, List.map_append, List.map_append]; rfl)
        generalize list[k] = q at *
        have hsz := HX.out.size
        go_wp2_with (at_builtin; refine append_liesK rfl _ _ 23 rfl _ 3 i1 (.int .i64 0) 1 8 Try.underlying23 hi1 hz01 hz11 hz21 rfl (by decide) _ k (((list.take k).map Prod.snd).map (Value.int .i64)) rfl (HO.out.alloc _) (some ⟨wr.heap.size, 0, none⟩) 1 1 _ [.int .i64 q.2] rfl rfl (lies_v1 wr _ _) (one_cellv rfl) (by unfold maxLen; omega) (by omega) (by simp; omega) ?_; intro v6 w6 hown hgrow; have HX6 := Lib.hid (appK_more (HX.out.alloc hsz _) (HO.out.alloc _) (by simp; omega) hgrow); have HO6 := Lib.hid hown; clear hown hgrow)
        go_roundw
        case rel => exact ⟨k + 1, by omega, by go_num, Lib.hid (by rw [HTK.out]; exact HO6.out), HX6⟩
        case measure => simp [intOf]; omega
      have hki : ¬ (k : Int) < (n : Int) := by omega
      have hkn2 : k = n := by omega
      have HO2 : Hid (wr.ownsRow w2.heap.size 3 1 u10 n ((list.map Prod.snd).map (Value.int .i64))) := Lib.hid (by have := HO.out; rwa [hkn2, List.take_of_length_le (by rw [HLN.out]; exact Nat.le_refl _)] at this)
      have hbl := own_block_lt HO2.out
      obtain ⟨AC, cC, rfl, hsc⟩ := sum_own HO2.out (by rw [List.length_map]; exact HLN.out)
      have HSC := Lib.hid hsc
      have HX1 := Lib.hid (HB2.out.trans (HX.out.mono HB2.out.size))
      have HTr := Lib.hid (lslcUp IntAt.keeps HT.out HX1.out)
      obtain ⟨D, hD⟩ : ∃ D, dotR (list.map Prod.snd) times = D := ⟨_, rfl⟩
      have HDR := Lib.hid hD
      have HAC : Hid (∀ g, (Value.slice AC n cC).ownBlock = some g → g < wr.heap.size) := Lib.hid hbl
      clear hsc hD hkn2 hbl HO
      go_upto_region 15 with (go_at_call 16; (with_reducible refine (rdot_is HSC HTr (Lib.hid ⟨by rw [List.length_map]; exact HLN.out, HTN.out⟩) HDR).mono ?_); rintro e w7 ⟨rfl, hb⟩; have HB7 := Lib.hid hb; have HX7 := Lib.hid (HX1.out.trans (hb.mono HX1.out.size)); have HX72 := Lib.hid (HX.out.trans (hb.mono HX.out.size)); clear hb)
      cases D with
      | none =>
        have HN : Hid (S = none) := Lib.hid (by rw [HSM.out, HDR.out])
        have hX := HX7.out
        have HRw := HR.out.keep HX7.out HZ.out
        have r0 := HRw.cells 0 _ rfl
        have r1 := HRw.cells 1 _ rfl
        have f0 := HRw.free 0
        have f1 := HRw.free 1
        go_wp2_with fail
        have hq := (HRw.set 0 (.slice none 0 0)).set 1 (.int .i64 0)
        have k0 := hq.cells 0 _ rfl
        have k1 := hq.cells 1 _ rfl
        rw [HN.out]
        refine bodyPost_ret (v := .tuple #[.agg #[.slice none 0 0, .int .i64 0], .bool false]) (by simp [results, Try.results12, go_sem, k0, k1]) rfl (sum_none ?_)
        exact ((HW.out.trans (hX.mono (Nat.le_of_lt HZ.out))).setCell (p := ⟨w.heap.size, 0, none⟩) (Nat.le_refl _) _).setCell (p := ⟨w.heap.size, 1, none⟩) (Nat.le_refl _) _
      | some x =>
        have HQ7 := HQ2.out.keep HX72.out HZ2.out
        have g0 := HQ7.cells 1 _ rfl
        have g1 := HQ7.free 1
        go_upto_region 18 with fail
        have HQ8 : Hid (Whole (w7.setCell ⟨w1.heap.size, 1, none⟩ (.int .i64 x)) w1.heap.size [.slice none 0 0, .int .i64 x] 27) := Lib.hid (HQ7.set 1 (.int .i64 x))
        have HO8 : Hid ((w7.setCell ⟨w1.heap.size, 1, none⟩ (.int .i64 x)).ownsRow w2.heap.size 3 1 (.slice AC n cC) n ((list.map Prod.snd).map (Value.int .i64))) := Lib.hid (ownsRow_setCell_below (own_below HO2.out HB7.out HAC.out) (by exact HZ2.out) _)
        have HX8 : Hid (Below w1.heap.size w1 (w7.setCell ⟨w1.heap.size, 1, none⟩ (.int .i64 x))) := Lib.hid (HX7.out.setCell (p := ⟨w1.heap.size, 1, none⟩) (Nat.le_refl _) _)
        have HA8 : Hid (∀ g, (Value.slice AC n cC).ownBlock = some g → g < (w7.setCell ⟨w1.heap.size, 1, none⟩ (.int .i64 x)).heap.size) := Lib.hid (own_block_lt HO8.out)
        have HZ8 : Hid (w1.heap.size < (w7.setCell ⟨w1.heap.size, 1, none⟩ (.int .i64 x)).heap.size) := Lib.hid HQ8.out.lt
        have HC0 : Hid ((list.map Prod.snd).length = n) := Lib.hid (by rw [List.length_map]; exact HLN.out)
        clear g0 g1 HQ7
        generalize w7.setCell ⟨w1.heap.size, 1, none⟩ (.int .i64 x) = w8 at *
        generalize list.map Prod.snd = cs0 at HO8 HC0
        go_wp2_with fail
        go_loopw [14] (fun i wr => ∃ (v : Nat) (cl cs : List Int) (uc : Value), v ≤ V ∧ i = .int .i64 v ∧ Hid (colsR list times v = some cl) ∧ Hid (Whole wr w1.heap.size [uc, .int .i64 x] 27) ∧ Hid (wr.ownsRow w8.heap.size 3 1 uc v (cl.map (Value.int .i64))) ∧ Hid (wr.ownsRow w2.heap.size 3 1 (.slice AC n cC) n (cs.map (Value.int .i64))) ∧ Hid (cs.length = n) ∧ Hid (Below w1.heap.size w1 wr) ∧ Hid (w8.heap.size ≤ wr.heap.size)) (fun i _ => V - (intOf i).toNat)
        case atStart => exact ⟨0, [], cs0, .slice none 0 0, Nat.zero_le _, rfl, Lib.hid rfl, HQ8, Lib.hid (World.ownsRow_nil _ _ _ _), HO8, HC0, HX8, Lib.hid (Nat.le_refl _)⟩
        case round =>
          clear HX
          obtain ⟨v, cl, cs, uc, hv, rfl, HCL, HQ, HOC, HOK, HCS, HX, HSZ⟩ := hrel
          by_cases hvV : v < V
          rotate_left
          · have hvi : ¬ (v : Int) < (V : Int) := by omega
            have hve : v = V := by omega
            obtain ⟨AF, cF, rfl, hsf⟩ := sum_own (n := v) HOC.out (cols_len HCL.out)
            have HSF := Lib.hid hsf
            have HN : Hid (S = some (cl, x)) := Lib.hid (by rw [HSM.out, HDR.out]; rw [hve] at HCL; dsimp only; rw [HCL.out])
            have HLC : Hid (cl.length = v) := Lib.hid (cols_len HCL.out)
            have HRw := HR.out.keep HX.out HZ.out
            have d0 := HQ.out.cells 0 _ rfl
            have d1 := HQ.out.cells 1 _ rfl
            have r0 := HRw.cells 0 _ rfl
            have r1 := HRw.cells 1 _ rfl
            have f0 := HRw.free 0
            have f1 := HRw.free 1
            have hq := (HRw.set 0 (.slice AF v cF)).set 1 (.int .i64 x)
            have k0 := hq.cells 0 _ rfl
            have k1 := hq.cells 1 _ rfl
            have HK0 := Lib.hid k0
            have HK1 := Lib.hid k1
            have HSF2 : Hid (SlcIs IntAt 1 ((wr.setCell ⟨w.heap.size, 0, none⟩ (.slice AF v cF)).setCell ⟨w.heap.size, 1, none⟩ (.int .i64 x)) ((wr.setCell ⟨w.heap.size, 0, none⟩ (.slice AF v cF)).setCell ⟨w.heap.size, 1, none⟩ (.int .i64 x)).heap.size AF cF cl) := Lib.hid (sum_slc HOC.out HSF.out (by have := HZ.out; have := HZ2.out; have := HZ8.out; omega))
            clear hsf hq k0 k1 hve
            go_wp2_with fail
            have k0 := HK0.out
            have k1 := HK1.out
            rw [HN.out]
            refine bodyPost_ret (v := .tuple #[.agg #[.slice AF v cF, .int .i64 x], .bool true]) (by simp [results, Try.results12, go_sem, k0, k1]) rfl ⟨AF, cF, ?_, ?_, HSF2.out⟩
            · show _ = Ending.returned (.tuple #[.agg #[.slice AF cl.length cF, .int .i64 x], .bool true])
              rw [HLC.out]
            · exact ((HW.out.trans (HX.out.mono (Nat.le_of_lt HZ.out))).setCell (p := ⟨w.heap.size, 0, none⟩) (Nat.le_refl _) _).setCell (p := ⟨w.heap.size, 1, none⟩) (Nat.le_refl _) _
          go_wp2_with fail
          go_loopw [15] (fun i wr => ∃ (j : Nat) (cs : List Int), j ≤ n ∧ i = .int .i64 j ∧ Hid (Whole wr w1.heap.size [uc, .int .i64 x] 27) ∧ Hid (wr.ownsRow w8.heap.size 3 1 uc v (cl.map (Value.int .i64))) ∧ Hid (wr.ownsRow w2.heap.size 3 1 (.slice AC n cC) n (cs.map (Value.int .i64))) ∧ Hid (cs.length = n) ∧ Hid (∀ t, t < j → cs[t]? = some ((list[t]?.getD ([], 0)).1[v]?.getD 0)) ∧ Hid (Below w1.heap.size w1 wr) ∧ Hid (w8.heap.size ≤ wr.heap.size)) (fun i _ => n - (intOf i).toNat)
          case atStart => exact ⟨0, cs, Nat.zero_le _, rfl, HQ, HOC, HOK, HCS, Lib.hid (fun t ht => by omega), HX, HSZ⟩
          case round =>
            clear HQ HOC HOK HCS HX HSZ
            clear cs
            obtain ⟨j, cs, hj, rfl, HQ, HOC, HOK, HCS, HCJ, HX, HSZ⟩ := hrel
            by_cases hjn : j < n
            · have hjL : j < list.length := by rw [HLN.out]; exact hjn
              obtain ⟨adL, rfl, habL, ⟨A1, cq, s0, hs⟩, _⟩ := HL.out.row.at_ hjL
              have hqv : list[j].1.length = V := by have := HCV.out j hjn; rwa [List.getElem?_eq_getElem hjL] at this
              have hvq : v < list[j].1.length := by omega
              obtain ⟨ad1, rfl, hab1, s1⟩ := hs.row.at_ hvq
              have s1 : w1.cell? (ad1.add v) = some (.int .i64 list[j].1[v]) := by have := s1; rw [Nat.mul_one] at this; exact this
              have s0 := (HX.out.cell (p := adL.add (j * 2)) (by rw [addr_add_block]; exact habL)).trans s0
              have s1 := (HX.out.cell (p := ad1.add v) (by rw [addr_add_block]; exact hab1)).trans s1
              have hy : list[j].1[v] = (list[j]?.getD ([], 0)).1[v]?.getD 0 := by rw [List.getElem?_eq_getElem hjL]; show _ = (list[j].1)[v]?.getD 0; rw [List.getElem?_eq_getElem hvq]; rfl
              have HY := Lib.hid hy
              have hsc2 := hs.cap
              have hsl := hs.le
              rw [hqv] at s0 hsl
              obtain ⟨y, hyy⟩ : ∃ y, list[j].1[v] = y := ⟨_, rfl⟩
              rw [hyy] at s1 HY
              rcases ownK_slice HOK.out with ⟨_, hz⟩ | ⟨gC, cC', e1, g1, g2⟩
              · omega
              injection e1 with e1 e2 e3
              subst e1 e3
              have hcs : j < cs.length := by rw [HCS.out]; exact hjn
              obtain ⟨k0, _⟩ := (ownK_cell HOK.out).2 j (.int .i64 cs[j]) (by rw [List.getElem?_map, List.getElem?_eq_getElem hcs]; rfl)
              obtain ⟨k1, k2, k3⟩ := own_freeK HOK.out j
              have hgO : ¬ gC = w1.heap.size := by have := HZ2.out; omega
              have HGW : Hid (gC < w8.heap.size) := Lib.hid (HA8.out gC rfl)
              have HQN : Hid (Whole (wr.setCell ⟨gC, j, none⟩ (.int .i64 y)) w1.heap.size [uc, .int .i64 x] 27) := Lib.hid (whole_other14 HQ.out _ hgO)
              have HOCN : Hid ((wr.setCell ⟨gC, j, none⟩ (.int .i64 y)).ownsRow w8.heap.size 3 1 uc v (cl.map (Value.int .i64))) := Lib.hid (ownsRow_setCell_below HOC.out (by exact HGW.out) _)
              have HOKN : Hid ((wr.setCell ⟨gC, j, none⟩ (.int .i64 y)).ownsRow w2.heap.size 3 1 (.slice (some ⟨gC, 0, none⟩) n cC) n ((cs.set j y).map (Value.int .i64))) := Lib.hid (by rw [List.map_set]; exact own_turn HOK.out _)
              have HXN : Hid (Below w1.heap.size w1 (wr.setCell ⟨gC, j, none⟩ (.int .i64 y))) := Lib.hid (HX.out.setCell (p := ⟨gC, j, none⟩) (by show w1.heap.size ≤ gC; have := HZ2.out; omega) _)
              have HCJN : Hid (∀ t, t < j + 1 → (cs.set j y)[t]? = some ((list[t]?.getD ([], 0)).1[v]?.getD 0)) := Lib.hid (fun t ht => by
                rw [List.getElem?_set]
                by_cases e : j = t
                · subst e; rw [if_pos rfl, if_pos hcs, HY.out]
                · rw [if_neg e]; exact HCJ.out t (by omega))
              have HCSN : Hid ((cs.set j y).length = n) := Lib.hid (by rw [List.length_set]; exact HCS.out)
              have HSZN : Hid (w8.heap.size ≤ (wr.setCell ⟨gC, j, none⟩ (.int .i64 y)).heap.size) := Lib.hid (by have := HSZ.out; simpa using this)
              clear hs hy hyy
              go_wp2_with fail
              go_roundw
              case rel => exact ⟨j + 1, cs.set j y, by omega, by go_num, HQN, HOCN, HOKN, HCSN, HCJN, HXN, HSZN⟩
              case measure => simp [intOf]; omega
            have hji : ¬ (j : Int) < (n : Int) := by omega
            have hcol : cs = colR list v := by
              refine List.ext_getElem? fun t => ?_
              unfold colR
              rw [List.getElem?_map]
              rcases Nat.lt_or_ge t n with q | q
              · have h2 : list[t]? = some (list[t]'(by rw [HLN.out]; exact q)) := List.getElem?_eq_getElem (by rw [HLN.out]; exact q)
                rw [HCJ.out t (by omega), h2]
                rfl
              · have h2 : list[t]? = none := List.getElem?_eq_none (by rw [HLN.out]; exact q)
                rw [List.getElem?_eq_none (by rw [HCS.out]; exact q), h2]
                rfl
            subst hcol
            obtain ⟨AK, cK, e1, hsk⟩ := sum_own (n := n) HOK.out HCS.out
            injection e1 with e1 e2 e3
            subst e1 e3
            have HSK := Lib.hid hsk
            have HTv := Lib.hid (lslcUp IntAt.keeps HT.out HX.out)
            obtain ⟨E, hE⟩ : ∃ D, dotR (colR list v) times = D := ⟨_, rfl⟩
            have HER := Lib.hid hE
            have HCN := cols_next HCL.out
            rw [hE] at HCN
            have HCNX := Lib.hid HCN
            clear hsk hE HCN HCJ
            go_upto_region 26 with (go_at_call 16; (with_reducible refine (rdot_is HSK HTv (Lib.hid ⟨HCS.out, HTN.out⟩) HER).mono ?_); rintro e w9 ⟨rfl, hb⟩; have HX9 := Lib.hid (HX.out.trans (hb.mono HX.out.size)); have HQ9 := Lib.hid (HQ.out.keep hb HQ.out.lt); have HOC9 := Lib.hid (own_below HOC.out hb (own_block_lt HOC.out)); have HOK9 := Lib.hid (own_below HOK.out hb (own_block_lt HOK.out)); have HSZ9 := Lib.hid (Nat.le_trans HSZ.out hb.size); clear hb)
            cases E with
            | none =>
              have HN : Hid (S = none) := Lib.hid (by rw [HSM.out, HDR.out]; dsimp only; rw [cols_none HCNX.out (by omega)])
              have hX := HX9.out
              have HRw := HR.out.keep HX9.out HZ.out
              have r0 := HRw.cells 0 _ rfl
              have r1 := HRw.cells 1 _ rfl
              have f0 := HRw.free 0
              have f1 := HRw.free 1
              go_wp2_with fail
              have hq := (HRw.set 0 (.slice none 0 0)).set 1 (.int .i64 0)
              have k0 := hq.cells 0 _ rfl
              have k1 := hq.cells 1 _ rfl
              rw [HN.out]
              refine bodyPost_ret (v := .tuple #[.agg #[.slice none 0 0, .int .i64 0], .bool false]) (by simp [results, Try.results12, go_sem, k0, k1]) rfl (sum_none ?_)
              exact ((HW.out.trans (hX.mono (Nat.le_of_lt HZ.out))).setCell (p := ⟨w.heap.size, 0, none⟩) (Nat.le_refl _) _).setCell (p := ⟨w.heap.size, 1, none⟩) (Nat.le_refl _) _
            | some y =>
              have HNX : Hid (colsR list times (v + 1) = some (cl ++ [y])) := Lib.hid HCNX.out
              have q0 := HQ9.out.cells 0 _ rfl
              have q1 := HQ9.out.free 0
              have hsz9 := HSZ9.out
              go_wp2_with (at_builtin; refine append_liesK rfl _ _ 23 rfl _ 3 i1 (.int .i64 0) 1 8 Try.underlying23 hi1 hz01 hz11 hz21 rfl (by decide) _ v (cl.map (Value.int .i64)) rfl (HOC9.out.alloc _) (some ⟨w9.heap.size, 0, none⟩) 1 1 _ [.int .i64 y] rfl rfl (lies_v1 w9 _ _) (one_cellv rfl) (by unfold maxLen; omega) (by omega) (by simp; omega) ?_; intro v6 w6 hown hgrow; obtain ⟨g6, c6, rfl⟩ := own_someR hown; have HG6 := Lib.hid (appK_more (((Below.refl w9.heap.size w9).mono hsz9).alloc hsz9 _) (HOC9.out.alloc _) (by simp; omega) hgrow); have HO6 := Lib.hid hown; have HQ6 := Lib.hid (HQ9.out.keep HG6.out HZ8.out); have q6 := HQ6.out.cells 0 _ rfl; have q7 := HQ6.out.free 0; clear hown hgrow)
              have HQA : Hid (Whole (w6.setCell ⟨w1.heap.size, 0, none⟩ (.slice (some ⟨g6, 0, none⟩) (v + 1) c6)) w1.heap.size [.slice (some ⟨g6, 0, none⟩) (v + 1) c6, .int .i64 x] 27) := Lib.hid (HQ6.out.set 0 _)
              have HOA : Hid ((w6.setCell ⟨w1.heap.size, 0, none⟩ (.slice (some ⟨g6, 0, none⟩) (v + 1) c6)).ownsRow w8.heap.size 3 1 (.slice (some ⟨g6, 0, none⟩) (v + 1) c6) (v + 1) ((cl ++ [y]).map (Value.int .i64))) := Lib.hid (by rw [List.map_append]; exact ownsRow_setCell_below HO6.out (by exact HZ8.out) _)
              have HOB : Hid ((w6.setCell ⟨w1.heap.size, 0, none⟩ (.slice (some ⟨g6, 0, none⟩) (v + 1) c6)).ownsRow w2.heap.size 3 1 (.slice AC n cC) n ((colR list v).map (Value.int .i64))) := Lib.hid (ownsRow_setCell_below (own_below HOK9.out HG6.out HA8.out) (by exact HZ2.out) _)
              have HXA : Hid (Below w1.heap.size w1 (w6.setCell ⟨w1.heap.size, 0, none⟩ (.slice (some ⟨g6, 0, none⟩) (v + 1) c6))) := Lib.hid ((HX9.out.trans (HG6.out.mono (Nat.le_of_lt HZ8.out))).setCell (p := ⟨w1.heap.size, 0, none⟩) (Nat.le_refl _) _)
              have HSA : Hid (w8.heap.size ≤ (w6.setCell ⟨w1.heap.size, 0, none⟩ (.slice (some ⟨g6, 0, none⟩) (v + 1) c6)).heap.size) := Lib.hid (by have h1 := HG6.out.size; have h2 := HSZ9.out; simp; omega)
              go_roundw
              case rel => (repeat apply Exists.intro); exact ⟨⟨v + 1, cl ++ [y], colR list v, .slice (some ⟨g6, 0, none⟩) (v + 1) c6, by omega, by go_num, HNX, HQA, HOA, HOB, HCS, HXA, HSA⟩, rfl⟩
              case measure => simp [intOf]; omega
end Go.Proofs.Ytncbmjpfbkngdaa
