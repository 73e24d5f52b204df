/-
  What lin.Sum comes to.
-/
import Derived.Test.YtncbmjpfbkngdaaLinWhole
import Derived.Test.YtncbmjpfbkngdaaInqSame
namespace Go.Proofs.Ytncbmjpfbkngdaa
set_option maxRecDepth 100000
set_option linter.unusedVariables false
set_option linter.unusedSimpArgs false
open Go.ChangeShapes Go.WideShapes Go.ChangeAt Go.RowKit
set_option linter.unusedVariables false
set_option linter.unusedSimpArgs false

theorem info_num : (Try.prog.info? 49).map (fun i => (i.zero, i.size, i.bytes)) = some (some (.agg #[.int .i64 0, .bool false]), 2, 16) := by kernel_rfl
theorem info_partsL {P : Program} {t : TypeId} {z : Value} {k b : Nat} (h : (P.info? t).map (fun i => (i.zero, i.size, i.bytes)) = some (some z, k, b)) : ∃ i, P.info? t = some i ∧ i.zero = some z ∧ i.size = k ∧ i.bytes = b := by
  cases hi : P.info? t with
  | none => rw [hi] at h; simp at h
  | some i =>
    rw [hi] at h
    simp only [Option.map_some, Option.some.injEq, Prod.mk.injEq] at h
    exact ⟨i, rfl, h.1, h.2.1, h.2.2⟩
theorem own_whole2 {w : World} {base g n : Nat} {xs : List Value} {T : TypeId} (h : w.ownsRow base T 2 (.slice (some ⟨g, 0, none⟩) n n) n xs) : Whole w g xs T := by
  obtain ⟨h0, h1⟩ := h
  rcases h1 with ⟨h1, _⟩ | ⟨g', cap, cur, h1, _, hh, _, _, hs, hx⟩
  · cases h1
  · injection h1 with e1 e2 e3
    simp at e1
    subst e1 e3
    have hc : cur.toList = xs := by rw [← hx, List.take_of_length_le (by rw [Array.length_toList, hs]; exact Nat.le_refl _)]
    unfold Whole
    rw [hh, ← hc]
theorem made_nums (n : Nat) : (madeCells (Value.agg #[.int .i64 0, .bool false]).cells (n * 2)).toList = numsV (List.replicate n (some 0)) := by
  refine List.ext_getElem? fun i => ?_
  by_cases hi : i < n * 2
  · have h1 : (madeCells (Value.agg #[.int .i64 0, .bool false]).cells (n * 2)).toList[i]? = some ((#[Value.int .i64 0, Value.bool false] : Array Value)[i % 2]!) := by
      unfold madeCells
      rw [Array.getElem?_toList, Array.getElem?_map, Array.getElem?_range, if_pos hi]
      rfl
    rw [h1]
    have hr : (List.replicate n (some (0 : Int)))[i / 2]? = some (some 0) := by rw [List.getElem?_replicate, if_pos (by omega)]
    have h2 := flat_get (f := numC) (k := 2) (fun _ => rfl) (List.replicate n (some (0 : Int))) (i / 2) (i % 2) (some 0) hr (Nat.mod_lt _ (by decide))
    have h3 : i / 2 * 2 + i % 2 = i := by omega
    rcases Nat.mod_two_eq_zero_or_one i with e | e
    · rw [e] at h2
      rw [e]
      rw [show i / 2 * 2 + 0 = i by omega] at h2
      exact h2.symm
    · rw [e] at h2
      rw [e]
      rw [show i / 2 * 2 + 1 = i by omega] at h2
      exact h2.symm
  · rw [List.getElem?_eq_none (by rw [Array.length_toList, size_madeCells]; omega), List.getElem?_eq_none (by rw [numsV_len, List.length_replicate]; omega)]
/-- The sums of all variables, over the first so many inequalities. -/
def partsO (list : List Inq) (times : List Int) (n i : Nat) : List (Option Int) := (List.range n).map fun v => partO (colR list v) times i
theorem parts_zero (list : List Inq) (times : List Int) (n : Nat) : partsO list times n 0 = List.replicate n (some 0) := by
  unfold partsO
  rw [show (fun v => partO (colR list v) times 0) = fun _ : Nat => (some 0 : Option Int) by funext v; rfl, List.map_const', List.length_range]
theorem parts_len (list : List Inq) (times : List Int) (n i : Nat) : (partsO list times n i).length = n := by simp [partsO]
theorem parts_fine {list : List Inq} {times : List Int} {n i : Nat} : ∀ x ∈ partsO list times n i, FineO x := fun x hx => by
  obtain ⟨v, _, rfl⟩ := List.mem_map.mp hx
  exact partO_fine _ _ _
theorem parts_succ {list : List Inq} {times : List Int} {n i : Nat} {q : Inq} {t : Int} (h1 : list[i]? = some q) (h2 : times[i]? = some t) (h3 : q.1.length = n) : partsO list times n (i + 1) = addRow (partsO list times n i) q.1 (ofO t) := by
  apply List.ext_getElem?
  intro v
  rcases Nat.lt_or_ge v n with hv | hv
  · have hx : (partsO list times n i)[v]? = some (partO (colR list v) times i) := by unfold partsO; rw [List.getElem?_map, List.getElem?_range hv]; rfl
    have hy : q.1[v]? = some q.1[v] := List.getElem?_eq_getElem (by omega)
    rw [addRow_at hx hy]
    unfold partsO
    rw [List.getElem?_map, List.getElem?_range hv]
    show some (partO (colR list v) times (i + 1)) = _
    rw [partO_succ (x := q.1[v]) (y := t) ?_ h2]
    unfold colR
    rw [List.getElem?_map, h1]
    show some (q.1[v]?.getD 0) = _
    rw [hy]
    rfl
  · rw [List.getElem?_eq_none (by rw [parts_len]; exact hv), List.getElem?_eq_none (by rw [addRow_len (parts_len ..) h3]; exact hv)]
theorem most_succ {list : List Inq} {times : List Int} {i : Nat} {q : Inq} {t : Int} (h1 : list[i]? = some q) (h2 : times[i]? = some t) : partO (list.map Prod.snd) times (i + 1) = addO (partO (list.map Prod.snd) times i) (mulO (ofO q.2) (ofO t)) :=
  partO_succ (by rw [List.getElem?_map, h1]; rfl) h2
theorem cols_whole (list : List Inq) (times : List Int) : ∀ n : Nat, colsR list times n = if ((List.range n).map fun v => dotR (colR list v) times).all Option.isSome = true then some (valsO ((List.range n).map fun v => dotR (colR list v) times)) else none
  | 0 => rfl
  | n + 1 => by
    have ih := cols_whole list times n
    unfold colsR
    rw [ih, List.range_succ, List.map_append, List.all_append]
    cases ha : ((List.range n).map fun v => dotR (colR list v) times).all Option.isSome with
    | false => simp
    | true =>
      cases hd : dotR (colR list n) times with
      | none => simp [hd]
      | some x => simp [hd, valsO]
/-- Put together, as the program does it. -/
theorem sum_whole {list : List Inq} {times : List Int} {n K : Nat} (hK : list.length = K) (hT : times.length = K) (hn : n ≤ 64) (ha : ∀ j, j < K → 0 ≤ times[j]?.getD 0 ∧ (list[j]?.getD ([], 0)).1.length = n) : sumR list times (n : Int) = wholeR (partO (list.map Prod.snd) times K) (partsO list times n K) := by
  have hok : sumOk list times (n : Int) = true := by
    unfold sumOk
    rw [Bool.and_eq_true, Bool.and_eq_true, Bool.and_eq_true]
    refine ⟨decide_eq_true (by omega), decide_eq_true (by omega), decide_eq_true (by omega), List.all_eq_true.mpr fun j hj => ?_⟩
    have hj := ha j (by rw [← hK]; exact List.mem_range.mp hj)
    rw [Bool.and_eq_true]
    exact ⟨decide_eq_true hj.1, decide_eq_true (by rw [hj.2])⟩
  unfold sumR
  rw [if_pos hok, Int.toNat_natCast, cols_whole, partO_all (by rw [List.length_zip, List.length_map]; omega)]
  have hp : partsO list times n K = (List.range n).map fun v => dotR (colR list v) times := by
    unfold partsO
    refine List.map_congr_left fun v _ => ?_
    exact partO_all (by unfold colR; rw [List.length_zip, List.length_map]; omega)
  rw [hp]
  cases dotR (list.map Prod.snd) times with
  | none => rfl
  | some x =>
    generalize (List.range n).map (fun v => dotR (colR list v) times) = Y
    show _ = (if Y.all Option.isSome = true then some (valsO Y, x) else none)
    by_cases h : Y.all Option.isSome = true
    · rw [if_pos h, if_pos h]
    · rw [if_neg h, if_neg h]
theorem ints_off {w w' : World} {g B C c : Nat} {A : Option Addr} {L : List Int} (hs : SlcIs IntAt 1 w B A c L) (hC : B ≤ C) (hk : ∀ q : Addr, q.block ≠ g → w'.cell? q = w.cell? q) (ha : ∀ ad, A = some ad → ad.block ≠ g) : SlcIs IntAt 1 w' C A c L :=
  ⟨hs.le, hs.cap, fun i t hi => by
    obtain ⟨ad, e, hb, h0⟩ := hs.row i t hi
    exact ⟨ad, e, Nat.lt_of_lt_of_le hb hC, (hk _ (by rw [addr_add_block]; exact ha ad e)).trans h0⟩⟩
theorem sum_wrong {list : List Inq} {times : List Int} {n j : Nat} (hj : j < list.length) (h : ¬ (0 ≤ times[j]?.getD 0 ∧ (list[j]?.getD ([], 0)).1.length = n)) : sumR list times (n : Int) = none := by
  unfold sumR
  rw [if_neg]
  intro g
  unfold sumOk at g
  rw [Bool.and_eq_true, Bool.and_eq_true, Bool.and_eq_true] at g
  have := List.all_eq_true.mp g.2.2.2 j (List.mem_range.mpr hj)
  rw [Bool.and_eq_true] at this
  have h2 := of_decide_eq_true this.2
  exact h ⟨of_decide_eq_true this.1, by omega⟩
theorem ladd_is {q : Inq} {o s s' : Option Int} {X X' : List (Option Int)} {A : Option Addr} {c g r n B : Nat} {w : World} (HQ : Hid (SlcIs IntAt 1 w B A c q.1)) (HN : Hid (q.1.length = n ∧ X.length = n ∧ n ≤ 64)) (HG : Hid (Whole w g [.slice (some ⟨r, 0, none⟩) n n, .int .i64 (s.getD 0), .bool s.isNone] 51)) (HR : Hid (Whole w r (numsV X) 49))
    (HB : Hid (g ≠ r ∧ B ≤ g ∧ B ≤ r)) (HF : Hid (FineO o ∧ FineO s ∧ ∀ x ∈ X, FineO x)) (HS : Hid (addO s (mulO (ofO q.2) o) = s')) (HX : Hid (addRow X q.1 o = X')) :
    Calls Try.prog 18 #[.pointer (some ⟨g, 0, none⟩), .agg #[.slice A n c, .int .i64 q.2], .agg #[.int .i64 (o.getD 0), .bool o.isNone]] w (AddOut B g r n s' X' w) := by
  have H := ladd_any q o s X A c g r n B w HQ.out HN.out.1 HN.out.2.1 HG.out HR.out HB.out.1 HB.out.2.1 HB.out.2.2 HF.out.1 HF.out.2.1 HF.out.2.2 HN.out.2.2
  rw [HS.out, HX.out] at H
  exact H
theorem lwhole_is {s : Option Int} {X : List (Option Int)} {r : Option Inq} {g ro n : Nat} {w : World} (HG : Hid (Whole w g [.slice (some ⟨ro, 0, none⟩) n n, .int .i64 (s.getD 0), .bool s.isNone] 51)) (HR : Hid (Whole w ro (numsV X) 49)) (HN : Hid (X.length = n ∧ n ≤ 64)) (HE : Hid (wholeR s X = r)) :
    Calls Try.prog 20 #[.pointer (some ⟨g, 0, none⟩)] w (SumOut 14 r w) := by
  have H := lwhole_any s X g ro n w HG.out HR.out HN.out.1 HN.out.2
  rw [HE.out] at H
  exact H
set_option maxHeartbeats 3200000 in
theorem lsum_own (list : List Inq) (times : List Int) (vars : Int) (A B : Option Addr) (c d : Nat) (w : World) (hl : SlcIs IneqAt 2 w w.heap.size A c list) (ht : SlcIs IntAt 1 w w.heap.size B d times) :
    Calls Try.prog 11 #[.slice A list.length c, .slice B times.length d, .int .i64 vars] w (SumOut 14 (sumR list times vars) w) := by
  have HL := Lib.hid hl
  have HT := Lib.hid ht
  have hl1 := hl.cap
  have ht1 := ht.cap
  have ht2 := ht.le
  have hl2 := hl.le
  clear hl ht
  have HW1 : Hid (Whole (w.alloc (.cells #[.slice none 0 0, .int .i64 0] 27)) w.heap.size [.slice none 0 0, .int .i64 0] 27) := Lib.hid (Whole.new w _ 27)
  have HX1 : Hid (Below w.heap.size w (w.alloc (.cells #[.slice none 0 0, .int .i64 0] 27))) := Lib.hid ((Below.refl w.heap.size w).alloc (Nat.le_refl _) _)
  have HS1 : Hid ((w.alloc (.cells #[.slice none 0 0, .int .i64 0] 27)).heap.size = w.heap.size + 1) := Lib.hid (by simp)
  by_cases c1 : list.length = times.length
  rotate_left
  · have hne : ((times.length : Int) != (list.length : Int)) = true := bne_iff_ne.mpr (by omega)
    have HN : Hid (sumR list times vars = none) := Lib.hid (by unfold sumR; rw [if_neg]; intro g; unfold sumOk at g; rw [Bool.and_eq_true, Bool.and_eq_true, Bool.and_eq_true] at g; have := of_decide_eq_true g.1; exact c1 this)
    go_enter Try.func11, Try.ntmps11
    go_upto_region 1 with fail
    generalize w.alloc (.cells #[.slice none 0 0, .int .i64 0] 27) = w1 at *
    have k0 := HW1.out.cells 0 _ rfl
    have k1 := HW1.out.cells 1 _ rfl
    have f0 := HW1.out.free 0
    have f1 := HW1.out.free 1
    clear c1
    go_wp2_with fail
    have hz := (HW1.out.set 0 (.slice none 0 0)).set 1 (.int .i64 0)
    have z0 := hz.cells 0 _ rfl
    have z1 := hz.cells 1 _ rfl
    refine bodyPost_ret (v := .tuple #[.agg #[.slice none 0 0, .int .i64 0], .int .i64 14]) (by simp [results, Try.results11, go_sem, z0, z1]) rfl (sum_no (B := 0) HN.out ?_)
    exact (HX1.out.setCell (p := ⟨w.heap.size, 0, none⟩) (Nat.le_refl _) _).setCell (p := ⟨w.heap.size, 1, none⟩) (Nat.le_refl _) _
  obtain ⟨K, hK⟩ : ∃ K, list.length = K := ⟨_, rfl⟩
  have HLK := Lib.hid hK
  have HTK : Hid (times.length = K) := Lib.hid (by omega)
  rw [hK] at hl2
  rw [HTK.out] at ht2
  rw [hK, HTK.out]
  clear c1 hK
  have heq : ((K : Int) != (K : Int)) = false := by simp
  by_cases c2 : vars < 0
  · have HN0 := c2
    have HN : Hid (sumR list times vars = none) := Lib.hid (by unfold sumR; rw [if_neg]; intro g; unfold sumOk at g; rw [Bool.and_eq_true, Bool.and_eq_true, Bool.and_eq_true] at g; have := of_decide_eq_true g.2.1; omega)
    go_enter Try.func11, Try.ntmps11
    go_upto_region 1 with fail
    generalize w.alloc (.cells #[.slice none 0 0, .int .i64 0] 27) = w1 at *
    have k0 := HW1.out.cells 0 _ rfl
    have k1 := HW1.out.cells 1 _ rfl
    have f0 := HW1.out.free 0
    have f1 := HW1.out.free 1
    go_wp2_with fail
    have hz := (HW1.out.set 0 (.slice none 0 0)).set 1 (.int .i64 0)
    have z0 := hz.cells 0 _ rfl
    have z1 := hz.cells 1 _ rfl
    refine bodyPost_ret (v := .tuple #[.agg #[.slice none 0 0, .int .i64 0], .int .i64 14]) (by simp [results, Try.results11, go_sem, z0, z1]) rfl (sum_no (B := 0) HN.out ?_)
    exact (HX1.out.setCell (p := ⟨w.heap.size, 0, none⟩) (Nat.le_refl _) _).setCell (p := ⟨w.heap.size, 1, none⟩) (Nat.le_refl _) _
  by_cases c3 : vars > 64
  · have HN0 := c3
    have HN : Hid (sumR list times vars = none) := Lib.hid (by unfold sumR; rw [if_neg]; intro g; unfold sumOk at g; rw [Bool.and_eq_true, Bool.and_eq_true, Bool.and_eq_true] at g; have := of_decide_eq_true g.2.2.1; omega)
    go_enter Try.func11, Try.ntmps11
    go_upto_region 1 with fail
    generalize w.alloc (.cells #[.slice none 0 0, .int .i64 0] 27) = w1 at *
    have k0 := HW1.out.cells 0 _ rfl
    have k1 := HW1.out.cells 1 _ rfl
    have f0 := HW1.out.free 0
    have f1 := HW1.out.free 1
    go_wp2_with fail
    have hz := (HW1.out.set 0 (.slice none 0 0)).set 1 (.int .i64 0)
    have z0 := hz.cells 0 _ rfl
    have z1 := hz.cells 1 _ rfl
    refine bodyPost_ret (v := .tuple #[.agg #[.slice none 0 0, .int .i64 0], .int .i64 14]) (by simp [results, Try.results11, go_sem, z0, z1]) rfl (sum_no (B := 0) HN.out ?_)
    exact (HX1.out.setCell (p := ⟨w.heap.size, 0, none⟩) (Nat.le_refl _) _).setCell (p := ⟨w.heap.size, 1, none⟩) (Nat.le_refl _) _
  obtain ⟨n, rfl⟩ := Int.eq_ofNat_of_zero_le (show 0 ≤ vars by omega)
  have hn : n ≤ 64 := by omega
  obtain ⟨tyi, hi, hz0, hz1, hz2⟩ := info_partsL info_num
  obtain ⟨R, hR⟩ : ∃ R, sumR list times (n : Int) = R := ⟨_, rfl⟩
  rw [hR]
  have HRR := Lib.hid hR
  clear hR
  go_enter Try.func11, Try.ntmps11
  go_upto_region 1 with fail
  generalize w.alloc (.cells #[.slice none 0 0, .int .i64 0] 27) = w1 at *
  go_upto_region 4 with (at_make; refine wpList_make_full _ rfl _ _ 47 rfl w1.heap.size 49 tyi (.agg #[.int .i64 0, .bool false]) 2 Try.underlying47 hi hz0 hz1 .i64 .i64 _ _ n rfl rfl rfl rfl (by rw [hz2]; omega) (by unfold maxLen; omega) (Nat.le_refl _) ?_; intro w2 hown hgrow; have HO2 := Lib.hid hown; have HB2 := Lib.hid ((Below.refl w1.heap.size w1).grown hgrow (Nat.le_refl _) (fun k hk => by cases hk)); clear hown hgrow)
  have HLT2 : Hid (w1.heap.size < w2.heap.size) := Lib.hid (Whole.lt (own_whole2 HO2.out))
  have HG : Hid (Whole (w2.alloc (.cells #[.slice (some ⟨w1.heap.size, 0, none⟩) n n, .int .i64 0, .bool false] 51)) w2.heap.size [.slice (some ⟨w1.heap.size, 0, none⟩) n n, .int .i64 ((partO (list.map Prod.snd) times 0).getD 0), .bool (partO (list.map Prod.snd) times 0).isNone] 51) := Lib.hid (Whole.new w2 _ 51)
  have HR : Hid (Whole (w2.alloc (.cells #[.slice (some ⟨w1.heap.size, 0, none⟩) n n, .int .i64 0, .bool false] 51)) w1.heap.size (numsV (partsO list times n 0)) 49) := Lib.hid (by
    have h1 := own_whole2 HO2.out
    rw [made_nums, ← parts_zero list times n] at h1
    exact h1.keep ((Below.refl w2.heap.size w2).alloc (Nat.le_refl _) _) HLT2.out)
  have HX : Hid (Below w1.heap.size w1 (w2.alloc (.cells #[.slice (some ⟨w1.heap.size, 0, none⟩) n n, .int .i64 0, .bool false] 51))) := Lib.hid (HB2.out.alloc (Nat.le_of_lt HLT2.out) _)
  clear HO2 HB2
  generalize w2.alloc (.cells #[.slice (some ⟨w1.heap.size, 0, none⟩) n n, .int .i64 0, .bool false] 51) = w3 at *
  go_wp2_with fail
  go_loopw [30] (fun z wr => ∃ i : Nat, i ≤ K ∧ z = .int .i64 i ∧ Hid (Whole wr w2.heap.size [.slice (some ⟨w1.heap.size, 0, none⟩) n n, .int .i64 ((partO (list.map Prod.snd) times i).getD 0), .bool (partO (list.map Prod.snd) times i).isNone] 51) ∧ Hid (Whole wr w1.heap.size (numsV (partsO list times n i)) 49) ∧ Hid (Below w1.heap.size w1 wr) ∧ Hid (∀ j, j < i → 0 ≤ times[j]?.getD 0 ∧ (list[j]?.getD ([], 0)).1.length = n)) (fun z _ => K - (intOf z).toNat)
  case atStart => exact ⟨0, Nat.zero_le _, rfl, HG, HR, HX, Lib.hid (fun j hj => by omega)⟩
  case round =>
    clear HG HR HX
    obtain ⟨i, hik, rfl, HG, HR, HX, HA⟩ := hrel
    have HXW : Hid (∀ W, Below w1.heap.size w1 W → Below w.heap.size w W) := Lib.hid (fun W hW => HX1.out.trans (hW.mono (by have := HX1.out.size; omega)))
    by_cases hiK : i < K
    · have hiL : i < list.length := by rw [HLK.out]; exact hiK
      have hiT : i < times.length := by rw [HTK.out]; exact hiK
      obtain ⟨ad, rfl, hab, ⟨A1, cq, r0, hsl⟩, r1⟩ := HL.out.row.at_ hiL
      obtain ⟨ad', rfl, hab', t0⟩ := HT.out.row.at_ hiT
      replace t0 : w.cell? (ad'.add i) = some (.int .i64 times[i]) := by have := t0; rw [Nat.mul_one] at this; exact this
      have hqe : list[i]? = some list[i] := List.getElem?_eq_getElem hiL
      have hte : times[i]? = some times[i] := List.getElem?_eq_getElem hiT
      generalize list[i] = q at *
      generalize times[i] = t at *
      have HQE := Lib.hid hqe
      have HTE := Lib.hid hte
      have HSL := Lib.hid hsl
      have hq1 := hsl.le
      have hq2 := hsl.cap
      have s0 := ((HXW.out _ HX.out).cell (p := ad.add (i * 2)) (by rw [addr_add_block]; exact hab)).trans r0
      have s1 := ((HXW.out _ HX.out).cell (p := off_ (ad.add (i * 2)) 1) (by show (ad.add (i * 2)).block < _; rw [addr_add_block]; exact hab)).trans r1
      have HKS : Hid (∀ W, Below w1.heap.size w1 W → (fun w' => w'.cell? (ad'.add i) = some (.int .i64 t)) W) := Lib.hid (fun W hW => ((HXW.out W hW).cell (p := ad'.add i) (by rw [addr_add_block]; exact hab')).trans t0)
      have HQA : Hid (∀ W, Below w1.heap.size w1 W → Hid (SlcIs IntAt 1 W w1.heap.size A1 cq q.1)) := Lib.hid (fun W hW => Lib.hid ((HSL.out.below_to IntAt.keeps (HXW.out W hW) (Nat.le_refl _)).keep' IntAt.keeps HX1.out.size (fun _ _ => rfl)))
      clear r0 r1 t0 hqe hte hsl hiL hiT
      go_upto_region 7 with fail
      replace HG := Lib.hid (HG.out.keep ((Below.refl _ _).alloc (Nat.le_refl _) (.cells #[.slice A1 q.1.length cq, .int .i64 q.2] 27)) HG.out.lt)
      replace HR := Lib.hid (HR.out.keep ((Below.refl _ _).alloc (Nat.le_refl _) (.cells #[.slice A1 q.1.length cq, .int .i64 q.2] 27)) HR.out.lt)
      replace HX := Lib.hid (HX.out.alloc HX.out.size (.cells #[.slice A1 q.1.length cq, .int .i64 q.2] 27))
      have HB : Hid (Whole (wr.alloc (.cells #[.slice A1 q.1.length cq, .int .i64 q.2] 27)) wr.heap.size [.slice A1 q.1.length cq, .int .i64 q.2] 27) := Lib.hid (Whole.new wr _ 27)
      generalize wr.alloc (.cells #[.slice A1 q.1.length cq, .int .i64 q.2] 27) = w5 at *
      clear s0 s1
      by_cases hbad : t < 0 ∨ ¬ q.1.length = n
      · have t5 : w5.cell? (ad'.add i) = some (.int .i64 t) := HKS.out _ HX.out
        have c0 := HB.out.cells 0 _ rfl
        have hW5 := HW1.out.keep HX.out HW1.out.lt
        have k0 := hW5.cells 0 _ rfl
        have k1 := hW5.cells 1 _ rfl
        have f0 := hW5.free 0
        have f1 := hW5.free 1
        have HW5 := Lib.hid hW5
        have HBAD : Hid (R = none) := Lib.hid (by
          rw [← HRR.out]
          refine sum_wrong (j := i) (by rw [HLK.out]; exact hiK) (fun h => ?_)
          rw [HQE.out, HTE.out] at h
          obtain ⟨h1, h2⟩ := h
          have h1 : 0 ≤ t := h1
          have h2 : q.1.length = n := h2
          omega)
        clear hW5
        have hcs : t < 0 ∨ (¬ t < 0 ∧ ((q.1.length : Int) != (n : Int)) = true) := by
          by_cases h : t < 0
          · exact .inl h
          · exact .inr ⟨h, bne_iff_ne.mpr (by omega)⟩
        clear hbad
        rcases hcs with h7 | ⟨h7, h8⟩
        all_goals
          go_wp2_with fail
          have hz := (HW5.out.set 0 (.slice none 0 0)).set 1 (.int .i64 0)
          have z0 := hz.cells 0 _ rfl
          have z1 := hz.cells 1 _ rfl
          refine bodyPost_ret (v := .tuple #[.agg #[.slice none 0 0, .int .i64 0], .int .i64 14]) (by simp [results, Try.results11, go_sem, z0, z1]) rfl (sum_no (B := 0) HBAD.out ?_)
          exact ((HXW.out _ HX.out).setCell (p := ⟨w.heap.size, 0, none⟩) (Nat.le_refl _) _).setCell (p := ⟨w.heap.size, 1, none⟩) (Nat.le_refl _) _
      · have h7 : ¬ t < 0 := fun h => hbad (.inl h)
        have hqn : q.1.length = n := Classical.byContradiction fun h => hbad (.inr h)
        have HQN := Lib.hid hqn
        rw [hqn] at hq1 HB
        have t5 : w5.cell? (ad'.add i) = some (.int .i64 t) := HKS.out _ HX.out
        have c0 := HB.out.cells 0 _ rfl
        clear hqn hbad
        obtain ⟨ro, hro⟩ : ∃ r, ofO t = r := ⟨_, rfl⟩
        have HRO := Lib.hid hro
        have HNN : Hid (q.1.length = n ∧ (partsO list times n i).length = n ∧ n ≤ 64) := Lib.hid ⟨HQN.out, parts_len .., hn⟩
        have HBB : Hid (w2.heap.size ≠ w1.heap.size ∧ w1.heap.size ≤ w2.heap.size ∧ w1.heap.size ≤ w1.heap.size) := Lib.hid ⟨by have := HLT2.out; omega, by have := HLT2.out; omega, Nat.le_refl _⟩
        have HFF : Hid (FineO ro ∧ FineO (partO (list.map Prod.snd) times i) ∧ ∀ x ∈ partsO list times n i, FineO x) := Lib.hid ⟨hro ▸ ofO_fine t, partO_fine _ _ _, parts_fine⟩
        have HAS : Hid (addO (partO (list.map Prod.snd) times i) (mulO (ofO q.2) ro) = partO (list.map Prod.snd) times (i + 1)) := Lib.hid (by rw [← hro]; exact (most_succ HQE.out HTE.out).symm)
        have HAX : Hid (addRow (partsO list times n i) q.1 ro = partsO list times n (i + 1)) := Lib.hid (by rw [← hro]; exact (parts_succ HQE.out HTE.out HQN.out).symm)
        have HA6 : Hid (∀ j, j < i + 1 → 0 ≤ times[j]?.getD 0 ∧ (list[j]?.getD ([], 0)).1.length = n) := Lib.hid (fun j hj => by
          rcases Nat.lt_or_ge j i with h | h
          · exact HA.out j h
          · obtain rfl : j = i := by omega
            rw [HQE.out, HTE.out]
            exact ⟨by show 0 ≤ t; omega, HQN.out⟩)
        clear hro
        go_upto_region 9 with fail
        clear t5 c0
        refine wp_region_noPanic ?_
        refine wp_region_held_drew (S := fun w' => w'.cell? (ad'.add i) = some (.int .i64 t)) (by kernel_rfl) (HKS.out _ HX.out.drew) (fun hHeld => ?_)
        replace HX := Lib.hid HX.out.drew
        replace HG := Lib.hid HG.out.drew'
        replace HR := Lib.hid HR.out.drew'
        replace HB := Lib.hid HB.out.drew'
        generalize w5.drew = wd at *
        have c0 := HB.out.cells 0 _ rfl
        have c1 := HB.out.cells 1 _ rfl
        refine wpAnyH_take (i := 1) (oi := _) (v := ?_) rfl (by kernel_rfl) (by kernel_rfl) (by kernel_rfl) (fun _ _ _ h => h) (Or.inl ⟨by rfl, ?_⟩) (by assumption) ?_
        rotate_left
        · (intro w hSw; (try dsimp only at hSw); go_simp <;> with_reducible rfl)
        try simp only [List.getElem_toArray, List.getElem_cons_succ, List.getElem_cons_zero, Act.put, List.setIfInBounds_toArray, List.set_cons_zero, List.set_cons_succ]
        refine wpAnyH_take (i := 2) (oi := _) (v := ?_) rfl (by kernel_rfl) (by kernel_rfl) (by kernel_rfl) (fun _ _ _ h => h) (Or.inl ⟨by rfl, ?_⟩) (by assumption) ?_
        rotate_left
        · (intro w hSw; (try dsimp only at hSw); go_simp <;> with_reducible rfl)
        try simp only [List.getElem_toArray, List.getElem_cons_succ, List.getElem_cons_zero, Act.put, List.setIfInBounds_toArray, List.set_cons_zero, List.set_cons_succ]
        refine wpAnyH_take (i := 3) (oi := _) (v := ?_) rfl (by kernel_rfl) (by kernel_rfl) (by kernel_rfl) (fun _ _ _ h => h) (Or.inl ⟨by rfl, ?_⟩) (by assumption) ?_
        rotate_left
        · (intro w hSw; (try dsimp only at hSw); go_simp <;> with_reducible rfl)
        try simp only [List.getElem_toArray, List.getElem_cons_succ, List.getElem_cons_zero, Act.put, List.setIfInBounds_toArray, List.set_cons_zero, List.set_cons_succ]
        refine wpAnyH_take (i := 4) (oi := _) (v := ?_) rfl (by kernel_rfl) (by kernel_rfl) (by kernel_rfl) (fun _ _ _ h => h) (Or.inl ⟨by rfl, ?_⟩) (by assumption) ?_
        rotate_left
        · (intro w hSw; (try dsimp only at hSw); go_simp <;> with_reducible rfl)
        try simp only [List.getElem_toArray, List.getElem_cons_succ, List.getElem_cons_zero, Act.put, List.setIfInBounds_toArray, List.set_cons_zero, List.set_cons_succ]
        refine wpAnyH_ready (rs := [0, 5]) (by kernel_rfl) (by simp) ?_
        refine (AllReadyH.cons (o := _) rfl (fun K hK => ?_) (AllReadyH.cons (o := _) rfl (fun K hK => ?_) AllReadyH.nil))
        · go_simp
          refine hK.out _ _ hHeld (fun hHeld => ?_)
          clear hK K
          try simp only [List.getElem_toArray, List.getElem_cons_succ, List.getElem_cons_zero, Act.put, List.setIfInBounds_toArray, List.set_cons_zero, List.set_cons_succ]
          refine wpAnyH_ready (rs := [5]) (by kernel_rfl) (by simp) ?_
          refine AllReadyH.cons (o := _) rfl (fun K hK => ?_) AllReadyH.nil
          go_simp
          (go_at_call 19; (with_reducible refine (of_is HRO).mono ?_); rintro e w6 ⟨rfl, hb⟩; replace HG := Lib.hid (HG.out.keep hb HG.out.lt); replace HR := Lib.hid (HR.out.keep hb HR.out.lt); replace HX := Lib.hid (HX.out.trans (hb.mono HX.out.size)); replace HB := Lib.hid (HB.out.keep hb HB.out.lt); have c0 := HB.out.cells 0 _ rfl; have c1 := HB.out.cells 1 _ rfl; clear hb)
          refine hK.out _ _ (HKS.out _ HX.out) (fun hHeld => ?_)
          clear hK K
          try simp only [List.getElem_toArray, List.getElem_cons_succ, List.getElem_cons_zero, Act.put, List.setIfInBounds_toArray, List.set_cons_zero, List.set_cons_succ]
          refine wpAnyH_ready (rs := [6]) (by kernel_rfl) (by simp) ?_
          refine AllReadyH.cons (o := _) rfl (fun K hK => ?_) AllReadyH.nil
          go_simp
          (go_at_call 18; (with_reducible refine (ladd_is (HQA.out _ HX.out) HNN HG HR HBB HFF HAS HAX).mono ?_); rintro e w7 ⟨rfl, hb, hg7, hr7⟩; have HX7 := Lib.hid (HX.out.trans hb); have HG7 := Lib.hid hg7; have HR7 := Lib.hid hr7; clear hb hg7 hr7)
          refine hK.out _ _ (HKS.out _ HX7.out) (fun hHeld => ?_)
          clear hK K
          try simp only [List.getElem_toArray, List.getElem_cons_succ, List.getElem_cons_zero, Act.put, List.setIfInBounds_toArray, List.set_cons_zero, List.set_cons_succ]
          refine wpAnyH_done (by kernel_rfl) ?_ _
          refine NoPanic.normal ?_
          go_wp2_with fail
          go_roundw
          case rel => exact ⟨i + 1, by omega, by go_num, HG7, HR7, HX7, HA6⟩
          case measure => simp [intOf]; omega
        · go_simp
          (go_at_call 19; (with_reducible refine (of_is HRO).mono ?_); rintro e w6 ⟨rfl, hb⟩; replace HG := Lib.hid (HG.out.keep hb HG.out.lt); replace HR := Lib.hid (HR.out.keep hb HR.out.lt); replace HX := Lib.hid (HX.out.trans (hb.mono HX.out.size)); replace HB := Lib.hid (HB.out.keep hb HB.out.lt); have c0 := HB.out.cells 0 _ rfl; have c1 := HB.out.cells 1 _ rfl; clear hb)
          refine hK.out _ _ (HKS.out _ HX.out) (fun hHeld => ?_)
          clear hK K
          try simp only [List.getElem_toArray, List.getElem_cons_succ, List.getElem_cons_zero, Act.put, List.setIfInBounds_toArray, List.set_cons_zero, List.set_cons_succ]
          refine wpAnyH_ready (rs := [0]) (by kernel_rfl) (by simp) ?_
          refine AllReadyH.cons (o := _) rfl (fun K hK => ?_) AllReadyH.nil
          go_simp
          refine hK.out _ _ hHeld (fun hHeld => ?_)
          clear hK K
          try simp only [List.getElem_toArray, List.getElem_cons_succ, List.getElem_cons_zero, Act.put, List.setIfInBounds_toArray, List.set_cons_zero, List.set_cons_succ]
          refine wpAnyH_ready (rs := [6]) (by kernel_rfl) (by simp) ?_
          refine AllReadyH.cons (o := _) rfl (fun K hK => ?_) AllReadyH.nil
          go_simp
          (go_at_call 18; (with_reducible refine (ladd_is (HQA.out _ HX.out) HNN HG HR HBB HFF HAS HAX).mono ?_); rintro e w7 ⟨rfl, hb, hg7, hr7⟩; have HX7 := Lib.hid (HX.out.trans hb); have HG7 := Lib.hid hg7; have HR7 := Lib.hid hr7; clear hb hg7 hr7)
          refine hK.out _ _ (HKS.out _ HX7.out) (fun hHeld => ?_)
          clear hK K
          try simp only [List.getElem_toArray, List.getElem_cons_succ, List.getElem_cons_zero, Act.put, List.setIfInBounds_toArray, List.set_cons_zero, List.set_cons_succ]
          refine wpAnyH_done (by kernel_rfl) ?_ _
          refine NoPanic.normal ?_
          go_wp2_with fail
          go_roundw
          case rel => exact ⟨i + 1, by omega, by go_num, HG7, HR7, HX7, HA6⟩
          case measure => simp [intOf]; omega
    · obtain rfl : i = K := by omega
      have hvi : ¬ (i : Int) < (i : Int) := by omega
      have HNK : Hid ((partsO list times n i).length = n ∧ n ≤ 64) := Lib.hid ⟨parts_len .., hn⟩
      have HE : Hid (wholeR (partO (list.map Prod.snd) times i) (partsO list times n i) = R) := Lib.hid ((sum_whole HLK.out HTK.out hn HA.out).symm.trans HRR.out)
      have HLW : Hid (w.heap.size < wr.heap.size) := Lib.hid (by have := HS1.out; have := HX.out.size; omega)
      go_wp2_with (go_at_call 20; (with_reducible refine (lwhole_is HG HR HNK HE).mono ?_); rintro e w8 ⟨A8, c8, k8, rfl, hb, hs8, hk8, ha8⟩; have HX8 := Lib.hid (HX.out.trans (hb.mono HX.out.size)); have HS8 := Lib.hid hs8; have HK8 := Lib.hid hk8; have HA8 := Lib.hid ha8; have hW8 := HW1.out.keep HX8.out HW1.out.lt; have HW8 := Lib.hid hW8; have k0 := hW8.cells 0 _ rfl; have k1 := hW8.cells 1 _ rfl; have f0 := hW8.free 0; have f1 := hW8.free 1; clear hb hs8 hk8 ha8 hW8)
      have hz := (HW8.out.set 0 (.slice A8 (R.getD ([], 0)).1.length c8)).set 1 (.int .i64 (R.getD ([], 0)).2)
      have z0 := hz.cells 0 _ rfl
      have z1 := hz.cells 1 _ rfl
      refine bodyPost_ret (v := .tuple #[.agg #[.slice A8 (R.getD ([], 0)).1.length c8, .int .i64 (R.getD ([], 0)).2], .int .i64 k8]) (by simp [results, Try.results11, go_sem, z0, z1]) rfl ?_
      refine ⟨A8, c8, k8, rfl, ((HXW.out _ HX8.out).setCell (p := ⟨w.heap.size, 0, none⟩) (Nat.le_refl _) _).setCell (p := ⟨w.heap.size, 1, none⟩) (Nat.le_refl _) _, ?_, HK8.out, fun ad e => Nat.le_of_lt (Nat.lt_of_lt_of_le HLW.out (HA8.out ad e))⟩
      refine ints_off (g := w.heap.size) HS8.out (by simp) (fun q hq => ?_) (fun ad e => ?_)
      · rw [World.cell?_setCell_far _ _ _ _ (fun e => hq e.symm), World.cell?_setCell_far _ _ _ _ (fun e => hq e.symm)]
      · have h1 := HA8.out ad e
        have h2 := HLW.out
        omega
end Go.Proofs.Ytncbmjpfbkngdaa
