/-
  The statement that where inequalities hold of small numbers, all that they prove does (LinSound), walked: it answers true at any inequalities and numbers.
-/
import Derived.Test.YtncbmjpfbkngdaaLinWords2
import Derived.Test.YtncbmjpfbkngdaaLinSmall
import Derived.Test.YtncbmjpfbkngdaaOwnTurn
import Derived.Deep.Cut
import Derived.IntWalk
import Derived.RegionTactic
import Derived.ChangeAlike
import Derived.Deep.RegionHeld3
import Derived.Deep.QuietTactic
import Derived.BigQuiet
namespace Go.Proofs.Ytncbmjpfbkngdaa
set_option maxRecDepth 100000
set_option linter.unusedVariables false
set_option linter.unusedSimpArgs false
open Go.ChangeShapes Go.WideShapes Go.ChangeAt Go.RowKit
set_option linter.unusedVariables false
set_option linter.unusedSimpArgs false

theorem own_slc14 {w : World} {B e : Nat} {v : Value} {l : List Int} (h : w.ownsRow B e 1 v l.length (l.map (Value.int .i64))) : ∃ A c, v = .slice A l.length c ∧ SlcIs IntAt 1 w w.heap.size A c l := by
  obtain ⟨A, c, rfl, hl, h1, h2⟩ := own_ints h
  exact ⟨A, c, rfl, h1, h2, fun i x hi => by
    obtain ⟨ad, e, hb, hc⟩ := hl i (.int .i64 x) (by rw [List.getElem?_map, hi]; rfl)
    exact ⟨ad, e, hb, by show w.cell? (ad.add (i * 1)) = _; rw [Nat.mul_one]; exact hc⟩⟩
/-- The times of the first ones, 0 where there are none. -/
def timesTo (ts : List Int) (k : Nat) : List Int := (List.range k).map fun i => ts[i]?.getD 0
theorem timesTo_len (ts : List Int) (k : Nat) : (timesTo ts k).length = k := by unfold timesTo; simp
theorem timesTo_next (ts : List Int) (k : Nat) : timesTo ts (k + 1) = timesTo ts k ++ [ts[k]?.getD 0] := by unfold timesTo; rw [List.range_succ, List.map_append]; rfl
theorem timesTo_range {ts : List Int} (h : ∀ t ∈ ts, 0 ≤ t ∧ t ≤ 255) (k : Nat) : ∀ t ∈ timesTo ts k, 0 ≤ t ∧ t ≤ 255 := fun t ht => by
  unfold timesTo at ht
  obtain ⟨i, _, rfl⟩ := List.mem_map.mp ht
  cases e : ts[i]? with
  | none => exact ⟨by decide, by decide⟩
  | some x => exact h x (List.mem_of_getElem? e)
/-- An inequality of a list, where it stands. -/
theorem inq_at {w : World} {B : Nat} {A : Option Addr} {c : Nat} {list : List Inq} (h : SlcIs IneqAt 2 w B A c list) {k : Nat} (hk : k < list.length) : ∃ ad A' c', A = some ad ∧ ad.block < B ∧ w.cell? (ad.add (k * 2)) = some (.slice A' list[k].1.length c') ∧ w.cell? (off_ (ad.add (k * 2)) 1) = some (.int .i64 list[k].2) ∧ SlcIs IntAt 1 w B A' c' list[k].1 := by
  obtain ⟨ad, e, hb, hq⟩ := h.row.at_ hk
  obtain ⟨⟨A', c', h1, h2⟩, h3⟩ := hq
  exact ⟨ad, A', c', e, hb, h1, h3, h2⟩

theorem fewQ_intro {l : List Inq} (h : l.length ≤ 40) (h2 : ∀ q ∈ l, q.1.length ≤ 100) : fewQ l = true := by
  unfold fewQ
  rw [Bool.and_eq_true, decide_eq_true_eq, List.all_eq_true]
  exact ⟨h, fun q hq => decide_eq_true (h2 q hq)⟩
theorem small_intro {n : Nat} {Q : List Int} {m M C : Int} (h : Q.length = n) (h1 : ¬ m > M) (h2 : ¬ m < -M) (hc : ∀ c ∈ Q.take n, c ≤ C ∧ -C ≤ c) : smallB n M C (Q, m) = true := by
  unfold smallB
  simp only [Bool.and_eq_true, decide_eq_true_eq, List.all_eq_true]
  refine ⟨h, by omega, by omega, fun c hq => ?_⟩
  rw [← h, List.take_length] at hc
  exact hc c hq
set_option maxHeartbeats 6400000 in
theorem linSound_any (list : List Inq) (ts W xs : List Int) (m : Int) (A B C D : Option Addr) (c d ce cd : Nat) (w : World) (hl : SlcIs IneqAt 2 w w.heap.size A c list) (ht : Lies w w.heap.size B (ts.map (Value.int .u8))) (htn : ts.length ≤ 9223372036854775807) (htr : ∀ t ∈ ts, 0 ≤ t ∧ t ≤ 255) (hw : SlcIs IntAt 1 w w.heap.size C ce W) (hx : Lies w w.heap.size D (xs.map (Value.int .i16))) (hxn : xs.length ≤ 9223372036854775807) (hxr : ∀ x ∈ xs, -32768 ≤ x ∧ x ≤ 32767) :
    Calls Try.prog 6 #[.slice A list.length c, .slice B ts.length d, .agg #[.slice C W.length ce, .int .i64 m], .slice D xs.length cd] w fun e w' => e = .returned (.bool true) ∧ Below w.heap.size w w' := by
  obtain ⟨n, hn⟩ : ∃ n, list.length = n := ⟨_, rfl⟩
  obtain ⟨nw, hnw⟩ : ∃ n, W.length = n := ⟨_, rfl⟩
  obtain ⟨nx, hnx⟩ : ∃ n, xs.length = n := ⟨_, rfl⟩
  obtain ⟨nt, hnt⟩ : ∃ n, ts.length = n := ⟨_, rfl⟩
  obtain ⟨hc, hb, hz⟩ := one_inq w (.slice C nw ce) (.int .i64 m)
  obtain ⟨i0, hi, hz0, hz1, hz2⟩ := info_parts14 info_int14
  have HCW := Lib.hid hc
  have HW := Lib.hid hb
  have HZ := Lib.hid hz
  have H1 := Lib.hid (lslcUp IneqAt.keeps hl hb)
  have HT := Lib.hid ((ht.below hb).more hb.size)
  have HTR := Lib.hid htr
  have HXL := Lib.hid ((hx.below hb).more hb.size)
  have HXR := Lib.hid hxr
  have HWS := Lib.hid (And.intro (lslcUp IntAt.keeps hw hb) hnw)
  have hw1 := hw.le
  have hw2 := hw.cap
  have hl1 := hl.le
  have hl2 := hl.cap
  rw [hnw] at hw1
  rw [hn] at hl1
  rw [hnt] at htn
  rw [hnx] at hxn
  have HLN := Lib.hid hn
  have HWN := Lib.hid hnw
  have HXN := Lib.hid hnx
  have HTN := Lib.hid hnt
  rw [hn, hnt, hnw, hnx]
  have HXSM : Hid (∀ y ∈ xs, y.natAbs ≤ 32768) := Lib.hid (fun y hy => by have := hxr y hy; omega)
  clear hl ht hw hx htr hxr hn hnt hnw hnx hc hb hz
  go_enter Try.func6, Try.ntmps6
  go_upto_region 1 with fail
  generalize w.alloc (.cells #[.slice C nw ce, .int .i64 m] 27) = w1 at *
  have HX : Hid (Below w1.heap.size w1 w1) := Lib.hid (Below.refl _ _)
  by_cases hn20 : (n : Int) > 20
  · go_wp2_with (first | (go_at_call 10; (with_reducible refine (linAwake_any _).mono ?_); rintro e wk ⟨rfl, hb⟩; have HX := Lib.hid (HX.out.trans (hb.mono HX.out.size)); clear hb))
    go_ret
    exact ⟨by first | rfl | simp, HW.out.trans (HX.out.mono HW.out.size)⟩
  by_cases hx20 : (nx : Int) > 20
  · go_wp2_with (first | (go_at_call 10; (with_reducible refine (linAwake_any _).mono ?_); rintro e wk ⟨rfl, hb⟩; have HX := Lib.hid (HX.out.trans (hb.mono HX.out.size)); clear hb))
    go_ret
    exact ⟨by first | rfl | simp, HW.out.trans (HX.out.mono HW.out.size)⟩
  go_wp2_with fail
  clear HX
  go_loopw [9, 10] (fun v i wr => ∃ k : Nat, k ≤ nx ∧ i = .int .i64 k ∧ Hid (wr.ownsRow w1.heap.size 3 1 v k ((xs.take k).map (Value.int .i64))) ∧ Hid (Below w1.heap.size w1 wr)) (fun _ i _ => nx - (intOf i).toNat)
  case atStart => exact ⟨0, Nat.zero_le _, rfl, Lib.hid (own_empty w1 _), Lib.hid ((Below.refl _ _).alloc (Nat.le_refl _) _)⟩
  case round =>
    obtain ⟨k, hk, rfl, HO, HX⟩ := hrel
    by_cases hlt : k < nx
    · obtain ⟨ad, rfl, hab, p0⟩ := (HXL.out.below HX.out) k (.int .i16 (xs[k]'(by rw [HXN.out]; exact hlt))) (by rw [List.getElem?_map, List.getElem?_eq_getElem (by rw [HXN.out]; exact hlt)]; rfl)
      have HTK : Hid (xs.take (k + 1) = xs.take k ++ [xs[k]'(by rw [HXN.out]; exact hlt)]) := Lib.hid (by rw [List.take_add_one, List.getElem?_eq_getElem (by rw [HXN.out]; exact hlt)]; rfl)
      have hr := HXR.out (xs[k]'(by rw [HXN.out]; exact hlt)) (List.getElem_mem _)
      generalize xs[k]'(by rw [HXN.out]; exact hlt) = x at *
      obtain ⟨r0, r1⟩ := hr
      have hsz := HX.out.size
      have hxl : ((xs.take k).map (Value.int .i64)).length = k := by rw [List.length_map, List.length_take, HXN.out]; omega
      go_wp2_with (at_builtin; refine append_liesK rfl _ _ 23 rfl _ 3 i0 (.int .i64 0) 1 8 Try.underlying23 hi hz0 hz1 hz2 rfl (by decide) _ k ((xs.take k).map (Value.int .i64)) rfl (HO.out.alloc _) (some ⟨wr.heap.size, 0, none⟩) 1 1 _ [.int .i64 x] rfl rfl (lies_v1 wr _ _) (one_cellv rfl) (by unfold maxLen; omega) (by omega) (by simp; omega) ?_; intro v6 w6 hown hgrow; have HX6 := Lib.hid (appK_more (HX.out.alloc hsz _) (HO.out.alloc _) (by simp; omega) hgrow); have HO6 : Hid (w6.ownsRow w1.heap.size 3 1 v6 (k + 1) ((xs.take (k + 1)).map (Value.int .i64))) := Lib.hid (by rw [HTK.out, List.map_append]; exact hown); clear hown hgrow)
      go_roundw
      case rel => exact ⟨k + 1, by omega, by go_num, HO6, HX6⟩
      case measure => simp [intOf]; omega
    · obtain rfl : k = nx := by omega
      obtain ⟨w2, e2⟩ : ∃ w2, w2 = wr := ⟨_, rfl⟩
      subst e2
      have HX2 := HX
      have ho := HO.out
      rw [show xs.take k = xs by rw [← HXN.out, List.take_length]] at ho
      obtain ⟨A9, c9, rfl, hs9⟩ := own_slc14 (l := xs) (v := u9) (w := w2) (by rw [HXN.out]; exact ho)
      rw [HXN.out]
      have HXS := Lib.hid hs9
      have H1 := Lib.hid (lslcUp IneqAt.keeps H1.out HX2.out)
      have HT := Lib.hid ((HT.out.below HX2.out).more HX2.out.size)
      have HWS : Hid (SlcIs IntAt 1 w2 w2.heap.size C ce W ∧ W.length = nw) := Lib.hid ⟨lslcUp IntAt.keeps HWS.out.1 HX2.out, HWS.out.2⟩
      have HCW := Lib.hid (HCW.out.keep HX2.out HZ.out)
      have HZ : Hid (w.heap.size < w2.heap.size) := Lib.hid (Nat.lt_of_lt_of_le HZ.out HX2.out.size)
      clear hs9 ho HO HX HXL
      go_wp2_with fail
      go_loopw [11, 12] (fun v i wr => ∃ (t : Nat) (T : List Int), t ≤ n ∧ i = .int .i64 t ∧ Hid (T = timesTo ts t) ∧ T.length = t ∧ Hid (wr.ownsRow w2.heap.size 3 1 v t (T.map (Value.int .i64))) ∧ Hid (Below w2.heap.size w2 wr) ∧ Hid (∀ q ∈ list.take t, smallB k 1099511627776 1048576 q = true ∧ dotI q.1 xs ≤ q.2)) (fun _ i _ => n - (intOf i).toNat)
      case atStart => exact ⟨0, [], Nat.zero_le _, rfl, Lib.hid rfl, rfl, Lib.hid (own_empty w2 _), Lib.hid ((Below.refl _ _).alloc (Nat.le_refl _) _), Lib.hid (by simp)⟩
      case round =>
        obtain ⟨t, T, ht, rfl, HTT, hTl, HO, HX, HALL⟩ := hrel
        by_cases hlt : t < n
        · obtain ⟨ad, Aq, cq, rfl, hab, p0, p1, hq⟩ := inq_at H1.out (k := t) (by rw [HLN.out]; exact hlt)
          have HTK : Hid (list.take (t + 1) = list.take t ++ [list[t]'(by rw [HLN.out]; exact hlt)]) := Lib.hid (by rw [List.take_add_one, List.getElem?_eq_getElem (by rw [HLN.out]; exact hlt)]; rfl)
          have HNX := Lib.hid (timesTo_next ts t)
          generalize list[t]'(by rw [HLN.out]; exact hlt) = q at *
          obtain ⟨Q, mq⟩ := q
          dsimp only at p0 p1 hq
          obtain ⟨nq, hnq⟩ : ∃ x, Q.length = x := ⟨_, rfl⟩
          rw [hnq] at p0
          have HQN := Lib.hid hnq
          have HQ := Lib.hid hq
          have hq1 := hq.le
          have hq2 := hq.cap
          rw [hnq] at hq1
          clear hnq hq
          have hsz := HX.out.size
          have HP : Hid (∀ Wd, Below w2.heap.size w2 Wd → Wd.cell? (ad.add (t * 2)) = some (.slice Aq nq cq) ∧ Wd.cell? (off_ (ad.add (t * 2)) 1) = some (.int .i64 mq)) := Lib.hid (fun Wd hW => ⟨(hW.cell (p := ad.add (t * 2)) (by rw [addr_add_block]; exact hab)).trans p0, (hW.cell (p := off_ (ad.add (t * 2)) 1) (by show (ad.add (t * 2)).block < _; rw [addr_add_block]; exact hab)).trans p1⟩)
          clear p0 p1 hab
          obtain ⟨p0, p1⟩ := HP.out _ HX.out
          by_cases hnq : nq = k
          rotate_left
          · have hne : ((nq : Int) != (k : Int)) = true := bne_iff_ne.mpr (by omega)
            go_wp2_with (first | (go_at_call 10; (with_reducible refine (linAwake_any _).mono ?_); rintro e wk ⟨rfl, hb⟩; have HX := Lib.hid (HX.out.trans (hb.mono HX.out.size)); clear hb))
            go_ret
            exact ⟨by first | rfl | simp, HW.out.trans ((HX2.out.trans (HX.out.mono HX2.out.size)).mono HW.out.size)⟩
          subst hnq
          have hne : ((nq : Int) != (nq : Int)) = false := bne_eq_false_iff_eq.mpr rfl
          by_cases hm1 : mq > 1099511627776
          · go_wp2_with (first | (go_at_call 10; (with_reducible refine (linAwake_any _).mono ?_); rintro e wk ⟨rfl, hb⟩; have HX := Lib.hid (HX.out.trans (hb.mono HX.out.size)); clear hb))
            go_ret
            exact ⟨by first | rfl | simp, HW.out.trans ((HX2.out.trans (HX.out.mono HX2.out.size)).mono HW.out.size)⟩
          by_cases hm2 : mq < -1099511627776
          · go_wp2_with (first | (go_at_call 10; (with_reducible refine (linAwake_any _).mono ?_); rintro e wk ⟨rfl, hb⟩; have HX := Lib.hid (HX.out.trans (hb.mono HX.out.size)); clear hb))
            go_ret
            exact ⟨by first | rfl | simp, HW.out.trans ((HX2.out.trans (HX.out.mono HX2.out.size)).mono HW.out.size)⟩
          go_wp2_with fail
          go_loopw [13] (fun i wi => ∃ v : Nat, v ≤ nq ∧ i = .int .i64 v ∧ wi = wr ∧ Hid (∀ c ∈ Q.take v, c ≤ 1048576 ∧ -1048576 ≤ c)) (fun i _ => nq - (intOf i).toNat)
          case atStart => exact ⟨0, Nat.zero_le _, rfl, rfl, Lib.hid (by simp)⟩
          case round =>
            obtain ⟨v, hv, rfl, rfl, HC⟩ := hrel
            by_cases hvl : v < nq
            · obtain ⟨aq, rfl, haq, pq⟩ := HQ.out.row.at_ (show v < Q.length by rw [HQN.out]; exact hvl)
              have HCK : Hid (Q.take (v + 1) = Q.take v ++ [Q[v]'(by rw [HQN.out]; exact hvl)]) := Lib.hid (by rw [List.take_add_one, List.getElem?_eq_getElem (by rw [HQN.out]; exact hvl)]; rfl)
              have pq : w2.cell? (aq.add (v * 1)) = some (.int .i64 (Q[v]'(by rw [HQN.out]; exact hvl))) := pq
              rw [Nat.mul_one] at pq
              generalize Q[v]'(by rw [HQN.out]; exact hvl) = cv at *
              have pq := (HX.out.cell (p := aq.add v) (by rw [addr_add_block]; exact haq)).trans pq
              by_cases g1 : cv > 1048576
              · go_wp2_with (first | (go_at_call 10; (with_reducible refine (linAwake_any _).mono ?_); rintro e wk ⟨rfl, hb⟩; have HX := Lib.hid (HX.out.trans (hb.mono HX.out.size)); clear hb))
                go_ret
                exact ⟨by first | rfl | simp, HW.out.trans ((HX2.out.trans (HX.out.mono HX2.out.size)).mono HW.out.size)⟩
              by_cases g2 : cv < -1048576
              · go_wp2_with (first | (go_at_call 10; (with_reducible refine (linAwake_any _).mono ?_); rintro e wk ⟨rfl, hb⟩; have HX := Lib.hid (HX.out.trans (hb.mono HX.out.size)); clear hb))
                go_ret
                exact ⟨by first | rfl | simp, HW.out.trans ((HX2.out.trans (HX.out.mono HX2.out.size)).mono HW.out.size)⟩
              go_wp2_with fail
              go_roundw
              case rel => exact ⟨v + 1, by omega, by go_num, by trivial, Lib.hid (fun z hz => by rw [HCK.out, List.mem_append, List.mem_singleton] at hz; exact hz.elim (HC.out z) (fun e => ⟨by omega, by omega⟩))⟩
              case measure => simp [intOf]; omega
            · obtain rfl : v = nq := by omega
              have HSM : Hid (smallB v 1099511627776 1048576 (Q, mq) = true) := Lib.hid (small_intro HQN.out (by omega) (by omega) HC.out)
              obtain ⟨r, hr⟩ : ∃ r, decide (dotI Q xs ≤ mq) = r := ⟨_, rfl⟩
              have HR : Hid (holdsR (Q, mq) xs = some r) := Lib.hid (by rw [small_holds HXN.out (by omega) HSM.out HXSM.out, ← hr])
              have HRD := Lib.hid hr
              have HNH : Hid (((Q, mq) : Inq).1.length = v ∧ xs.length = v ∧ ((Q, mq) : Inq).2 = mq) := Lib.hid ⟨HQN.out, HXN.out, rfl⟩
              have HQW := Lib.hid (lslcUp IntAt.keeps HQ.out HX.out)
              have HXW := Lib.hid (lslcUp IntAt.keeps HXS.out HX.out)
              clear hr
              cases r
              · go_wp2_with (first | (go_at_call 15; (with_reducible refine (lholds_yes (q := (Q, mq)) HQW HXW HNH (by omega) (by omega) HR).mono ?_); rintro e w8 ⟨rfl, hb⟩; have HO8 := Lib.hid (own_below HO.out hb (own_block_lt HO.out)); have HX := Lib.hid (HX.out.trans (hb.mono HX.out.size)); have hsz8 := HX.out.size; clear hb) | (go_at_call 10; (with_reducible refine (linAwake_any _).mono ?_); rintro e wk ⟨rfl, hb⟩; have HX := Lib.hid (HX.out.trans (hb.mono HX.out.size)); clear hb))
                go_ret
                exact ⟨by first | rfl | simp, HW.out.trans ((HX2.out.trans (HX.out.mono HX2.out.size)).mono HW.out.size)⟩
              have HALL2 : Hid (∀ q ∈ list.take (t + 1), smallB v 1099511627776 1048576 q = true ∧ dotI q.1 xs ≤ q.2) := Lib.hid (fun q hq => by
                rw [HTK.out, List.mem_append, List.mem_singleton] at hq
                rcases hq with hq | rfl
                · exact HALL.out q hq
                · exact ⟨HSM.out, of_decide_eq_true HRD.out⟩)
              by_cases hit : t < nt
              · obtain ⟨bt, rfl, hbt, pt⟩ := HT.out t (.int .u8 (ts[t]'(by rw [HTN.out]; exact hit))) (by rw [List.getElem?_map, List.getElem?_eq_getElem (by rw [HTN.out]; exact hit)]; rfl)
                have hxr := HTR.out (ts[t]'(by rw [HTN.out]; exact hit)) (List.getElem_mem _)
                have HTX : Hid (ts[t]?.getD 0 = ts[t]'(by rw [HTN.out]; exact hit)) := Lib.hid (by rw [List.getElem?_eq_getElem (by rw [HTN.out]; exact hit)]; rfl)
                generalize ts[t]'(by rw [HTN.out]; exact hit) = x at *
                obtain ⟨xr0, xr1⟩ := hxr
                have HPT : Hid (∀ Wd, Below w2.heap.size w2 Wd → Wd.cell? (bt.add t) = some (.int .u8 x)) := Lib.hid (fun Wd hW => (hW.cell (p := bt.add t) (by rw [addr_add_block]; exact hbt)).trans pt)
                clear pt hbt
                go_wp2_with (first | (go_at_call 15; (with_reducible refine (lholds_yes (q := (Q, mq)) HQW HXW HNH (by omega) (by omega) HR).mono ?_); rintro e w8 ⟨rfl, hb⟩; have HO8 := Lib.hid (own_below HO.out hb (own_block_lt HO.out)); have HX := Lib.hid (HX.out.trans (hb.mono HX.out.size)); have hsz8 := HX.out.size; clear hb; have pt8 := HPT.out _ HX.out) | (at_builtin; refine append_liesK rfl _ _ 23 rfl _ 3 i0 (.int .i64 0) 1 8 Try.underlying23 hi hz0 hz1 hz2 rfl (by decide) _ t (T.map (Value.int .i64)) rfl (HO8.out.alloc _) (some ⟨w8.heap.size, 0, none⟩) 1 1 _ [.int .i64 x] rfl rfl (lies_v1 w8 _ _) (one_cellv rfl) (by unfold maxLen; omega) (by omega) (by simp; omega) ?_; intro v6 w6 hown hgrow; have HX6 := Lib.hid (appK_more (HX.out.alloc hsz8 _) (HO8.out.alloc _) (by simp; omega) hgrow); have HO6 : Hid (w6.ownsRow w2.heap.size 3 1 v6 (t + 1) ((T ++ [x]).map (Value.int .i64))) := Lib.hid (by rw [List.map_append]; exact hown); clear hown hgrow))
                go_roundw
                case rel => exact ⟨t + 1, T ++ [x], by omega, by go_num, Lib.hid (by rw [HNX.out, HTX.out, HTT.out]), by simp; omega, HO6, HX6, HALL2⟩
                case measure => simp [intOf]; omega
              · have HTX : Hid (ts[t]?.getD 0 = 0) := Lib.hid (by rw [List.getElem?_eq_none (by rw [HTN.out]; omega)]; rfl)
                go_wp2_with (first | (go_at_call 15; (with_reducible refine (lholds_yes (q := (Q, mq)) HQW HXW HNH (by omega) (by omega) HR).mono ?_); rintro e w8 ⟨rfl, hb⟩; have HO8 := Lib.hid (own_below HO.out hb (own_block_lt HO.out)); have HX := Lib.hid (HX.out.trans (hb.mono HX.out.size)); have hsz8 := HX.out.size; clear hb) | (at_builtin; refine append_liesK rfl _ _ 23 rfl _ 3 i0 (.int .i64 0) 1 8 Try.underlying23 hi hz0 hz1 hz2 rfl (by decide) _ t (T.map (Value.int .i64)) rfl (HO8.out.alloc _) (some ⟨w8.heap.size, 0, none⟩) 1 1 _ [.int .i64 (0 : Int)] rfl rfl (lies_v1 w8 _ _) (one_cellv rfl) (by unfold maxLen; omega) (by omega) (by simp; omega) ?_; intro v6 w6 hown hgrow; have HX6 := Lib.hid (appK_more (HX.out.alloc hsz8 _) (HO8.out.alloc _) (by simp; omega) hgrow); have HO6 : Hid (w6.ownsRow w2.heap.size 3 1 v6 (t + 1) ((T ++ [(0 : Int)]).map (Value.int .i64))) := Lib.hid (by rw [List.map_append]; exact hown); clear hown hgrow))
                go_roundw
                case rel => exact ⟨t + 1, T ++ [0], by omega, by go_num, Lib.hid (by rw [HNX.out, HTX.out, HTT.out]), by simp; omega, HO6, HX6, HALL2⟩
                case measure => simp [intOf]; omega
        · obtain rfl : t = n := by omega
          have HALL2 : Hid (∀ q ∈ list, smallB k 1099511627776 1048576 q = true ∧ dotI q.1 xs ≤ q.2) := Lib.hid (by have h := HALL.out; rw [← HLN.out, List.take_length] at h; exact h)
          have HFW : Hid (fewQ list = true) := Lib.hid (fewQ_intro (by rw [HLN.out]; omega) (fun q hq => by have := (smallB_yes (HALL2.out q hq).1).1; omega))
          obtain ⟨A8, c8, rfl, hs8⟩ := own_slc14 (l := T) (v := u11) (w := wr) (by rw [hTl]; exact HO.out)
          rw [hTl]
          have HTS := Lib.hid hs8
          have H1w := Lib.hid (lslcUp IneqAt.keeps H1.out HX.out)
          have HWw : Hid (SlcIs IntAt 1 wr wr.heap.size C ce W ∧ W.length = nw) := Lib.hid ⟨lslcUp IntAt.keeps HWS.out.1 HX.out, HWS.out.2⟩
          have HN2 : Hid (list.length = t ∧ T.length = t) := Lib.hid ⟨HLN.out, hTl⟩
          have HTT2 := Lib.hid hTl
          clear hs8 hTl
          have e0 := (HCW.out.keep HX.out HZ.out) 0 _ rfl
          have e1 := (HCW.out.keep HX.out HZ.out) 1 _ rfl
          by_cases hwk : nw = k
          rotate_left
          · have hne : ((nw : Int) != (k : Int)) = true := bne_iff_ne.mpr (by omega)
            go_wp2_with (first | (go_at_call 10; (with_reducible refine (linAwake_any _).mono ?_); rintro e wk ⟨rfl, hb⟩; have HX := Lib.hid (HX.out.trans (hb.mono HX.out.size)); clear hb; have e0 := (HCW.out.keep HX.out HZ.out) 0 _ rfl; have e1 := (HCW.out.keep HX.out HZ.out) 1 _ rfl))
            go_ret
            exact ⟨by first | rfl | simp, HW.out.trans ((HX2.out.trans (HX.out.mono HX2.out.size)).mono HW.out.size)⟩
          subst hwk
          have hne : ((nw : Int) != (nw : Int)) = false := bne_eq_false_iff_eq.mpr rfl
          obtain ⟨r, hr⟩ : ∃ r, provesB list T (W, m) = r := ⟨_, rfl⟩
          have HPR := Lib.hid hr
          clear hr
          cases r
          · go_wp2_with (first | (go_at_call 14; (with_reducible refine (lproves_is H1w HTS (Lib.hid (Below.refl _ _)) HN2 HFW HWw HPR (by omega)).mono ?_); rintro e wp ⟨rfl, hb⟩; have HXp := Lib.hid hb; have HX := Lib.hid (HX.out.trans (hb.mono HX.out.size)); clear hb; have e0 := (HCW.out.keep HX.out HZ.out) 0 _ rfl; have e1 := (HCW.out.keep HX.out HZ.out) 1 _ rfl) | (go_at_call 10; (with_reducible refine (linAwake_any _).mono ?_); rintro e wk ⟨rfl, hb⟩; have HX := Lib.hid (HX.out.trans (hb.mono HX.out.size)); clear hb; have e0 := (HCW.out.keep HX.out HZ.out) 0 _ rfl; have e1 := (HCW.out.keep HX.out HZ.out) 1 _ rfl))
            go_ret
            exact ⟨by first | rfl | simp, HW.out.trans ((HX2.out.trans (HX.out.mono HX2.out.size)).mono HW.out.size)⟩
          have HR : Hid (holdsR (W, m) xs = some true) := Lib.hid (small_proves (t := T) (by rw [HLN.out]; omega) HXN.out (by omega) HALL2.out HXSM.out (by rw [HTT.out]; exact timesTo_range HTR.out _) HWS.out.2 HPR.out)
          have HNH : Hid (((W, m) : Inq).1.length = nw ∧ xs.length = nw ∧ ((W, m) : Inq).2 = m) := Lib.hid ⟨HWS.out.2, HXN.out, rfl⟩
          go_wp2_with (first | (go_at_call 14; (with_reducible refine (lproves_is H1w HTS (Lib.hid (Below.refl _ _)) HN2 HFW HWw HPR (by omega)).mono ?_); rintro e wp ⟨rfl, hb⟩; have HXp := Lib.hid hb; have HX := Lib.hid (HX.out.trans (hb.mono HX.out.size)); clear hb; have e0 := (HCW.out.keep HX.out HZ.out) 0 _ rfl; have e1 := (HCW.out.keep HX.out HZ.out) 1 _ rfl) | (go_at_call 15; (with_reducible refine (lholds_yes (q := (W, m)) (Lib.hid (lslcUp IntAt.keeps HWS.out.1 HX.out)) (Lib.hid (lslcUp IntAt.keeps HXS.out HX.out)) (Lib.hid ⟨HWS.out.2, HXN.out, rfl⟩) (by omega) (by omega) HR).mono ?_); rintro e w8 ⟨rfl, hb⟩; have HX := Lib.hid (HX.out.trans (hb.mono HX.out.size)); clear hb) | (go_at_call 10; (with_reducible refine (linAwake_any _).mono ?_); rintro e wk ⟨rfl, hb⟩; have HX := Lib.hid (HX.out.trans (hb.mono HX.out.size)); clear hb; have e0 := (HCW.out.keep HX.out HZ.out) 0 _ rfl; have e1 := (HCW.out.keep HX.out HZ.out) 1 _ rfl))
          go_ret
          exact ⟨by first | rfl | simp, HW.out.trans ((HX2.out.trans (HX.out.mono HX2.out.size)).mono HW.out.size)⟩
end Go.Proofs.Ytncbmjpfbkngdaa
