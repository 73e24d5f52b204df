/-
  The statement that small inequalities come to the same in any order (LinOrder), walked: it answers true at any inequalities and numbers.
-/
import Derived.Test.YtncbmjpfbkngdaaLinDuo
import Derived.Deep.Cut
import Derived.Deep.DeepCutAuto
import Derived.IntWalk
import Derived.RegionTactic
import Derived.ChangeAlike
import Derived.Deep.RegionHeld3
import Derived.Deep.QuietTactic
import Derived.BigQuiet
namespace Go.Proofs.Ytncbmjpfbkngdaa
set_option maxRecDepth 100000
set_option linter.unusedVariables false
set_option linter.unusedSimpArgs false
open Go.ChangeShapes Go.WideShapes Go.ChangeAt Go.RowKit
set_option linter.unusedVariables false
set_option linter.unusedSimpArgs false

theorem rev_take {α : Type} {l : List α} {k j : Nat} (hk : k < l.length) (hj : k + j + 1 = l.length) : l.reverse.take (k + 1) = l.reverse.take k ++ [l[j]'(by omega)] := by
  rw [List.take_add_one, List.getElem?_eq_getElem (by simpa using hk), List.getElem_reverse]
  congr 2
  simp
  congr 1
  omega
theorem take_next {α : Type} {l : List α} {k : Nat} (hk : k < l.length) : l.take (k + 1) = l.take k ++ [l[k]] := by
  rw [List.take_add_one, List.getElem?_eq_getElem hk]
  rfl
set_option maxHeartbeats 12800000 in
theorem linOrder_any (list : List Inq) (ts : List Int) (A B : Option Addr) (c d : Nat) (w2 : World) (H1 : SlcIs IneqAt 2 w2 w2.heap.size A c list) (HT : Lies w2 w2.heap.size B (ts.map (Value.int .u8))) (htn : ts.length ≤ 9223372036854775807) (HTR : ∀ t ∈ ts, 0 ≤ t ∧ t ≤ 255) :
    Calls Try.prog 8 #[.slice A list.length c, .slice B ts.length d] w2 fun e w' => e = .returned (.bool true) ∧ Below w2.heap.size w2 w' := by
  obtain ⟨n, hn⟩ : ∃ n, list.length = n := ⟨_, rfl⟩
  obtain ⟨nt, hnt⟩ : ∃ n, ts.length = n := ⟨_, rfl⟩
  obtain ⟨i0, hi, hz0, hz1, hz2⟩ := info_parts14 info_int14
  obtain ⟨j0, hj, jz0, jz1, jz2⟩ := info_parts14 info_inq
  have hl1 := H1.le
  have hl2 := H1.cap
  rw [hn] at hl1
  rw [hnt] at htn
  have H1 := Lib.hid H1
  have HT := Lib.hid HT
  have HTR := Lib.hid HTR
  have HLN := Lib.hid hn
  have HTN := Lib.hid hnt
  obtain ⟨r, hr⟩ : ∃ r, fewQ list = r := ⟨_, rfl⟩
  have HF := Lib.hid hr
  obtain ⟨nq, hnq⟩ : ∃ x, (list[0]?.map (fun q : Inq => q.1.length)).getD 0 = x := ⟨_, rfl⟩
  have HNQ := Lib.hid hnq
  rw [hn, hnt]
  have HX : Hid (Below w2.heap.size w2 w2) := Lib.hid (Below.refl _ _)
  clear hn hnt hr hnq
  go_enter Try.func8, Try.ntmps8
  cases r
  · go_wp2_with (first | (go_at_call 9; (with_reducible refine (few14_is (Lib.hid (lslcUp IneqAt.keeps H1.out HX.out)) HLN HF).mono ?_); rintro e wf ⟨rfl, he⟩; subst he) | (go_at_call 10; (with_reducible refine (linAwake_any _).mono ?_); rintro e wk ⟨rfl, hb⟩; have HX := Lib.hid (HX.out.trans (hb.mono HX.out.size)); clear hb))
    go_ret
    exact ⟨by first | rfl | simp, HX.out⟩
  by_cases hn10 : (n : Int) > 10
  · go_wp2_with (first | (go_at_call 9; (with_reducible refine (few14_is (Lib.hid (lslcUp IneqAt.keeps H1.out HX.out)) HLN HF).mono ?_); rintro e wf ⟨rfl, he⟩; subst he) | (go_at_call 10; (with_reducible refine (linAwake_any _).mono ?_); rintro e wk ⟨rfl, hb⟩; have HX := Lib.hid (HX.out.trans (hb.mono HX.out.size)); clear hb))
    go_ret
    exact ⟨by first | rfl | simp, HX.out⟩
  by_cases hnn : (nt : Int) < (n : Int)
  · go_wp2_with (first | (go_at_call 9; (with_reducible refine (few14_is (Lib.hid (lslcUp IneqAt.keeps H1.out HX.out)) HLN HF).mono ?_); rintro e wf ⟨rfl, he⟩; subst he) | (go_at_call 10; (with_reducible refine (linAwake_any _).mono ?_); rintro e wk ⟨rfl, hb⟩; have HX := Lib.hid (HX.out.trans (hb.mono HX.out.size)); clear hb))
    go_ret
    exact ⟨by first | rfl | simp, HX.out⟩
  go_upto_if 34 with (first | (go_at_call 9; (with_reducible refine (few14_is (Lib.hid (lslcUp IneqAt.keeps H1.out HX.out)) HLN HF).mono ?_); rintro e wf ⟨rfl, he⟩; subst he))
  go_cut [5] (fun s wx => s = .int .i64 nq ∧ Hid (Below w2.heap.size w2 wx))
  case first =>
    by_cases h0 : n = 0
    · subst h0
      go_wp2_with fail
      go_meet
      exact ⟨by rw [← HNQ.out, List.getElem?_eq_none (by rw [HLN.out]; omega)]; rfl, HX⟩
    · obtain ⟨ad, Aq, cq, rfl, hab, p0, p1, hq⟩ := inq_at H1.out (k := 0) (by rw [HLN.out]; omega)
      have hql := HNQ.out
      rw [List.getElem?_eq_getElem (by rw [HLN.out]; omega)] at hql
      have hql : (list[0]'(by rw [HLN.out]; omega)).1.length = nq := hql
      rw [hql] at p0
      rw [show ad.add (0 * 2) = ad from rfl] at p0
      have hpos : (n : Int) > 0 := by omega
      clear hql p1 hq
      go_wp2_with fail
      go_meet
      exact ⟨rfl, HX⟩
  case rest =>
    clear HX
    obtain ⟨rfl, HX⟩ := hcut
    go_upto_region 9 with fail
    have hwz := HX.out.size
    have hA0 : Below wc.heap.size wc (wc.alloc (.cells #[] 27)) := (Below.refl _ _).alloc (Nat.le_refl _) _
    have hz0' : (wc.alloc (.cells #[] 27)).heap.size = wc.heap.size + 1 := by simp
    have HD0 : Hid (Duo (((wc.alloc (.cells #[] 27)).alloc (.cells #[] 3)).alloc (.cells #[] 3)) w2.heap.size (wc.heap.size + 1, 0) [] (wc.heap.size + 1 + 1, 0) [] none none) := Lib.hid (by have h := duo_new (wc.alloc (.cells #[] 27)); rw [hz0'] at h; exact h.lower (by omega))
    have hA1 : Below (wc.alloc (.cells #[] 27)).heap.size (wc.alloc (.cells #[] 27)) (((wc.alloc (.cells #[] 27)).alloc (.cells #[] 3)).alloc (.cells #[] 3)) := ((Below.refl _ _).alloc (Nat.le_refl _) _).alloc (by simp) _
    have HK0 : Hid ((((wc.alloc (.cells #[] 27)).alloc (.cells #[] 3)).alloc (.cells #[] 3)).ownsRow w2.heap.size 27 2 (.slice (some ⟨wc.heap.size, 0, none⟩) 0 0) 0 []) := Lib.hid (own_lower (own_below (own_emptyK wc 27 2) hA1 (own_block_lt (own_emptyK wc 27 2))) hwz)
    have HX := Lib.hid (HX.out.trans ((hA0.trans (hA1.mono hA0.size)).mono hwz))
    clear hA0 hA1 hz0' hwz
    have hB2 : w2.heap.size ≤ w2.heap.size := Nat.le_refl _
    go_loopw [6, 7, 8, 9] (fun b t u i wr => ∃ (k gk ck : Nat) (xs : List Value) (ga ca : Nat) (T : List Int) (gb cb : Nat) (U : List Int), k ≤ n ∧ i = .int .i64 k ∧ b = .slice (some ⟨gk, 0, none⟩) k ck ∧ t = .slice (some ⟨ga, 0, none⟩) T.length ca ∧ u = .slice (some ⟨gb, 0, none⟩) U.length cb ∧ Hid (T = (ts.take n).take k ∧ U = (ts.take n).reverse.take k) ∧ Hid (wr.ownsRow w2.heap.size 27 2 (.slice (some ⟨gk, 0, none⟩) k ck) k xs) ∧ Hid (InqsV w2 xs (list.reverse.take k)) ∧ Hid (Duo wr w2.heap.size (ga, ca) T (gb, cb) U none none) ∧ Hid (Below w2.heap.size w2 wr) ∧ Hid (∀ q ∈ list.take k, smallB nq 1099511627776 1099511627776 q = true) ∧ Hid (0 < k → nq ≤ 50)) (fun _ _ _ i _ => n - (intOf i).toNat)
    case atStart => exact ⟨0, wc.heap.size, 0, [], wc.heap.size + 1, 0, [], wc.heap.size + 1 + 1, 0, [], Nat.zero_le _, rfl, rfl, rfl, rfl, Lib.hid ⟨rfl, rfl⟩, HK0, Lib.hid (InqsV.nil _), HD0, HX, Lib.hid (by simp), Lib.hid (fun h => by omega)⟩
    case round =>
      clear HK0 HD0 HX
      obtain ⟨k, gk, ck, xs, ga, ca, T, gb, cb, U, hk, rfl, rfl, rfl, rfl, HTU, HK, HV, HD, HX, HALL, HN50⟩ := hrel
      have hsz := HX.out.size
      by_cases hlt : k < n
      · obtain ⟨ad, Aq, cq, rfl, hab, p0, p1, hq⟩ := inq_at H1.out (k := k) (by rw [HLN.out]; exact hlt)
        have HTK := Lib.hid (take_next (l := list) (k := k) (by rw [HLN.out]; exact hlt))
        obtain ⟨j, hjk⟩ : ∃ j, k + j + 1 = n := ⟨n - 1 - k, by omega⟩
        have hjn : j < n := by omega
        have HRK := Lib.hid (rev_take (l := list) (k := k) (j := j) (by rw [HLN.out]; exact hlt) (by rw [HLN.out]; exact hjk))
        obtain ⟨ad', Aj, cj, ead, habj, s0, s1, hqj⟩ := inq_at H1.out (k := j) (by rw [HLN.out]; exact hjn)
        injection ead with ead
        subst ead
        generalize list[j]'(by rw [HLN.out]; exact hjn) = qj at *
        generalize list[k]'(by rw [HLN.out]; exact hlt) = q at *
        obtain ⟨Q, mq⟩ := q
        obtain ⟨QJ, mj⟩ := qj
        dsimp only at p0 p1 hq s0 s1 hqj
        obtain ⟨nc, hnc⟩ : ∃ x, Q.length = x := ⟨_, rfl⟩
        obtain ⟨nj, hnj⟩ : ∃ x, QJ.length = x := ⟨_, rfl⟩
        rw [hnc] at p0
        rw [hnj] at s0
        have HQN := Lib.hid hnc
        have HJN := Lib.hid hnj
        have HQ := Lib.hid hq
        have HQJ := Lib.hid hqj
        have hq1 := hq.le
        have hq2 := hq.cap
        rw [hnc] at hq1
        clear hnc hnj hq hqj
        have HP : Hid (∀ Wd, Below w2.heap.size w2 Wd → Wd.cell? (ad.add (k * 2)) = some (.slice Aq nc cq) ∧ Wd.cell? (off_ (ad.add (k * 2)) 1) = some (.int .i64 mq)) := Lib.hid (fun Wd hW => ⟨(hW.cell (p := ad.add (k * 2)) (by rw [addr_add_block]; exact hab)).trans p0, (hW.cell (p := off_ (ad.add (k * 2)) 1) (by show (ad.add (k * 2)).block < _; rw [addr_add_block]; exact hab)).trans p1⟩)
        have HPJ : Hid (∀ Wd, Below w2.heap.size w2 Wd → Wd.cell? (ad.add (j * 2)) = some (.slice Aj nj cj) ∧ Wd.cell? (off_ (ad.add (j * 2)) 1) = some (.int .i64 mj)) := Lib.hid (fun Wd hW => ⟨(hW.cell (p := ad.add (j * 2)) (by rw [addr_add_block]; exact hab)).trans s0, (hW.cell (p := off_ (ad.add (j * 2)) 1) (by show (ad.add (j * 2)).block < _; rw [addr_add_block]; exact hab)).trans s1⟩)
        clear p0 p1 s0 s1 habj
        obtain ⟨bt, eB, hbt, pt⟩ := HT.out k (.int .u8 (ts[k]'(by rw [HTN.out]; omega))) (by rw [List.getElem?_map, List.getElem?_eq_getElem (by rw [HTN.out]; omega)]; rfl)
        obtain ⟨bt', eB', _, pu⟩ := HT.out j (.int .u8 (ts[j]'(by rw [HTN.out]; omega))) (by rw [List.getElem?_map, List.getElem?_eq_getElem (by rw [HTN.out]; omega)]; rfl)
        subst eB
        injection eB' with eB'
        subst eB'
        have htl : (ts.take n).length = n := by rw [List.length_take, HTN.out]; omega
        have HTX : Hid ((ts.take n).take (k + 1) = (ts.take n).take k ++ [ts[k]'(by rw [HTN.out]; omega)]) := Lib.hid (by rw [take_next (by rw [htl]; exact hlt), List.getElem_take])
        have HUX : Hid ((ts.take n).reverse.take (k + 1) = (ts.take n).reverse.take k ++ [ts[j]'(by rw [HTN.out]; omega)]) := Lib.hid (by rw [rev_take (j := j) (by rw [htl]; exact hlt) (by rw [htl]; exact hjk), List.getElem_take])
        have htlen : T.length = k := by rw [HTU.out.1, List.length_take, htl]; omega
        have hulen : U.length = k := by rw [HTU.out.2, List.length_take, List.length_reverse, htl]; omega
        have hxr := HTR.out (ts[k]'(by rw [HTN.out]; omega)) (List.getElem_mem _)
        have hyr := HTR.out (ts[j]'(by rw [HTN.out]; omega)) (List.getElem_mem _)
        generalize ts[k]'(by rw [HTN.out]; omega) = x at *
        generalize ts[j]'(by rw [HTN.out]; omega) = y at *
        obtain ⟨xr0, xr1⟩ := hxr
        obtain ⟨yr0, yr1⟩ := hyr
        have HKS : Hid (∀ Wd, Below w2.heap.size w2 Wd → Wd.cell? (bt.add k) = some (.int .u8 x) ∧ Wd.cell? (bt.add j) = some (.int .u8 y)) := Lib.hid (fun Wd hW => ⟨(hW.cell (p := bt.add k) (by rw [addr_add_block]; exact hbt)).trans pt, (hW.cell (p := bt.add j) (by rw [addr_add_block]; exact hbt)).trans pu⟩)
        have hTl : T.length ≤ 10 := by omega
        have hUl : U.length ≤ 10 := by omega
        clear pt pu hbt htl htlen hulen
        have HJK := Lib.hid hjk
        have hjj : (n : Int) - 1 - (k : Int) = (j : Int) := by omega
        have HJJ := Lib.hid hjj
        clear hjk hjj
        obtain ⟨p0, p1⟩ := HP.out _ HX.out
        by_cases hnq : nc = nq
        rotate_left
        · have hne : ((nc : Int) != (nq : Int)) = true := bne_iff_ne.mpr (by omega)
          go_wp2_with (first | (go_at_call 10; (with_reducible refine (linAwake_any _).mono ?_); rintro e wk ⟨rfl, hb⟩; have HX := Lib.hid (HX.out.trans (hb.mono HX.out.size)); clear hb))
          go_ret
          exact ⟨by first | rfl | simp, HX.out⟩
        subst hnq
        have hne : ((nc : Int) != (nc : Int)) = false := bne_eq_false_iff_eq.mpr rfl
        by_cases hn50 : (nc : Int) > 50
        · go_wp2_with (first | (go_at_call 10; (with_reducible refine (linAwake_any _).mono ?_); rintro e wk ⟨rfl, hb⟩; have HX := Lib.hid (HX.out.trans (hb.mono HX.out.size)); clear hb))
          go_ret
          exact ⟨by first | rfl | simp, HX.out⟩
        by_cases hm1 : mq > 1099511627776
        · go_wp2_with (first | (go_at_call 10; (with_reducible refine (linAwake_any _).mono ?_); rintro e wk ⟨rfl, hb⟩; have HX := Lib.hid (HX.out.trans (hb.mono HX.out.size)); clear hb))
          go_ret
          exact ⟨by first | rfl | simp, HX.out⟩
        by_cases hm2 : mq < -1099511627776
        · go_wp2_with (first | (go_at_call 10; (with_reducible refine (linAwake_any _).mono ?_); rintro e wk ⟨rfl, hb⟩; have HX := Lib.hid (HX.out.trans (hb.mono HX.out.size)); clear hb))
          go_ret
          exact ⟨by first | rfl | simp, HX.out⟩
        go_wp2_with fail
        go_loopw [10] (fun i wi => ∃ v : Nat, v ≤ nc ∧ i = .int .i64 v ∧ wi = wr ∧ Hid (∀ c ∈ Q.take v, c ≤ 1099511627776 ∧ -1099511627776 ≤ c)) (fun i _ => nc - (intOf i).toNat)
        case atStart => exact ⟨0, Nat.zero_le _, rfl, rfl, Lib.hid (by simp)⟩
        case round =>
          obtain ⟨v, hv, rfl, rfl, HC⟩ := hrel
          by_cases hvl : v < nc
          · obtain ⟨aq, rfl, haq, pq⟩ := HQ.out.row.at_ (show v < Q.length by rw [HQN.out]; exact hvl)
            have HCK : Hid (Q.take (v + 1) = Q.take v ++ [Q[v]'(by rw [HQN.out]; exact hvl)]) := Lib.hid (take_next _)
            have pq : w2.cell? (aq.add (v * 1)) = some (.int .i64 (Q[v]'(by rw [HQN.out]; exact hvl))) := pq
            rw [Nat.mul_one] at pq
            generalize Q[v]'(by rw [HQN.out]; exact hvl) = cv at *
            have pq := (HX.out.cell (p := aq.add v) (by rw [addr_add_block]; exact haq)).trans pq
            by_cases g1 : cv > 1099511627776
            · go_wp2_with (first | (go_at_call 10; (with_reducible refine (linAwake_any _).mono ?_); rintro e wk ⟨rfl, hb⟩; have HX := Lib.hid (HX.out.trans (hb.mono HX.out.size)); clear hb))
              go_ret
              exact ⟨by first | rfl | simp, HX.out⟩
            by_cases g2 : cv < -1099511627776
            · go_wp2_with (first | (go_at_call 10; (with_reducible refine (linAwake_any _).mono ?_); rintro e wk ⟨rfl, hb⟩; have HX := Lib.hid (HX.out.trans (hb.mono HX.out.size)); clear hb))
              go_ret
              exact ⟨by first | rfl | simp, HX.out⟩
            go_wp2_with fail
            go_roundw
            case rel => exact ⟨v + 1, by omega, by go_num, by trivial, Lib.hid (fun z hz => by rw [HCK.out, List.mem_append, List.mem_singleton] at hz; exact hz.elim (HC.out z) (fun e => ⟨by omega, by omega⟩))⟩
            case measure => simp [intOf]; omega
          · obtain rfl : v = nc := by omega
            have HALL2 : Hid (∀ q ∈ list.take (k + 1), smallB v 1099511627776 1099511627776 q = true) := Lib.hid (fun q hq => by
              rw [HTK.out, List.mem_append, List.mem_singleton] at hq
              rcases hq with hq | rfl
              · exact HALL.out q hq
              · exact small_intro HQN.out (by omega) (by omega) HC.out)
            have HN502 : Hid (0 < k + 1 → v ≤ 50) := Lib.hid (fun _ => by omega)
            obtain ⟨s0, s1⟩ := HPJ.out _ HX.out
            have hjj := HJJ.out
            clear p0 p1
            go_upto_region 19 with fail
            have hkl : xs.length = k * 2 := by have h := HV.out.1; rw [List.length_take, List.length_reverse, HLN.out] at h; omega
            go_upto_region 20 with (at_builtin; refine append_liesK rfl _ _ 22 rfl _ 27 j0 (.agg #[.slice none 0 0, .int .i64 0]) 2 32 Try.underlying22 hj jz0 jz1 jz2 rfl (by decide) _ k xs rfl (HK.out.alloc _) (some ⟨wr.heap.size, 0, none⟩) 1 1 _ [.slice Aj nj cj, .int .i64 mj] rfl rfl (lies_v2 wr _ _ _) (two_cellv rfl rfl) (by unfold maxLen; omega) (by omega) (by simp; omega) ?_; intro v6 w6 hown hgrow; have HX := Lib.hid (appK_more (HX.out.alloc hsz _) (HK.out.alloc _) (by simp; omega) hgrow); have HD := Lib.hid ((HD.out.below ((Below.refl _ _).alloc (Nat.le_refl _) _)).kept hgrow (types_ne HK.out HD.out.t (by decide)) (types_ne HK.out HD.out.u (by decide))); have HK := Lib.hid hown; clear hown hgrow)
            have HV : Hid (InqsV w2 (xs ++ [.slice Aj nj cj, .int .i64 mj]) (list.reverse.take (k + 1))) := Lib.hid (by rw [HRK.out, ← HJN.out]; exact HV.out.snoc HQJ.out)
            obtain ⟨g6, c6, rfl, _, _⟩ := HK.out.form (by omega)
            clear s0 s1 hkl hsz
            have hknt : k < nt := by omega
            have hjnt : j < nt := by omega
            have hwx : IntKind.i64.wrap x = x := IntWalk.i64_in x ⟨by omega, by omega⟩
            have hwy : IntKind.i64.wrap y = y := IntWalk.i64_in y ⟨by omega, by omega⟩
            have HB : Hid (Below w2.heap.size w2 w6.drew) := Lib.hid HX.out.drew
            have HD := Lib.hid (HD.out.below (Below.refl _ _).drew)
            have HK := Lib.hid (own_below HK.out (Below.refl w6.heap.size w6).drew (own_block_lt HK.out))
            refine wp_region_noPanic ?_
            refine wp_region_held_drew (S := fun w' => w'.cell? (bt.add k) = some (.int .u8 x) ∧ w'.cell? (bt.add j) = some (.int .u8 y)) (by kernel_rfl) (HKS.out _ HB.out) (fun hHeld => ?_)
            generalize w6.drew = w8 at HB HD HK hHeld ⊢
            refine wpAnyH_take (i := 0) (oi := _) (v := ?_) rfl (by kernel_rfl) (by kernel_rfl) (by kernel_rfl) (fun _ _ _ h => h) (Or.inl ⟨by rfl, ?_⟩) (by assumption) ?_
            rotate_left
            · (intro w hSw; (try dsimp only at hSw); go_simp <;> with_reducible rfl)
            try simp only [List.getElem_toArray, List.getElem_cons_succ, List.getElem_cons_zero, Act.put, List.setIfInBounds_toArray, List.set_cons_zero, List.set_cons_succ]
            refine wpAnyH_take (i := 1) (oi := _) (v := ?_) rfl (by kernel_rfl) (by kernel_rfl) (by kernel_rfl) (fun _ _ _ h => h) (Or.inl ⟨by rfl, ?_⟩) (by assumption) ?_
            rotate_left
            · (intro w hSw; (try dsimp only at hSw); go_simp <;> with_reducible rfl)
            try simp only [List.getElem_toArray, List.getElem_cons_succ, List.getElem_cons_zero, Act.put, List.setIfInBounds_toArray, List.set_cons_zero, List.set_cons_succ]
            refine wpAnyH_take (i := 2) (oi := _) (v := ?_) rfl (by kernel_rfl) (by kernel_rfl) (by kernel_rfl) (fun _ _ _ h => h) (Or.inl ⟨by rfl, ?_⟩) (by assumption) ?_
            rotate_left
            · (intro w hSw; (try dsimp only at hSw); go_simp <;> with_reducible rfl)
            try simp only [List.getElem_toArray, List.getElem_cons_succ, List.getElem_cons_zero, Act.put, List.setIfInBounds_toArray, List.set_cons_zero, List.set_cons_succ]
            refine wpAnyH_take (i := 3) (oi := _) (v := ?_) rfl (by kernel_rfl) (by kernel_rfl) (by kernel_rfl) (fun _ _ _ h => h) (Or.inl ⟨by rfl, ?_⟩) (by assumption) ?_
            rotate_left
            · (intro w hSw; (try dsimp only at hSw); go_simp <;> with_reducible rfl)
            try simp only [List.getElem_toArray, List.getElem_cons_succ, List.getElem_cons_zero, Act.put, List.setIfInBounds_toArray, List.set_cons_zero, List.set_cons_succ]
            refine wpAnyH_take (i := 4) (oi := _) (v := ?_) rfl (by kernel_rfl) (by kernel_rfl) (by kernel_rfl) (fun _ _ _ h => h) (Or.inl ⟨by rfl, ?_⟩) (by assumption) ?_
            rotate_left
            · (intro w hSw; (try dsimp only at hSw); go_simp <;> with_reducible rfl)
            try simp only [List.getElem_toArray, List.getElem_cons_succ, List.getElem_cons_zero, Act.put, List.setIfInBounds_toArray, List.set_cons_zero, List.set_cons_succ]
            refine wpAnyH_take (i := 5) (oi := _) (v := ?_) rfl (by kernel_rfl) (by kernel_rfl) (by kernel_rfl) (fun _ _ _ h => h) (Or.inl ⟨by rfl, ?_⟩) (by assumption) ?_
            rotate_left
            · (intro w hSw; (try dsimp only at hSw); go_simp <;> with_reducible rfl)
            try simp only [List.getElem_toArray, List.getElem_cons_succ, List.getElem_cons_zero, Act.put, List.setIfInBounds_toArray, List.set_cons_zero, List.set_cons_succ]
            refine wpAnyH_take (i := 8) (oi := _) (v := ?_) rfl (by kernel_rfl) (by kernel_rfl) (by kernel_rfl) (fun _ _ _ h => h) (Or.inl ⟨by rfl, ?_⟩) (by assumption) ?_
            rotate_left
            · (intro w hSw; (try dsimp only at hSw); go_simp <;> with_reducible rfl)
            try simp only [List.getElem_toArray, List.getElem_cons_succ, List.getElem_cons_zero, Act.put, List.setIfInBounds_toArray, List.set_cons_zero, List.set_cons_succ]
            refine wpAnyH_take (i := 9) (oi := _) (v := ?_) rfl (by kernel_rfl) (by kernel_rfl) (by kernel_rfl) (fun _ _ _ h => h) (Or.inl ⟨by rfl, ?_⟩) (by assumption) ?_
            rotate_left
            · (intro w hSw; (try dsimp only at hSw); go_simp <;> with_reducible rfl)
            try simp only [List.getElem_toArray, List.getElem_cons_succ, List.getElem_cons_zero, Act.put, List.setIfInBounds_toArray, List.set_cons_zero, List.set_cons_succ]
            refine wpAnyH_take (i := 10) (oi := _) (v := ?_) rfl (by kernel_rfl) (by kernel_rfl) (by kernel_rfl) (fun _ _ _ h => h) (Or.inl ⟨by rfl, ?_⟩) (by assumption) ?_
            rotate_left
            · (intro w hSw; (try dsimp only at hSw); go_simp <;> with_reducible rfl)
            try simp only [List.getElem_toArray, List.getElem_cons_succ, List.getElem_cons_zero, Act.put, List.setIfInBounds_toArray, List.set_cons_zero, List.set_cons_succ]
            refine wpAnyH_take (i := 11) (oi := _) (v := ?_) rfl (by kernel_rfl) (by kernel_rfl) (by kernel_rfl) (fun _ _ _ h => h) (Or.inl ⟨by rfl, ?_⟩) (by assumption) ?_
            rotate_left
            · (intro w hSw; (try dsimp only at hSw); go_simp <;> with_reducible rfl)
            try simp only [List.getElem_toArray, List.getElem_cons_succ, List.getElem_cons_zero, Act.put, List.setIfInBounds_toArray, List.set_cons_zero, List.set_cons_succ]
            refine wpAnyH_take (i := 12) (oi := _) (v := ?_) rfl (by kernel_rfl) (by kernel_rfl) (by kernel_rfl) (fun _ _ _ h => h) (Or.inl ⟨by rfl, ?_⟩) (by assumption) ?_
            rotate_left
            · (intro w hSw; (try dsimp only at hSw); go_simp <;> with_reducible rfl)
            try simp only [List.getElem_toArray, List.getElem_cons_succ, List.getElem_cons_zero, Act.put, List.setIfInBounds_toArray, List.set_cons_zero, List.set_cons_succ]
            refine wpAnyH_take (i := 13) (oi := _) (v := ?_) rfl (by kernel_rfl) (by kernel_rfl) (by kernel_rfl) (fun _ _ _ h => h) (Or.inl ⟨by rfl, ?_⟩) (by assumption) ?_
            rotate_left
            · (intro w hSw; (try dsimp only at hSw); go_simp <;> with_reducible rfl)
            try simp only [List.getElem_toArray, List.getElem_cons_succ, List.getElem_cons_zero, Act.put, List.setIfInBounds_toArray, List.set_cons_zero, List.set_cons_succ]
            refine wpAnyH_ready (rs := [6, 14]) (by kernel_rfl) (by simp) ?_
            refine (AllReadyH.cons (o := _) rfl (fun K hK => ?_) (AllReadyH.cons (o := _) rfl (fun K hK => ?_) AllReadyH.nil))
            · go_simp
              have HD := Lib.hid (HD.out.boxX x); have HB : Hid (Below w2.heap.size w2 ((w8).alloc (.cells #[.int .i64 x] 3))) := Lib.hid (HB.out.alloc HB.out.size _); have HK := Lib.hid (HK.out.alloc (.cells #[.int .i64 x] 3)); generalize ((w8).alloc (.cells #[.int .i64 x] 3)) = w101 at HD HB HK ⊢
              refine hK.out _ _ (HKS.out _ HB.out) (fun hHeld => ?_)
              clear hK K
              try simp only [List.getElem_toArray, List.getElem_cons_succ, List.getElem_cons_zero, Act.put, List.setIfInBounds_toArray, List.set_cons_zero, List.set_cons_succ]
              refine wpAnyH_ready (rs := [7, 14]) (by kernel_rfl) (by simp) ?_
              refine (AllReadyH.cons (o := _) rfl (fun K hK => ?_) (AllReadyH.cons (o := _) rfl (fun K hK => ?_) AllReadyH.nil))
              · have hsz := HB.out.size; have hsz : w2.heap.size ≤ _ := Nat.le_trans hB2 hsz; refine step_append_lies _ rfl _ _ 23 rfl w2.heap.size 3 i0 (.int .i64 0) 1 8 Try.underlying23 hi hz0 hz1 hz2 rfl (by decide) _ T.length (T.map (Value.int .i64)) rfl HD.out.t ⟨w8.heap.size, 0, none⟩ 1 1 [.int .i64 x] rfl rfl (box_cell (HD.out.bx _ rfl).1) (one_cellv rfl) (by decide) (by unfold maxLen; omega) (by omega) hsz _ rfl ?_; intro g103 c103 w103 hown hgrow hor hlt9; have hgrow : World.grownBy _ w103 (some ga) := hgrow; have HB := Lib.hid (appK_more HB.out (own_lower HD.out.t hB2) HB.out.size hgrow); have HK := Lib.hid (HK.out.kept hgrow (Or.inr (fun e => types_ne HK.out HD.out.t (by decide) (by simpa [Value.ownBlock] using e)))); have HD := Lib.hid (HD.out.onT hgrow hown hor); clear hown hgrow hor hlt9 hsz
                refine hK.out _ _ (HKS.out _ HB.out) (fun hHeld => ?_)
                clear hK K
                try simp only [List.getElem_toArray, List.getElem_cons_succ, List.getElem_cons_zero, Act.put, List.setIfInBounds_toArray, List.set_cons_zero, List.set_cons_succ]
                refine wpAnyH_ready (rs := [14]) (by kernel_rfl) (by simp) ?_
                refine AllReadyH.cons (o := _) rfl (fun K hK => ?_) AllReadyH.nil
                go_simp
                have HD := Lib.hid (HD.out.boxY y); have HB : Hid (Below w2.heap.size w2 ((w103).alloc (.cells #[.int .i64 y] 3))) := Lib.hid (HB.out.alloc HB.out.size _); have HK := Lib.hid (HK.out.alloc (.cells #[.int .i64 y] 3)); generalize ((w103).alloc (.cells #[.int .i64 y] 3)) = w105 at HD HB HK ⊢
                refine hK.out _ _ (HKS.out _ HB.out) (fun hHeld => ?_)
                clear hK K
                try simp only [List.getElem_toArray, List.getElem_cons_succ, List.getElem_cons_zero, Act.put, List.setIfInBounds_toArray, List.set_cons_zero, List.set_cons_succ]
                refine wpAnyH_ready (rs := [15]) (by kernel_rfl) (by simp) ?_
                refine AllReadyH.cons (o := _) rfl (fun K hK => ?_) AllReadyH.nil
                have hsz := HB.out.size; have hsz : w2.heap.size ≤ _ := Nat.le_trans hB2 hsz; refine step_append_lies _ rfl _ _ 23 rfl w2.heap.size 3 i0 (.int .i64 0) 1 8 Try.underlying23 hi hz0 hz1 hz2 rfl (by decide) _ U.length (U.map (Value.int .i64)) rfl HD.out.u ⟨w103.heap.size, 0, none⟩ 1 1 [.int .i64 y] rfl rfl (box_cell (HD.out.by_ _ rfl).1) (one_cellv rfl) (by decide) (by unfold maxLen; omega) (by omega) hsz _ rfl ?_; intro g106 c106 w106 hown hgrow hor hlt9; have hgrow : World.grownBy _ w106 (some gb) := hgrow; have HB := Lib.hid (appK_more HB.out (own_lower HD.out.u hB2) HB.out.size hgrow); have HK := Lib.hid (HK.out.kept hgrow (Or.inr (fun e => types_ne HK.out HD.out.u (by decide) (by simpa [Value.ownBlock] using e)))); have HD := Lib.hid (HD.out.onU hgrow hown hor); clear hown hgrow hor hlt9 hsz
                refine hK.out _ _ (HKS.out _ HB.out) (fun hHeld => ?_)
                clear hK K
                try simp only [List.getElem_toArray, List.getElem_cons_succ, List.getElem_cons_zero, Act.put, List.setIfInBounds_toArray, List.set_cons_zero, List.set_cons_succ]
                refine wpAnyH_take (i := 16) (oi := _) (v := ?_) rfl (by kernel_rfl) (by kernel_rfl) (by kernel_rfl) (fun _ _ _ h => h) (Or.inl ⟨by rfl, ?_⟩) (by assumption) ?_
                rotate_left
                · (intro w hSw; (try dsimp only at hSw); go_simp <;> with_reducible rfl)
                try simp only [List.getElem_toArray, List.getElem_cons_succ, List.getElem_cons_zero, Act.put, List.setIfInBounds_toArray, List.set_cons_zero, List.set_cons_succ]
                refine wpAnyH_take (i := 17) (oi := _) (v := ?_) rfl (by kernel_rfl) (by kernel_rfl) (by kernel_rfl) (fun _ _ _ h => h) (Or.inl ⟨by rfl, ?_⟩) (by assumption) ?_
                rotate_left
                · (intro w hSw; (try dsimp only at hSw); go_simp <;> with_reducible rfl)
                try simp only [List.getElem_toArray, List.getElem_cons_succ, List.getElem_cons_zero, Act.put, List.setIfInBounds_toArray, List.set_cons_zero, List.set_cons_succ]
                refine wpAnyH_done (by kernel_rfl) ?_ _
                refine NoPanic.normal ?_
                go_wp2_with fail
                go_roundw
                case rel => exact ⟨k + 1, g6, c6, _, _, _, T ++ [x], _, _, U ++ [y], by omega, by go_num, rfl, by simp, by simp, Lib.hid ⟨by rw [HTX.out, HTU.out.1], by rw [HUX.out, HTU.out.2]⟩, HK, HV, Lib.hid HD.out.forget, HB, HALL2, HN502⟩
                case measure => simp [intOf]; omega
              · go_simp
                have HD := Lib.hid (HD.out.boxY y); have HB : Hid (Below w2.heap.size w2 ((w101).alloc (.cells #[.int .i64 y] 3))) := Lib.hid (HB.out.alloc HB.out.size _); have HK := Lib.hid (HK.out.alloc (.cells #[.int .i64 y] 3)); generalize ((w101).alloc (.cells #[.int .i64 y] 3)) = w104 at HD HB HK ⊢
                refine hK.out _ _ (HKS.out _ HB.out) (fun hHeld => ?_)
                clear hK K
                try simp only [List.getElem_toArray, List.getElem_cons_succ, List.getElem_cons_zero, Act.put, List.setIfInBounds_toArray, List.set_cons_zero, List.set_cons_succ]
                refine wpAnyH_ready (rs := [7]) (by kernel_rfl) (by simp) ?_
                refine AllReadyH.cons (o := _) rfl (fun K hK => ?_) AllReadyH.nil
                have hsz := HB.out.size; have hsz : w2.heap.size ≤ _ := Nat.le_trans hB2 hsz; refine step_append_lies _ rfl _ _ 23 rfl w2.heap.size 3 i0 (.int .i64 0) 1 8 Try.underlying23 hi hz0 hz1 hz2 rfl (by decide) _ T.length (T.map (Value.int .i64)) rfl HD.out.t ⟨w8.heap.size, 0, none⟩ 1 1 [.int .i64 x] rfl rfl (box_cell (HD.out.bx _ rfl).1) (one_cellv rfl) (by decide) (by unfold maxLen; omega) (by omega) hsz _ rfl ?_; intro g107 c107 w107 hown hgrow hor hlt9; have hgrow : World.grownBy _ w107 (some ga) := hgrow; have HB := Lib.hid (appK_more HB.out (own_lower HD.out.t hB2) HB.out.size hgrow); have HK := Lib.hid (HK.out.kept hgrow (Or.inr (fun e => types_ne HK.out HD.out.t (by decide) (by simpa [Value.ownBlock] using e)))); have HD := Lib.hid (HD.out.onT hgrow hown hor); clear hown hgrow hor hlt9 hsz
                refine hK.out _ _ (HKS.out _ HB.out) (fun hHeld => ?_)
                clear hK K
                try simp only [List.getElem_toArray, List.getElem_cons_succ, List.getElem_cons_zero, Act.put, List.setIfInBounds_toArray, List.set_cons_zero, List.set_cons_succ]
                refine wpAnyH_ready (rs := [15]) (by kernel_rfl) (by simp) ?_
                refine AllReadyH.cons (o := _) rfl (fun K hK => ?_) AllReadyH.nil
                have hsz := HB.out.size; have hsz : w2.heap.size ≤ _ := Nat.le_trans hB2 hsz; refine step_append_lies _ rfl _ _ 23 rfl w2.heap.size 3 i0 (.int .i64 0) 1 8 Try.underlying23 hi hz0 hz1 hz2 rfl (by decide) _ U.length (U.map (Value.int .i64)) rfl HD.out.u ⟨w101.heap.size, 0, none⟩ 1 1 [.int .i64 y] rfl rfl (box_cell (HD.out.by_ _ rfl).1) (one_cellv rfl) (by decide) (by unfold maxLen; omega) (by omega) hsz _ rfl ?_; intro g108 c108 w108 hown hgrow hor hlt9; have hgrow : World.grownBy _ w108 (some gb) := hgrow; have HB := Lib.hid (appK_more HB.out (own_lower HD.out.u hB2) HB.out.size hgrow); have HK := Lib.hid (HK.out.kept hgrow (Or.inr (fun e => types_ne HK.out HD.out.u (by decide) (by simpa [Value.ownBlock] using e)))); have HD := Lib.hid (HD.out.onU hgrow hown hor); clear hown hgrow hor hlt9 hsz
                refine hK.out _ _ (HKS.out _ HB.out) (fun hHeld => ?_)
                clear hK K
                try simp only [List.getElem_toArray, List.getElem_cons_succ, List.getElem_cons_zero, Act.put, List.setIfInBounds_toArray, List.set_cons_zero, List.set_cons_succ]
                refine wpAnyH_take (i := 16) (oi := _) (v := ?_) rfl (by kernel_rfl) (by kernel_rfl) (by kernel_rfl) (fun _ _ _ h => h) (Or.inl ⟨by rfl, ?_⟩) (by assumption) ?_
                rotate_left
                · (intro w hSw; (try dsimp only at hSw); go_simp <;> with_reducible rfl)
                try simp only [List.getElem_toArray, List.getElem_cons_succ, List.getElem_cons_zero, Act.put, List.setIfInBounds_toArray, List.set_cons_zero, List.set_cons_succ]
                refine wpAnyH_take (i := 17) (oi := _) (v := ?_) rfl (by kernel_rfl) (by kernel_rfl) (by kernel_rfl) (fun _ _ _ h => h) (Or.inl ⟨by rfl, ?_⟩) (by assumption) ?_
                rotate_left
                · (intro w hSw; (try dsimp only at hSw); go_simp <;> with_reducible rfl)
                try simp only [List.getElem_toArray, List.getElem_cons_succ, List.getElem_cons_zero, Act.put, List.setIfInBounds_toArray, List.set_cons_zero, List.set_cons_succ]
                refine wpAnyH_done (by kernel_rfl) ?_ _
                refine NoPanic.normal ?_
                go_wp2_with fail
                go_roundw
                case rel => exact ⟨k + 1, g6, c6, _, _, _, T ++ [x], _, _, U ++ [y], by omega, by go_num, rfl, by simp, by simp, Lib.hid ⟨by rw [HTX.out, HTU.out.1], by rw [HUX.out, HTU.out.2]⟩, HK, HV, Lib.hid HD.out.forget, HB, HALL2, HN502⟩
                case measure => simp [intOf]; omega
            · go_simp
              have HD := Lib.hid (HD.out.boxY y); have HB : Hid (Below w2.heap.size w2 ((w8).alloc (.cells #[.int .i64 y] 3))) := Lib.hid (HB.out.alloc HB.out.size _); have HK := Lib.hid (HK.out.alloc (.cells #[.int .i64 y] 3)); generalize ((w8).alloc (.cells #[.int .i64 y] 3)) = w102 at HD HB HK ⊢
              refine hK.out _ _ (HKS.out _ HB.out) (fun hHeld => ?_)
              clear hK K
              try simp only [List.getElem_toArray, List.getElem_cons_succ, List.getElem_cons_zero, Act.put, List.setIfInBounds_toArray, List.set_cons_zero, List.set_cons_succ]
              refine wpAnyH_ready (rs := [6]) (by kernel_rfl) (by simp) ?_
              refine AllReadyH.cons (o := _) rfl (fun K hK => ?_) AllReadyH.nil
              go_simp
              have HD := Lib.hid (HD.out.boxX x); have HB : Hid (Below w2.heap.size w2 ((w102).alloc (.cells #[.int .i64 x] 3))) := Lib.hid (HB.out.alloc HB.out.size _); have HK := Lib.hid (HK.out.alloc (.cells #[.int .i64 x] 3)); generalize ((w102).alloc (.cells #[.int .i64 x] 3)) = w109 at HD HB HK ⊢
              refine hK.out _ _ (HKS.out _ HB.out) (fun hHeld => ?_)
              clear hK K
              try simp only [List.getElem_toArray, List.getElem_cons_succ, List.getElem_cons_zero, Act.put, List.setIfInBounds_toArray, List.set_cons_zero, List.set_cons_succ]
              refine wpAnyH_ready (rs := [7]) (by kernel_rfl) (by simp) ?_
              refine AllReadyH.cons (o := _) rfl (fun K hK => ?_) AllReadyH.nil
              have hsz := HB.out.size; have hsz : w2.heap.size ≤ _ := Nat.le_trans hB2 hsz; refine step_append_lies _ rfl _ _ 23 rfl w2.heap.size 3 i0 (.int .i64 0) 1 8 Try.underlying23 hi hz0 hz1 hz2 rfl (by decide) _ T.length (T.map (Value.int .i64)) rfl HD.out.t ⟨w102.heap.size, 0, none⟩ 1 1 [.int .i64 x] rfl rfl (box_cell (HD.out.bx _ rfl).1) (one_cellv rfl) (by decide) (by unfold maxLen; omega) (by omega) hsz _ rfl ?_; intro g110 c110 w110 hown hgrow hor hlt9; have hgrow : World.grownBy _ w110 (some ga) := hgrow; have HB := Lib.hid (appK_more HB.out (own_lower HD.out.t hB2) HB.out.size hgrow); have HK := Lib.hid (HK.out.kept hgrow (Or.inr (fun e => types_ne HK.out HD.out.t (by decide) (by simpa [Value.ownBlock] using e)))); have HD := Lib.hid (HD.out.onT hgrow hown hor); clear hown hgrow hor hlt9 hsz
              refine hK.out _ _ (HKS.out _ HB.out) (fun hHeld => ?_)
              clear hK K
              try simp only [List.getElem_toArray, List.getElem_cons_succ, List.getElem_cons_zero, Act.put, List.setIfInBounds_toArray, List.set_cons_zero, List.set_cons_succ]
              refine wpAnyH_ready (rs := [15]) (by kernel_rfl) (by simp) ?_
              refine AllReadyH.cons (o := _) rfl (fun K hK => ?_) AllReadyH.nil
              have hsz := HB.out.size; have hsz : w2.heap.size ≤ _ := Nat.le_trans hB2 hsz; refine step_append_lies _ rfl _ _ 23 rfl w2.heap.size 3 i0 (.int .i64 0) 1 8 Try.underlying23 hi hz0 hz1 hz2 rfl (by decide) _ U.length (U.map (Value.int .i64)) rfl HD.out.u ⟨w8.heap.size, 0, none⟩ 1 1 [.int .i64 y] rfl rfl (box_cell (HD.out.by_ _ rfl).1) (one_cellv rfl) (by decide) (by unfold maxLen; omega) (by omega) hsz _ rfl ?_; intro g111 c111 w111 hown hgrow hor hlt9; have hgrow : World.grownBy _ w111 (some gb) := hgrow; have HB := Lib.hid (appK_more HB.out (own_lower HD.out.u hB2) HB.out.size hgrow); have HK := Lib.hid (HK.out.kept hgrow (Or.inr (fun e => types_ne HK.out HD.out.u (by decide) (by simpa [Value.ownBlock] using e)))); have HD := Lib.hid (HD.out.onU hgrow hown hor); clear hown hgrow hor hlt9 hsz
              refine hK.out _ _ (HKS.out _ HB.out) (fun hHeld => ?_)
              clear hK K
              try simp only [List.getElem_toArray, List.getElem_cons_succ, List.getElem_cons_zero, Act.put, List.setIfInBounds_toArray, List.set_cons_zero, List.set_cons_succ]
              refine wpAnyH_take (i := 16) (oi := _) (v := ?_) rfl (by kernel_rfl) (by kernel_rfl) (by kernel_rfl) (fun _ _ _ h => h) (Or.inl ⟨by rfl, ?_⟩) (by assumption) ?_
              rotate_left
              · (intro w hSw; (try dsimp only at hSw); go_simp <;> with_reducible rfl)
              try simp only [List.getElem_toArray, List.getElem_cons_succ, List.getElem_cons_zero, Act.put, List.setIfInBounds_toArray, List.set_cons_zero, List.set_cons_succ]
              refine wpAnyH_take (i := 17) (oi := _) (v := ?_) rfl (by kernel_rfl) (by kernel_rfl) (by kernel_rfl) (fun _ _ _ h => h) (Or.inl ⟨by rfl, ?_⟩) (by assumption) ?_
              rotate_left
              · (intro w hSw; (try dsimp only at hSw); go_simp <;> with_reducible rfl)
              try simp only [List.getElem_toArray, List.getElem_cons_succ, List.getElem_cons_zero, Act.put, List.setIfInBounds_toArray, List.set_cons_zero, List.set_cons_succ]
              refine wpAnyH_done (by kernel_rfl) ?_ _
              refine NoPanic.normal ?_
              go_wp2_with fail
              go_roundw
              case rel => exact ⟨k + 1, g6, c6, _, _, _, T ++ [x], _, _, U ++ [y], by omega, by go_num, rfl, by simp, by simp, Lib.hid ⟨by rw [HTX.out, HTU.out.1], by rw [HUX.out, HTU.out.2]⟩, HK, HV, Lib.hid HD.out.forget, HB, HALL2, HN502⟩
              case measure => simp [intOf]; omega
      · obtain rfl : k = n := by omega
        have hL : list.reverse.take k = list.reverse := by rw [← HLN.out, ← List.length_reverse, List.take_length]
        have hLa : list.take k = list := by rw [← HLN.out, List.take_length]
        have hTL : (ts.take k).length = k := by rw [List.length_take, HTN.out]; omega
        have hT2 : (ts.take k).take k = ts.take k := by rw [List.take_take, Nat.min_self]
        have hU2 : (ts.take k).reverse.take k = (ts.take k).reverse := by
          have h := List.take_length (l := (ts.take k).reverse)
          rw [List.length_reverse, hTL] at h
          exact h
        obtain ⟨rfl, rfl⟩ := HTU.out
        have HALL2 : Hid (∀ q ∈ list, smallB nq 1099511627776 1099511627776 q = true) := Lib.hid (by have h := HALL.out; rw [hLa] at h; exact h)
        have hv := HV.out
        rw [hL] at hv
        have HBK := Lib.hid (hv.row HX.out HK.out (by rw [List.length_reverse, HLN.out]))
        have HDT := Lib.hid HD.out.intsT
        have HDU := Lib.hid HD.out.intsU
        rw [hT2] at HDT ⊢
        rw [hU2] at HDU ⊢
        have hnq50 : nq ≤ 50 := by
          by_cases h0 : 0 < k
          · exact HN50.out h0
          · have h := HNQ.out
            rw [List.getElem?_eq_none (by rw [HLN.out]; omega)] at h
            have h : (0 : Nat) = nq := h
            omega
        have hsum := sum_small (list := list) (times := ts.take k) (n := nq) (P := 1099511627776) (Q := 255) (by rw [hTL]; exact HLN.out) (by omega) (fun t ht => by have := HTR.out t (List.mem_of_mem_take ht); exact ⟨this.1, by omega⟩) (fun q hq => by
          obtain ⟨a1, a2, a3, a4⟩ := smallB_yes (HALL2.out q hq)
          exact ⟨a1, by omega, fun c hc => by have := a4 c hc; omega⟩) (by decide) (by decide) (by decide) (by rw [HLN.out]; omega)
        have hsum2 := sum_small (list := list.reverse) (times := (ts.take k).reverse) (n := nq) (P := 1099511627776) (Q := 255) (by rw [List.length_reverse, List.length_reverse, hTL]; exact HLN.out) (by omega) (fun t ht => by have := HTR.out t (List.mem_of_mem_take (List.mem_reverse.mp ht)); exact ⟨this.1, by omega⟩) (fun q hq => by
          obtain ⟨a1, a2, a3, a4⟩ := smallB_yes (HALL2.out q (List.mem_reverse.mp hq))
          exact ⟨a1, by omega, fun c hc => by have := a4 c hc; omega⟩) (by decide) (by decide) (by decide) (by rw [List.length_reverse, HLN.out]; omega)
        have htu := sum_turned list (ts.take k) nq (by rw [hTL]; exact HLN.out)
        rw [htu.1, htu.2] at hsum2
        have HCL := Lib.hid (colsI_len list (ts.take k) nq)
        generalize colsI list (ts.take k) nq = CL at *
        generalize dotI (list.map Prod.snd) (ts.take k) = CM at *
        have HS1 := Lib.hid hsum
        have HS2 := Lib.hid hsum2
        have HFR : Hid (fewQ list.reverse = true) := Lib.hid (fewQ_intro (by rw [List.length_reverse, HLN.out]; omega) (fun q hq => by have := (fewQ_yes HF.out).2 q (List.mem_reverse.mp hq); exact this))
        have HNN : Hid (list.length = k ∧ (ts.take k).length = (ts.take k).length) := Lib.hid ⟨HLN.out, rfl⟩
        obtain ⟨kt, hkt⟩ : ∃ kt, (ts.take k).length = kt := ⟨_, rfl⟩
        obtain ⟨ku, hku⟩ : ∃ ku, (ts.take k).reverse.length = ku := ⟨_, rfl⟩
        have HKT := Lib.hid hkt
        have HKU := Lib.hid hku
        rw [hkt, hku]
        have H1w := Lib.hid (lslcUp IneqAt.keeps H1.out HX.out)
        have HR0 : Hid (Below wr.heap.size wr wr) := Lib.hid (Below.refl _ _)
        clear hL hLa hTL hT2 hU2 hv hsum hsum2 htu HNN hkt hku HK HV HD HALL hsz
        go_upto_region 22 with (go_at_call 11; (with_reducible refine (lsum_yes H1w HDT HR0 (Lib.hid ⟨HLN.out, HKT.out⟩) HF HS1 HCL).mono ?_); rintro e w7 ⟨A7, c7, rfl, hb, hs⟩; have HX := Lib.hid (HX.out.trans (hb.mono HX.out.size)); have HY := Lib.hid hb; have HS7 := Lib.hid hs; clear hb hs)
        have HC : Hid (Cells (w7.alloc (.cells #[.slice A7 nq c7, .int .i64 CM] 27)) w7.heap.size [.slice A7 nq c7, .int .i64 CM]) := Lib.hid (cells_new w7 [.slice A7 nq c7, .int .i64 CM] 27)
        have HZ7 : Hid (w7.heap.size < (w7.alloc (.cells #[.slice A7 nq c7, .int .i64 CM] 27)).heap.size) := Lib.hid (by simp)
        have HA7 : Hid (Below w7.heap.size w7 (w7.alloc (.cells #[.slice A7 nq c7, .int .i64 CM] 27))) := Lib.hid ((Below.refl _ _).alloc (Nat.le_refl _) _)
        have HS8 := Lib.hid (lslcUp IntAt.keeps HS7.out HA7.out)
        have HY8 := Lib.hid (HY.out.trans (HA7.out.mono HY.out.size))
        have HX8 := Lib.hid (HX.out.trans (HA7.out.mono HX.out.size))
        change Code.wp _ _ _ _ (w7.alloc (.cells #[.slice A7 nq c7, .int .i64 CM] 27))
        generalize w7.alloc (.cells #[.slice A7 nq c7, .int .i64 CM] 27) = w8 at *
        clear HX HY HS7 HA7
        have HX := HX8
        go_upto_region 23 with (go_at_call 11; (with_reducible refine (lsum_yes HBK HDU HY8 (Lib.hid ⟨by rw [List.length_reverse]; exact HLN.out, HKU.out⟩) HFR HS2 HCL).mono ?_); rintro e w9 ⟨A9, c9, rfl, hb, hs⟩; have HX := Lib.hid (HX.out.trans (hb.mono HX.out.size)); have HY := Lib.hid hb; have HS9 := Lib.hid hs; clear hb hs)
        have HC9 := Lib.hid (HC.out.keep HY.out HZ7.out)
        have HD : Hid (Cells (w9.alloc (.cells #[.slice A9 nq c9, .int .i64 CM] 27)) w9.heap.size [.slice A9 nq c9, .int .i64 CM]) := Lib.hid (cells_new w9 [.slice A9 nq c9, .int .i64 CM] 27)
        have HZ9 : Hid (w9.heap.size < (w9.alloc (.cells #[.slice A9 nq c9, .int .i64 CM] 27)).heap.size) := Lib.hid (by simp)
        have HA9 : Hid (Below w9.heap.size w9 (w9.alloc (.cells #[.slice A9 nq c9, .int .i64 CM] 27))) := Lib.hid ((Below.refl _ _).alloc (Nat.le_refl _) _)
        have HZ79 : Hid (w7.heap.size < w9.heap.size) := Lib.hid (Nat.lt_of_lt_of_le HZ7.out HY.out.size)
        have HC := Lib.hid (HC9.out.keep HA9.out HZ79.out)
        have HZ7 : Hid (w7.heap.size < (w9.alloc (.cells #[.slice A9 nq c9, .int .i64 CM] 27)).heap.size) := Lib.hid (Nat.lt_of_lt_of_le HZ79.out HA9.out.size)
        have HS8 := Lib.hid (lslcUp IntAt.keeps (lslcUp IntAt.keeps HS8.out HY.out) HA9.out)
        have HS9 := Lib.hid (lslcUp IntAt.keeps HS9.out HA9.out)
        have HX8 := Lib.hid (HX.out.trans (HA9.out.mono HX.out.size))
        change Code.wp _ _ _ _ (w9.alloc (.cells #[.slice A9 nq c9, .int .i64 CM] 27))
        generalize w9.alloc (.cells #[.slice A9 nq c9, .int .i64 CM] 27) = w10 at *
        clear HX HY HA9 HC9 HY8
        have HX := HX8
        have HSS : Hid (sameB (CL, CM) (CL, CM) = true) := Lib.hid (same_self _)
        go_wp2_with (first | (go_at_call 10; (with_reducible refine (linAwake_any _).mono ?_); rintro e wk ⟨rfl, hb⟩; have HX := Lib.hid (HX.out.trans (hb.mono HX.out.size)); have HS8 := Lib.hid (lslcUp IntAt.keeps HS8.out hb); have HS9 := Lib.hid (lslcUp IntAt.keeps HS9.out hb); have e0 := (HC.out.keep hb HZ7.out) 0 _ rfl; have e1 := (HC.out.keep hb HZ7.out) 1 _ rfl; have d0 := (HD.out.keep hb HZ9.out) 0 _ rfl; have d1 := (HD.out.keep hb HZ9.out) 1 _ rfl; clear hb) | (go_at_call 13; (with_reducible refine (rsame14_is HS8 HS9 (Lib.hid ⟨HCL.out, HCL.out⟩) HSS).mono ?_); rintro e w11 ⟨rfl, hb⟩; have HX := Lib.hid (HX.out.trans (hb.mono HX.out.size)); clear hb))
        go_ret
        exact ⟨by first | rfl | simp, HX.out⟩
end Go.Proofs.Ytncbmjpfbkngdaa
