/-
  The statement on regions, by any calls (MemPlays), walked: it answers true at any numbers and acts.
-/
import Derived.Test.YtmjoollhkjgohaaMemAlike
import Derived.Test.YtmjoollhkjgohaaMemApartL
import Derived.Deep.CutRange
import Derived.Deep.RegionLaw
namespace Go.Proofs.Ytmjoollhkjgohaa
set_option maxRecDepth 100000
set_option linter.unusedVariables false
set_option linter.unusedSimpArgs false
open Go.ChangeShapes Go.WideShapes Go.ChangeAt Go.RowKit
set_option linter.unusedVariables false
set_option linter.unusedSimpArgs false

theorem info_plM : (Try.prog.info? 31).map (fun i => (i.zero, i.size, i.bytes)) = some (some (.agg #[.int .i64 0, .slice none 0 0]), 2, 32) := by kernel_rfl
theorem mod_range (a : Int) {n : Nat} (hn : 0 < n) : ∃ m : Int, a.tmod (n : Int) = m ∧ -(n : Int) < m ∧ m < (n : Int) := ⟨_, rfl, by
  have h1 := Int.tmod_lt_of_pos (-a) (show (0 : Int) < (n : Int) by omega)
  rw [Int.neg_tmod] at h1
  omega, Int.tmod_lt_of_pos a (by omega)⟩
/-- Which region of the first so many has a number. -/
def FindM (T : List PlT) (N : Int) (k : Nat) (z : Int) : Prop := (z = -1 ∧ ∀ j t, j < k → T[j]? = some t → (t.1 : Int) ≠ N) ∨ ∃ j t, j < k ∧ z = (j : Int) ∧ T[j]? = some t ∧ (t.1 : Int) = N
theorem FindM.zero (T : List PlT) (N : Int) : FindM T N 0 (-1) := .inl ⟨rfl, fun j t h => absurd h (Nat.not_lt_zero j)⟩
theorem FindM.hit {T : List PlT} {N : Int} {k : Nat} {t : PlT} (h : T[k]? = some t) (e : (t.1 : Int) = N) : FindM T N (k + 1) (k : Int) := .inr ⟨k, t, by omega, rfl, h, e⟩
theorem FindM.miss {T : List PlT} {N z : Int} {k : Nat} {t : PlT} (hf : FindM T N k z) (h : T[k]? = some t) (e : (t.1 : Int) ≠ N) : FindM T N (k + 1) z := by
  rcases hf with ⟨h0, h1⟩ | ⟨j, t', h1, h2, h3, h4⟩
  · refine .inl ⟨h0, fun j t' hj ht => ?_⟩
    rcases Nat.lt_or_ge j k with q | q
    · exact h1 j t' q ht
    · obtain rfl : j = k := by omega
      rw [h] at ht
      injection ht with ht
      subst ht
      exact e
  · exact .inr ⟨j, t', by omega, h2, h3, h4⟩
theorem lT_set {T : List PlT} {k i q : Nat} {d e : List Int} (h : T[k]? = some (i, d, q)) : lT (T.set k (i, e, q)) = (lT T).set k (i, e) := by unfold lT; rw [List.map_set]
theorem own_ge {q n c : Nat} {b : Nat} (h : (Value.slice (some ⟨q, 0, none⟩) n c).ownBlock = some b) : q ≤ b := by
  have : q = b := by simpa [Value.ownBlock] using h
  omega
def bitM (b : Bool) : Nat := if b then 1 else 0
theorem own_baseM {w : World} {B B' e k n : Nat} {v : Value} {xs : List Value} (h : w.ownsRow B e k v n xs) (hB : B' ≤ B) : w.ownsRow B' e k v n xs := by
  refine ⟨h.1, ?_⟩
  rcases h.2 with h0 | ⟨gr, cap, cur, hv, hg, rest⟩
  · exact .inl h0
  · exact .inr ⟨gr, cap, cur, hv, Nat.le_trans hB hg, rest⟩
theorem own_nM {w : World} {B e k n m gr c : Nat} {xs : List Value} (h : w.ownsRow B e k (.slice (some ⟨gr, 0, none⟩) n c) m xs) : w.ownsRow B e k (.slice (some ⟨gr, 0, none⟩) n c) n xs := by
  have e : n = m := by
    rcases h.2 with ⟨h1, _⟩ | ⟨g', cap, cur, h1, _⟩
    · cases h1
    · injection h1
  subst e
  exact h
theorem pl_lies_take {w : World} {B gr n c : Nat} {ρ : Nat → Nat} {T : List PlT} (h : PlIn w B ρ (.slice (some ⟨gr, 0, none⟩) n c) T) (j : Nat) : Lies w w.heap.size (some ⟨gr, 0, none⟩) (plV (T.take j)) := fun i u hu => by
  have h2 : (plV T)[i]? = some u := by
    have : plV T = plV (T.take j) ++ plV (T.drop j) := by rw [← plV_app, List.take_append_drop]
    rw [this, List.getElem?_append_left (List.getElem?_eq_some_iff.mp hu).1]
    exact hu
  obtain ⟨_, hc⟩ := ownK_cell (own_nM h.row)
  obtain ⟨c1, c2⟩ := hc i u h2
  exact ⟨_, rfl, c2, by rw [show (⟨gr, 0, none⟩ : Addr).add i = ⟨gr, i, none⟩ by unfold Addr.add; split <;> simp_all]; exact c1⟩
theorem pl_lies_drop {w : World} {B gr n c : Nat} {ρ : Nat → Nat} {T : List PlT} (h : PlIn w B ρ (.slice (some ⟨gr, 0, none⟩) n c) T) (j : Nat) : Lies w w.heap.size (some ⟨gr, j * 2, none⟩) (plV (T.drop j)) := fun i u hu => by
  rcases Nat.lt_or_ge T.length j with q | q
  · rw [List.drop_eq_nil_of_le (by omega)] at hu
    simp [plV] at hu
  · have h2 : (plV T)[j * 2 + i]? = some u := by
      have : plV T = plV (T.take j) ++ plV (T.drop j) := by rw [← plV_app, List.take_append_drop]
      have hl : (plV (T.take j)).length = j * 2 := by rw [plV_len, List.length_take]; congr 1; omega
      rw [this, List.getElem?_append_right (by omega), hl, Nat.add_sub_cancel_left]
      exact hu
    obtain ⟨_, hc⟩ := ownK_cell (own_nM h.row)
    obtain ⟨c1, c2⟩ := hc _ u h2
    exact ⟨_, rfl, c2, by rw [show (⟨gr, j * 2, none⟩ : Addr).add i = ⟨gr, j * 2 + i, none⟩ by unfold Addr.add; split <;> simp_all]; exact c1⟩
set_option maxHeartbeats 12800000 in
theorem memPlays_any (s h : Int) (acts : List (Int × Int × Int)) (A : Option Addr) (cap : Nat) (w : World) (hA : InsRow w w.heap.size A acts) (hr : ∀ x ∈ acts, (-9223372036854775808 ≤ x.1 ∧ x.1 ≤ 9223372036854775807) ∧ (-9223372036854775808 ≤ x.2.1 ∧ x.2.1 ≤ 9223372036854775807) ∧ (-9223372036854775808 ≤ x.2.2 ∧ x.2.2 ≤ 9223372036854775807)) (hl : acts.length ≤ 9223372036854775807) :
    Calls Try.prog 3 #[.int .i64 s, .int .i64 h, .slice A acts.length cap] w fun e w' => e = .returned (.bool true) ∧ Below w.heap.size w w' := by
  have HX0 : Hid (Below w.heap.size w w) := Lib.hid (Below.refl _ _)
  by_cases h3 : 3000 < h
  · clear hA hr
    go_enter Try.func3, Try.ntmps3
    go_wp2_with (go_at_call 7; (with_reducible refine (memAwake_is w _ HX0.out).mono ?_); rintro e w3 ⟨rfl, hb, _⟩; have HX := Lib.hid hb; clear hb)
    go_ret
    exact ⟨rfl, HX.out⟩
  · by_cases s3 : 3000 < s
    · clear hA hr
      go_enter Try.func3, Try.ntmps3
      go_wp2_with (go_at_call 7; (with_reducible refine (memAwake_is w _ HX0.out).mono ?_); rintro e w3 ⟨rfl, hb, _⟩; have HX := Lib.hid hb; clear hb)
      go_ret
      exact ⟨rfl, HX.out⟩
    · have hN := mnew_is s h w
      have hms := manyM_cases s
      have hmh := manyM_cases h
      have hms2 := manyM_le s
      have hmh2 := manyM_le h
      generalize manyM s = ns at *
      generalize manyM h = nh at *
      have HN := Lib.hid hN
      have HMS : Hid ((s < 0 ∧ ns = 0) ∨ (¬ s < 0 ∧ s = (ns : Int))) := Lib.hid (by omega)
      have HMH : Hid ((h < 0 ∧ nh = 0) ∨ (¬ h < 0 ∧ h = (nh : Int))) := Lib.hid (by omega)
      have hnh : nh ≤ 3000 := by omega
      have hns : ns ≤ 3000 := by omega
      obtain ⟨st, hst⟩ : ∃ st, zerosM ns = st := ⟨_, rfl⟩
      have HSL : Hid (st.length = ns) := Lib.hid (by rw [← hst, zerosM_len])
      rw [hst] at HN
      have HAC := Lib.hid hA
      have HRG := Lib.hid hr
      obtain ⟨na, hna⟩ : ∃ n, acts.length = n := ⟨_, rfl⟩
      have HNA := Lib.hid hna
      rw [hna] at hl ⊢
      obtain ⟨i0, hi, hz0, hz1, hz2⟩ := info_parts info_plM
      obtain ⟨i1, hi1, hy0, hy1, hy2⟩ := info_parts info_i32M
      clear hN hst hA hr hna HX0 hms hmh
      go_enter Try.func3, Try.ntmps3
      go_upto_if 37 with (go_at_call 8; (with_reducible refine HN.out.mono ?_); rintro e w1 ⟨g, gs, gh, ρ, rfl, hM, hb⟩; have HM := Lib.hid hM; have HX := Lib.hid hb; clear hM hb)
      go_cut [8] from 24 (fun s8 wx => s8 = .int .i64 (nh : Int) ∧ wx = w1)
      case first =>
        rcases HMH.out with ⟨q0, rfl⟩ | ⟨q0, q1⟩
        · go_wp2_with fail
          go_meet
          exact ⟨rfl, rfl⟩
        · go_wp2_with fail
          go_meet
          exact ⟨by rw [q1], rfl⟩
      case rest =>
      as_aux_lemma =>
        obtain ⟨rfl, rfl⟩ := hcut
        go_upto_if 39 with fail
        go_cut [9] from 24 (fun s9 wx => s9 = .int .i64 (ns : Int) ∧ wx = wc)
        case first =>
          rcases HMS.out with ⟨q0, rfl⟩ | ⟨q0, q1⟩
          · go_wp2_with fail
            go_meet
            exact ⟨rfl, rfl⟩
          · go_wp2_with fail
            go_meet
            exact ⟨by rw [q1], rfl⟩
        case rest =>
        as_aux_lemma =>
          obtain ⟨rfl, rfl⟩ := hcut
          have HO : Hid (PlIn (wc.alloc (.cells #[] 31)) w.heap.size ρ (.slice (some ⟨wc.heap.size, 0, none⟩) 0 0) []) := Lib.hid ⟨own_empty1 _ _ _ _ HX.out.size, own_role (HM.out.low.2.1 _ (Nat.le_refl _)), (fun t ht => by cases ht), List.nodup_nil⟩
          have HM1 := Lib.hid (HM.out.keep ((Below.refl _ _).alloc (Nat.le_refl _) (.cells #[] 31)))
          have HX1 := Lib.hid (HX.out.alloc HX.out.size (.cells #[] 31))
          go_wp2_with fail
          clear HM HX HN
          generalize wc.alloc (.cells #[] 31) = w2 at *
          generalize wc.heap.size = q0 at *
          obtain ⟨G, hG⟩ : ∃ G, min na 40 = G := ⟨_, rfl⟩
          have HST : Hid (∃ (i : Nat) (T : List PlT) (ρ' : Nat → Nat), i + G = G ∧ (0 : Int) = (i : Int) ∧ (0 : Int) = ((flatR (lT T)).length : Int) ∧ MemIs w2 w.heap.size g gs gh ρ' st nh (lT T) i ∧ PlIn w2 w.heap.size ρ' (.slice (some ⟨q0, 0, none⟩) 0 0) T ∧ Below w.heap.size w w2 ∧ T.length ≤ i) := Lib.hid ⟨0, [], ρ, by omega, rfl, rfl, HM1.out, HO.out, HX1.out, Nat.le_refl _⟩
          clear HO HM1 HX1
          go_loopg [10, 11, 12] G (fun gk s10 s11 s12 wr => ∃ (i : Nat) (T : List PlT) (ρ' : Nat → Nat), i + gk = G ∧ s12 = .int .i64 (i : Int) ∧ s11 = .int .i64 ((flatR (lT T)).length : Int) ∧ Hid (MemIs wr w.heap.size g gs gh ρ' st nh (lT T) i) ∧ Hid (PlIn wr w.heap.size ρ' s10 T) ∧ Hid (Below w.heap.size w wr) ∧ T.length ≤ i)
          case atStart =>
            obtain ⟨i, T, ρ', h1, h2, h3, h4, h5, h6, h7⟩ := HST.out
            exact ⟨i, T, ρ', h1, by rw [h2], by rw [h3], Lib.hid h4, Lib.hid h5, Lib.hid h6, h7⟩
          case round =>
          as_aux_lemma =>
            clear HST
            obtain ⟨G1, hG1⟩ : ∃ y, y = gk := ⟨_, rfl⟩
            subst hG1
            obtain ⟨i, T, ρ', hgi, rfl, e11, HM, HT, HX, hTl⟩ := hrel
            obtain ⟨us, hus⟩ : ∃ y, (flatR (lT T)).length = y := ⟨_, rfl⟩
            rw [hus] at e11
            subst e11
            have HUS := Lib.hid hus
            have hun := HM.out.flat_le
            rw [hus] at hun
            clear hus
            rcases Nat.eq_zero_or_pos G1 with rfl | hpos
            · by_cases hin : i < na
              · have hin' : (i : Int) < (na : Int) := by omega
                have hi40 : ¬ (i : Int) < 40 := by omega
                go_wp2_with (go_at_call 7; (with_reducible refine (memAwake_is w _ HX.out).mono ?_); rintro e w3 ⟨rfl, hb, _⟩; have HX3 := Lib.hid hb; clear hb)
                go_ret
                exact ⟨rfl, HX3.out⟩
              · have hin' : ¬ (i : Int) < (na : Int) := by omega
                go_wp2_with (go_at_call 7; (with_reducible refine (memAwake_is w _ HX.out).mono ?_); rintro e w3 ⟨rfl, hb, _⟩; have HX3 := Lib.hid hb; clear hb)
                go_ret
                exact ⟨rfl, HX3.out⟩
            · obtain ⟨G1, rfl⟩ : ∃ y, G1 = y + 1 := ⟨G1 - 1, by omega⟩
              have hi1' : i < na := by omega
              have hi2' : i < 40 := by omega
              have hk1 : (i : Int) < (na : Int) := by omega
              have hk2 : (i : Int) < 40 := by omega
              obtain ⟨⟨wh, N, at_⟩, hx⟩ : ∃ x, acts[i]? = some x := ⟨_, List.getElem?_eq_getElem (by rw [HNA.out]; exact hi1')⟩
              obtain ⟨⟨rw0, rw1⟩, ⟨rn0, rn1⟩, ⟨ra0, ra1⟩⟩ := HRG.out _ (List.mem_of_getElem? hx)
              obtain ⟨ad, rfl, hab, hc0, hc1, hc2⟩ := HAC.out i _ hx
              dsimp only at rw0 rw1 rn0 rn1 ra0 ra1 hc0 hc1 hc2
              have hab' : (ad.add (i * 3)).block < w.heap.size := by rw [addr_add_block]; exact hab
              have d0 := (HX.out.cell (p := ad.add (i * 3)) hab').trans hc0
              have d1 := (HX.out.cell (p := ⟨(ad.add (i * 3)).block, (ad.add (i * 3)).off + 1, none⟩) hab').trans hc1
              have d2 := (HX.out.cell (p := ⟨(ad.add (i * 3)).block, (ad.add (i * 3)).off + 2, none⟩) hab').trans hc2
              clear hx hc0 hc1 hc2
              have HM1 := Lib.hid (HM.out.keep ((Below.refl _ _).alloc (Nat.le_refl _) (.cells #[.int .i64 wh, .int .i64 N, .int .i64 at_] 28)))
              have HT1 := Lib.hid (HT.out.keep ((Below.refl _ _).alloc (Nat.le_refl _) (.cells #[.int .i64 wh, .int .i64 N, .int .i64 at_] 28)))
              have HX1 := Lib.hid (HX.out.alloc HX.out.size (.cells #[.int .i64 wh, .int .i64 N, .int .i64 at_] 28))
              have HB1 : Hid (Whole (wr.alloc (.cells #[.int .i64 wh, .int .i64 N, .int .i64 at_] 28)) wr.heap.size [.int .i64 wh, .int .i64 N, .int .i64 at_] 28) := Lib.hid (Whole.new _ _ _)
              have HR1 : Hid (ρ' wr.heap.size = 0) := Lib.hid (HM.out.low.2.1 _ (Nat.le_refl _))
              have HBs : Hid (w.heap.size ≤ wr.heap.size) := Lib.hid HX.out.size
              obtain ⟨A8, c8, n, e8, hn, hc8, hc8'⟩ : ∃ B c n, u10 = .slice B n c ∧ T.length = n ∧ n ≤ c ∧ c ≤ 9223372036854775807 := by
                obtain ⟨B, c, e, p1, p2⟩ := HT.out.slice
                exact ⟨B, c, _, e, rfl, p1, p2⟩
              subst e8
              have HTN := Lib.hid hn
              rw [hn] at hTl
              clear hn HM HT
              obtain ⟨nb, hnb⟩ : ∃ y, wr.heap.size = y := ⟨_, rfl⟩
              go_upto_region 15 with fail
              clear d0 d1 d2
              rw [hnb] at HB1 HR1 HBs
              generalize wr.alloc (.cells #[.int .i64 wh, .int .i64 N, .int .i64 at_] 28) = w3 at *
              clear hnb HX
              go_wp2_with fail
              have hgt := HM1.out.low.2.2.2.2.2.2
              have HST2 : Hid (FindM T N 0 (-1) ∧ Below w3.heap.size w3 w3) := Lib.hid ⟨FindM.zero T N, Below.refl _ _⟩
              go_loopg [14, 15] n (fun g2 s14 s15 wi => ∃ (k : Nat) (z : Int), k + g2 = n ∧ s15 = .int .i64 (k : Int) ∧ s14 = .int .i64 z ∧ Hid (FindM T N k z) ∧ Hid (Below w3.heap.size w3 wi))
              case atStart => exact ⟨0, -1, by omega, rfl, rfl, Lib.hid HST2.out.1, Lib.hid HST2.out.2⟩
              case round =>
              as_aux_lemma =>
                clear HST2
                obtain ⟨g2, hg2⟩ : ∃ y, y = gk := ⟨_, rfl⟩
                subst hg2
                obtain ⟨k, z, hk, rfl, rfl, HF, HX3⟩ := hrel
                rcases Nat.eq_zero_or_pos g2 with rfl | hpos
                · obtain rfl : k = n := by omega
                  have hkk : ¬ (k : Int) < (k : Int) := by omega
                  have HM4 := Lib.hid (HM1.out.keep HX3.out)
                  have HT4 := Lib.hid (HT1.out.keep HX3.out)
                  have HB4 := Lib.hid (HB1.out.keep HX3.out (Whole.lt HB1.out))
                  have HX4 := Lib.hid (HX1.out.trans (HX3.out.mono HX1.out.size))
                  have HFD := HF
                  clear HM1 HT1 HB1 HX1 HX3 HF
                  go_upto_region 21 with fail
                  have b0 := HB4.out.cells 0 _ rfl
                  have hnb4 := Whole.lt HB4.out
                  iterate 10 go_step
                  have hik : i + 1 ≤ 40 := by omega
                  go_cut [10, 11] from 49 to 225 (fun s10 s11 wx => ∃ (T2 : List PlT) (ρ2 : Nat → Nat), s11 = .int .i64 ((flatR (lT T2)).length : Int) ∧ Hid (MemIs wx w.heap.size g gs gh ρ2 st nh (lT T2) (i + 1)) ∧ Hid (PlIn wx w.heap.size ρ2 s10 T2) ∧ Hid (Below w.heap.size w wx) ∧ T2.length ≤ i + 1)
                  case rest =>
                   as_aux_lemma =>
                    obtain ⟨T2, ρ2, rfl, HM5, HT5, HX5, hT2⟩ := hcut
                    obtain ⟨A9, c9, e9, _, _⟩ := HT5.out.slice
                    subst e9
                    have HAL := malike_any HM5.out HT5.out (by omega) rfl (by omega) (by rw [HSL.out]; omega)
                    rw [HSL.out] at HAL
                    have HAL := Lib.hid HAL
                    clear HM4 HT4 HB4 HX4 HFD b0
                    go_wp2_with (go_at_call 12; (with_reducible refine HAL.out.mono ?_); rintro e w6 ⟨rfl, hb⟩; have HM6 := Lib.hid (HM5.out.keep hb); have HT6 := Lib.hid (HT5.out.keep hb); have HX6 := Lib.hid (HX5.out.trans (hb.mono HX5.out.size)); clear hb)
                    go_roundg G1
                    case rel => exact ⟨i + 1, T2, ρ2, by omega, by first | rfl | simp, rfl, HM6, HT6, HX6, hT2⟩
                    case measure => omega
                  case first =>
                   as_aux_lemma =>
                    by_cases w0 : wh = 0
                    · subst w0 -- GIVE
                      have b1 := HB4.out.cells 1 _ rfl
                      by_cases hgv : 0 ≤ N ∧ N ≤ (nh : Int) - (us : Int)
                      · obtain ⟨m, rfl⟩ := Int.eq_ofNat_of_zero_le hgv.1
                        have hgv2 : (m : Int) ≤ (nh : Int) - (us : Int) := hgv.2
                        have hgv1 : (0 : Int) ≤ (m : Int) := by omega
                        have HG := Lib.hid (mgive_yes m HM4.out (by omega) (by omega) (by rw [HUS.out]; omega))
                        clear hgv
                        go_upto_region 36 with (go_at_call 9; (with_reducible refine HG.out.mono ?_); rintro e w5 ⟨id, ρ5, rfl, hid, hlow, hM, hS⟩; have HM5 := Lib.hid hM; have HT5 := Lib.hid (HT4.out.stay hS); have HX5 := Lib.hid (HX4.out.trans (hS.low HM4.out.low.1 HM4.out.low.2.2.1)); have HB5 := Lib.hid (whole_mem HB4.out hS HR1.out); have b1 := HB5.out.cells 1 _ rfl; have hnb5 := Whole.lt HB5.out; have HID := Lib.hid hid; have HLO := Lib.hid hlow; clear hM hS hid hlow)
                        clear HM4 HX4 HT4 HB4 HG b0 hnb4 hgv1
                        have hidc : id < i + 1 := HM5.out.id_lt ((hasR_snoc _).mpr (.inr rfl))
                        go_wp2_with fail
                        have HST3 : Hid (∃ (want : Nat) (b : Bool), 2 * (id + 1 - want) + bitM b = 2 * (id + 1) + 1 ∧ (0 : Int) = (want : Int) ∧ true = b ∧ (∀ y, y < want → hasR (lT T) y) ∧ (b = false → ∀ (j : Nat) (t : PlT), T[j]? = some t → t.1 ≠ want)) := Lib.hid ⟨0, true, rfl, rfl, rfl, fun y hy => absurd hy (Nat.not_lt_zero y), fun h => by cases h⟩
                        go_loopg [18, 19] (2 * (id + 1) + 1) (fun g3 s18 s19 wi => ∃ (want : Nat) (b : Bool), 2 * (id + 1 - want) + bitM b = g3 ∧ s18 = .int .i64 (want : Int) ∧ s19 = .bool b ∧ Hid (∀ y, y < want → hasR (lT T) y) ∧ Hid (b = false → ∀ (j : Nat) (t : PlT), T[j]? = some t → t.1 ≠ want) ∧ wi = w5)
                        case atStart =>
                          obtain ⟨want, b, h1, h2, h3, h4, h5⟩ := HST3.out
                          exact ⟨want, b, h1, by rw [h2], by rw [h3], Lib.hid h4, Lib.hid h5, rfl⟩
                        case round =>
                         as_aux_lemma =>
                          clear HST3
                          obtain ⟨g3, hg3⟩ : ∃ y, y = gk := ⟨_, rfl⟩
                          subst hg3
                          obtain ⟨want, b, hgm, rfl, rfl, HW, HWF, rfl⟩ := hrel
                          have hwid : want ≤ id := by
                            rcases Nat.lt_or_ge id want with q | q
                            · exact absurd (HW.out id q) HID.out
                            · exact q
                          cases b
                          · have hwe : want = id := by
                              rcases Nat.lt_or_ge want id with q | q
                              · obtain ⟨j, t, ht, et⟩ := lT_has (HLO.out want q)
                                exact absurd et (HWF.out rfl j t ht)
                              · omega
                            subst hwe
                            clear HW HWF hgm
                            obtain ⟨q5, hq5⟩ : ∃ y, wr.heap.size = y := ⟨_, rfl⟩
                            have hrq : ρ5 q5 = 0 := HM5.out.low.2.1 q5 (by omega)
                            have hBq : w.heap.size ≤ q5 := by rw [← hq5]; exact HX5.out.size
                            have HTQ : Hid (∀ t ∈ T, t.2.2 ≠ q5) := Lib.hid (fun t ht e => by
                              have := Whole.lt (HT5.out.at_ t ht).1
                              omega)
                            have HRB : Hid (∀ b, (Value.slice A8 k c8).ownBlock = some b → b ≠ q5) := Lib.hid (fun b hb e => by
                              have := own_block_lt HT5.out.row b hb
                              omega)
                            have HRQ := Lib.hid hrq
                            have HBQ := Lib.hid hBq
                            have hm3 : m ≤ 3000 := by omega
                            clear hrq hBq
                            go_upto_region 49 with (first
                              | (at_make; refine wpList_make_full _ rfl _ _ 29 rfl wr.heap.size 21 i1 (.int .i32 0) 1 Try.underlying29 hi1 hy0 hy1 .i64 .i64 _ _ m rfl rfl rfl rfl (by rw [hy2]; omega) (by unfold maxLen; omega) (Nat.le_refl _) ?_; intro w6 hown hgrow; have hb6 := (Below.refl wr.heap.size wr).grown hgrow (Nat.le_refl _) (fun k hk => by cases hk); have HQ6 : Hid (Whole w6 wr.heap.size (i32V (zerosM m)) 21) := Lib.hid (by have := own_whole1 hown; rw [zeros_made] at this; exact this); have HM6 := Lib.hid (HM5.out.keep hb6); have HT6 := Lib.hid (HT5.out.keep hb6); have HX6 := Lib.hid (HX5.out.trans (hb6.mono HX5.out.size)); have HB6 := Lib.hid (HB5.out.keep hb6 (Whole.lt HB5.out)); have HY6 : Hid (w6.ownsRow w.heap.size 31 2 (.slice A8 k c8) k (plV T)) := Lib.hid (by have := HT6.out.row; rw [HTN.out] at this; exact this); have hz6 := HX6.out.size; have b1 := HB6.out.cells 1 _ rfl; clear hown hgrow hb6)
                              | (at_builtin; go_loud ((refine wpList_append_lies _ rfl _ _ 26 rfl w.heap.size 31 i0 (.agg #[.int .i64 0, .slice none 0 0]) 2 32 Try.underlying26 hi hz0 hz1 hz2 rfl (by decide) _ k _ rfl (HY6.out.alloc _) ⟨_, 0, none⟩ 1 1 [.int .i64 (want : Int), .slice (some ⟨q5, 0, none⟩) m m] rfl rfl (World.news_of_block (heap_alloc_new w6 _)) (by simp [Value.oneCell']) (by decide) (by unfold maxLen; omega) (by omega) (by simp; omega) _ rfl ?_); intro g9 c9 w9 hown hgrow hor hlt9; have hne5 : (Value.slice A8 k c8).ownBlock ≠ some q5 := fun e => HRB.out q5 e rfl; have hneb : (Value.slice A8 k c8).ownBlock ≠ some nb := own_neM HY6.out HB6.out (by decide); rw [hq5] at HQ6; have HQ9 : Hid (Whole w9 q5 (i32V (zerosM m)) 21) := Lib.hid ((grown_farM hgrow (Whole.lt HQ6.out) hne5).trans HQ6.out); have HB9 : Hid (Whole w9 nb [.int .i64 0, .int .i64 (m : Int), .int .i64 at_] 28) := Lib.hid ((grown_farM hgrow (Whole.lt HB6.out) hneb).trans HB6.out); have HM9 := Lib.hid (HM6.out.far (app_only HT6.out.role hgrow)); have HX9 := Lib.hid ((HX6.out.alloc hz6 _).grown hgrow (by simp; omega) (fun b hb => (HY6.out.lt b hb).1)); have HR9 : Hid (ρ5 g9 = 0) := Lib.hid ((app_new HT6.out.role hor).elim id (HM6.out.low.2.1 _)); have HT9 : Hid (PlIn w9 w.heap.size ρ5 (.slice (some ⟨g9, 0, none⟩) (k + 1) c9) (T ++ [(want, zerosM m, q5)])) := Lib.hid (HT6.out.app' hgrow (by rw [HTN.out]; unfold plC; dsimp only; rw [zerosM_len]; exact hown) (own_role HR9.out) HQ9.out HRQ.out HBQ.out HTQ.out); have b1 := HB9.out.cells 1 _ rfl; have hnb9 := Whole.lt HB9.out; clear hown hgrow hor hne5 hneb)))
                            have HFL9 : Hid ((flatR (lT (T ++ [(want, zerosM m, q5)]))).length = us + m) := Lib.hid (by unfold lT; rw [List.map_append, flatR_app, List.length_append]; show (flatR (lT T)).length + (flatR [(want, zerosM m)]).length = _; rw [flatR_one, zerosM_len, HUS.out])
                            have HM9' : Hid (MemIs w9 w.heap.size g gs gh ρ5 st nh (lT (T ++ [(want, zerosM m, q5)])) (i + 1)) := Lib.hid (by have := HM9.out; unfold lT at this ⊢; rw [List.map_append]; exact this)
                            have HLE9 : Hid ((T ++ [(want, zerosM m, q5)]).length ≤ i + 1) := Lib.hid (by rw [List.length_append, HTN.out]; show k + 1 ≤ i + 1; omega)
                            go_wp2_with fail
                            go_meet
                            exact ⟨_, ρ5, by rw [HFL9.out]; first | rfl | simp, HM9', HT9, HX9, HLE9.out⟩
                          · obtain ⟨g3, rfl⟩ : ∃ y, g3 = y + 1 := ⟨g3 - 1, by unfold bitM at hgm; simp at hgm; omega⟩
                            have hgm2 : 2 * (id + 1 - want) = g3 := by unfold bitM at hgm; simp at hgm; omega
                            clear HWF hgm
                            go_wp2_with fail
                            have HW0 : Hid (∀ y, y < want → hasR (lT T) y) := HW
                            go_loopg [18, 19, 20] k (fun g4 s18 s19 s20 wi => ∃ (j wa : Nat) (b : Bool), j + g4 = k ∧ s20 = .int .i64 (j : Int) ∧ s18 = .int .i64 (wa : Int) ∧ s19 = .bool b ∧ Hid (∀ y, y < wa → hasR (lT T) y) ∧ Hid (want ≤ wa ∧ (b = true → want < wa)) ∧ Hid (b = false → wa = want ∧ ∀ (j' : Nat) (t : PlT), j' < j → T[j']? = some t → t.1 ≠ want) ∧ wi = wr)
                            case atStart => exact ⟨0, want, false, by omega, rfl, rfl, rfl, HW0, Lib.hid ⟨Nat.le_refl _, fun h => by cases h⟩, Lib.hid (fun _ => ⟨rfl, fun j' t h => absurd h (Nat.not_lt_zero j')⟩), rfl⟩
                            case round =>
                              clear HW HW0
                              obtain ⟨g4, hg4⟩ : ∃ y, y = gk := ⟨_, rfl⟩
                              subst hg4
                              obtain ⟨j, wa, b, hj, rfl, rfl, rfl, HW, HWB, HWF, rfl⟩ := hrel
                              have hwa : wa ≤ id := by
                                rcases Nat.lt_or_ge id wa with q | q
                                · exact absurd (HW.out id q) HID.out
                                · exact q
                              rcases Nat.eq_zero_or_pos g4 with rfl | hpos
                              · obtain rfl : j = k := by omega
                                have hjj : ¬ (j : Int) < (j : Int) := by omega
                                have hme : 2 * (id + 1 - wa) + bitM b < g3 + 1 := by
                                  obtain ⟨q1, q2⟩ := HWB.out
                                  cases b
                                  · show 2 * (id + 1 - wa) + 0 < g3 + 1
                                    omega
                                  · have := q2 rfl
                                    show 2 * (id + 1 - wa) + 1 < g3 + 1
                                    omega
                                go_wp2_with fail
                                go_roundg (2 * (id + 1 - wa) + bitM b)
                                case rel => exact ⟨wa, b, rfl, rfl, rfl, HW, Lib.hid (fun hb j' t ht => by
                                  obtain ⟨q1, q2⟩ := HWF.out hb
                                  rw [q1]
                                  exact q2 j' t (by have := (List.getElem?_eq_some_iff.mp ht).1; rw [HTN.out] at this; exact this) ht), rfl⟩
                                case measure => exact hme
                              · obtain ⟨g4, rfl⟩ : ∃ y, g4 = y + 1 := ⟨g4 - 1, by omega⟩
                                have hjk : (j : Int) < (k : Int) := by omega
                                obtain ⟨⟨ij, dl, q⟩, ht⟩ : ∃ t, T[j]? = some t := ⟨_, List.getElem?_eq_getElem (by rw [HTN.out]; omega)⟩
                                obtain ⟨gr, rfl, c0, _, hgr, _⟩ := HT5.out.cell ht
                                dsimp only at c0
                                have hLt := lT_at ht
                                have HTJ := Lib.hid ht
                                have HLT := Lib.hid hLt
                                clear ht hLt
                                by_cases hij : ij = wa
                                · have hijb : ((ij : Int) == (wa : Int)) = true := beq_iff_eq.mpr (by omega)
                                  have HIJ := Lib.hid hij
                                  clear hij
                                  go_wp2_with fail
                                  go_roundg g4
                                  case rel => exact ⟨j + 1, wa + 1, true, by omega, by first | rfl | simp, by first | rfl | simp, rfl, Lib.hid (fun y hy => by
                                    rcases Nat.lt_or_ge y wa with q | q
                                    · exact HW.out y q
                                    · have e : y = wa := by omega
                                      rw [e, ← HIJ.out]
                                      exact ⟨j, _, HLT.out⟩), Lib.hid (by have := HWB.out.1; exact ⟨by omega, fun _ => by omega⟩), Lib.hid (fun h => by cases h), rfl⟩
                                  case measure => omega
                                · have hijb : ((ij : Int) == (wa : Int)) = false := beq_eq_false_iff_ne.mpr (by omega)
                                  have HIJ := Lib.hid hij
                                  clear hij
                                  go_wp2_with fail
                                  go_roundg g4
                                  case rel => exact ⟨j + 1, wa, b, by omega, by first | rfl | simp, rfl, rfl, HW, HWB, Lib.hid (fun hb => by
                                    obtain ⟨q1, q2⟩ := HWF.out hb
                                    refine ⟨q1, fun j' t hj' ht' => ?_⟩
                                    rcases Nat.lt_or_ge j' j with q | q
                                    · exact q2 j' t q ht'
                                    · have e : j' = j := by omega
                                      rw [e, HTJ.out] at ht'
                                      injection ht' with ht'
                                      subst ht'
                                      rw [← q1]
                                      exact HIJ.out), rfl⟩
                                  case measure => omega
                      · have HG := Lib.hid (mgive_no N HM4.out (by omega) (by omega) (by rw [HUS.out]; exact hgv))
                        by_cases hN0 : N < 0
                        · clear hgv
                          go_wp2_with (go_at_call 9; (with_reducible refine HG.out.mono ?_); rintro e w5 ⟨rfl, hb⟩; have HM5 := Lib.hid (HM4.out.keep hb); have HX5 := Lib.hid (HX4.out.trans (hb.mono HX4.out.size)); have HT5 := Lib.hid (HT4.out.keep hb); have b1 := ((HB4.out.keep hb (Whole.lt HB4.out))).cells 1 _ rfl; have hnb5 := Nat.lt_of_lt_of_le hnb4 hb.size; clear hb)
                          go_roundg G1
                          case rel => exact ⟨i + 1, T, ρ', by omega, by first | rfl | simp, by rw [HUS.out], Lib.hid (HM5.out.some_ (Nat.le_refl _) (by omega)), HT5, HX5, by rw [HTN.out]; omega⟩
                          case measure => omega
                        · have hgv3 : ¬ N ≤ (nh : Int) - (us : Int) := by omega
                          clear hgv
                          go_wp2_with (go_at_call 9; (with_reducible refine HG.out.mono ?_); rintro e w5 ⟨rfl, hb⟩; have HM5 := Lib.hid (HM4.out.keep hb); have HX5 := Lib.hid (HX4.out.trans (hb.mono HX4.out.size)); have HT5 := Lib.hid (HT4.out.keep hb); have b1 := ((HB4.out.keep hb (Whole.lt HB4.out))).cells 1 _ rfl; have hnb5 := Nat.lt_of_lt_of_le hnb4 hb.size; clear hb)
                          go_roundg G1
                          case rel => exact ⟨i + 1, T, ρ', by omega, by first | rfl | simp, by rw [HUS.out], Lib.hid (HM5.out.some_ (Nat.le_refl _) (by omega)), HT5, HX5, by rw [HTN.out]; omega⟩
                          case measure => omega
                    by_cases w1 : wh = 1
                    · subst w1 -- DROP
                      have b1 := HB4.out.cells 1 _ rfl
                      rcases HFD.out with ⟨hz, hno⟩ | ⟨j, ⟨id, dl, q⟩, hj, hz, ht, hid⟩
                      · subst hz
                        have HDN := Lib.hid (mdrop_no N HM4.out (by omega) (by omega) (fun ⟨i', e, hh⟩ => by
                          obtain ⟨k', t, ht, et⟩ := lT_has hh
                          exact hno k' t (by have := (List.getElem?_eq_some_iff.mp ht).1; rw [HTN.out] at this; exact this) ht (by rw [et, e])))
                        clear hno
                        go_wp2_with (go_at_call 10; (with_reducible refine HDN.out.mono ?_); rintro e w5 ⟨rfl, hb⟩; have HM5 := Lib.hid (HM4.out.keep hb); have HX5 := Lib.hid (HX4.out.trans (hb.mono HX4.out.size)); have HT5 := Lib.hid (HT4.out.keep hb); clear hb)
                        go_meet
                        exact ⟨T, ρ', by rw [HUS.out], Lib.hid (HM5.out.some_ (Nat.le_refl _) (by omega)), HT5, HX5, by rw [HTN.out]; omega⟩
                      · subst hz
                        dsimp only at hid
                        subst hid
                        have hLt := lT_at ht
                        dsimp only at hLt
                        have HDI := Lib.hid (mdrop_is HM4.out (by omega) (by omega) hLt)
                        have HTK := Lib.hid ht
                        have HLT := Lib.hid hLt
                        obtain ⟨nd, hnd⟩ : ∃ y, dl.length = y := ⟨_, rfl⟩
                        have HND := Lib.hid hnd
                        have hjk : (j : Int) < (k : Int) := by omega
                        have hple := posR_le hLt
                        rw [HUS.out, hnd] at hple
                        have hndu : nd ≤ us := by omega
                        clear ht hLt hnd hple
                        go_upto_region 54 with (go_at_call 10; (with_reducible refine HDI.out.mono ?_); rintro e w5 ⟨rfl, hM, hS⟩; have HM5 := Lib.hid hM; have HX5 := Lib.hid (HX4.out.trans (hS.low HM4.out.low.1 HM4.out.low.2.2.1)); have HT5 := Lib.hid (HT4.out.stay hS); clear hM hS)
                        obtain ⟨gr, e8, _, d1, hgr, hne⟩ := HT5.out.cell HTK.out
                        subst e8
                        dsimp only at d1
                        rw [HND.out] at d1
                        go_upto_region 55 with fail
                        obtain ⟨jp, hjp⟩ : ∃ jp, j + 1 = jp := ⟨_, rfl⟩
                        have hwr : IntKind.i64.wrap ((j : Int) + 1) = (jp : Int) := by rw [IntWalk.i64_in _ ⟨by omega, by omega⟩]; omega
                        have hj8 : j ≤ c8 := by omega
                        have hjpk : jp ≤ k := by omega
                        have hjp8 : jp ≤ c8 := by omega
                        have hc80 : ¬ c8 = 0 := by omega
                        have HLI1 : Hid (∀ W, Below w5.heap.size w5 W → Lies W w5.heap.size (some ⟨gr, 0, none⟩) (plV (T.take j))) := Lib.hid (fun W hW => (pl_lies_take HT5.out j).below_to hW (Nat.le_refl _))
                        have HLI2 : Hid (∀ W, Below w5.heap.size w5 W → Lies W w5.heap.size (some ⟨gr, jp * 2, none⟩) (plV (T.drop jp))) := Lib.hid (fun W hW => (pl_lies_drop HT5.out jp).below_to hW (Nat.le_refl _))
                        have HL1 : Hid ((plV (T.take j)).length = j * 2) := Lib.hid (by rw [plV_len, List.length_take, HTN.out]; congr 1; omega)
                        have HL2 : Hid ((plV (T.drop jp)).length = (k - jp) * 2) := Lib.hid (by rw [plV_len, List.length_drop, HTN.out])
                        have HPJ := Lib.hid hjp
                        have HEND : Hid (∀ v7 w7, Below w5.heap.size w5 w7 → w7.ownsRow w5.heap.size 31 2 v7 (0 + j + (k - jp)) ([] ++ plV (T.take j) ++ plV (T.drop jp)) → ∃ (T2 : List PlT) (ρ2 : Nat → Nat), Value.int .i64 ((us : Int) - (nd : Int)) = .int .i64 ((flatR (lT T2)).length : Int) ∧ Hid (MemIs w7 w.heap.size g gs gh ρ2 st nh (lT T2) (i + 1)) ∧ Hid (PlIn w7 w.heap.size ρ2 v7 T2) ∧ Hid (Below w.heap.size w w7) ∧ T2.length ≤ i + 1) := Lib.hid (fun v7 w7 hb ho => by
                          have hje := HPJ.out
                          have hlT : lT (T.eraseIdx j) = (lT T).eraseIdx j := by unfold lT; rw [List.eraseIdx_eq_take_drop_succ, List.eraseIdx_eq_take_drop_succ, List.map_append, List.map_take, List.map_drop]
                          have hfl := congrArg List.length (flatR_split HLT.out)
                          rw [List.length_append, List.length_append, HUS.out, HND.out] at hfl
                          have hfe : (flatR ((lT T).eraseIdx j)).length + nd = us := by rw [List.eraseIdx_eq_take_drop_succ, flatR_app, List.length_append]; omega
                          have hel : (T.eraseIdx j).length = k - 1 := by rw [List.length_eraseIdx, HTN.out, if_pos (by omega)]
                          refine ⟨T.eraseIdx j, ρ', ?_, ?_, ?_, Lib.hid (HX5.out.trans (hb.mono HX5.out.size)), by rw [hel]; omega⟩
                          · rw [hlT]
                            congr 1
                            omega
                          · rw [hlT]
                            exact Lib.hid ((HM5.out.keep hb).some_ (Nat.le_refl _) (by omega))
                          · refine Lib.hid (HT5.out.some_ (List.eraseIdx_sublist _ _) hb ?_ (fun b hb => HM5.out.low.2.1 b (ho.lt b hb).1))
                            have e1 : plV (T.eraseIdx j) = [] ++ plV (T.take j) ++ plV (T.drop jp) := by rw [List.eraseIdx_eq_take_drop_succ, plV_app, List.nil_append, hje]
                            have e2 : (T.eraseIdx j).length = 0 + j + (k - jp) := by rw [hel]; omega
                            rw [e1, e2]
                            exact own_baseM ho HX5.out.size)
                        by_cases h8 : c8 = jp
                        · have HLI3 : Hid (∀ W : World, Lies W w5.heap.size (some ⟨gr, 0, none⟩) (plV (T.drop jp))) := Lib.hid (fun W i u hu => by
                            rw [List.drop_eq_nil_of_le (by rw [HTN.out]; omega)] at hu
                            simp [plV] at hu)
                          go_region_held_law (fun _ => True) (exact trivial) (first
                            | ((refine step_appK rfl (.tmp 209) (.tmp 212) 26 rfl w5.heap.size 31 i0 (.agg #[.int .i64 0, .slice none 0 0]) 2 32 Try.underlying26 hi hz0 hz1 hz2 rfl (by decide) _ 0 [] rfl (by first | exact own_empty1 w5 w5.heap.size _ 2 (Nat.le_refl _) | exact own_empty1 w5.drew w5.heap.size _ 2 (Nat.le_refl _)) (some ⟨gr, 0, none⟩) j _ w5.heap.size (plV (T.take j)) HL1.out rfl (HLI1.out _ (by first | exact (Below.refl _ _).alloc (Nat.le_refl _) _ | exact ((Below.refl _ _).alloc (Nat.le_refl _) _).drew | exact (Below.refl _ _).drew.alloc (Nat.le_refl _) _)) (plV_one _) (by unfold maxLen; omega) (by omega) (by simp) ?_); intro v6 w6 hown6 hgrow6; have HB6 := Lib.hid (Below.grown (by first | exact (Below.refl _ _).alloc (Nat.le_refl _) _ | exact ((Below.refl _ _).alloc (Nat.le_refl _) _).drew | exact (Below.refl _ _).drew.alloc (Nat.le_refl _) _) hgrow6 (by simp) (fun b hb => own_ge hb)); have HO6 := Lib.hid hown6)
                            | ((refine step_appK rfl (.tmp 213) (.tmp 217) 26 rfl w5.heap.size 31 i0 (.agg #[.int .i64 0, .slice none 0 0]) 2 32 Try.underlying26 hi hz0 hz1 hz2 rfl (by decide) _ (0 + j) _ rfl HO6.out (some ⟨gr, 0, none⟩) (k - jp) _ w5.heap.size (plV (T.drop jp)) HL2.out rfl (HLI3.out _) (plV_one _) (by unfold maxLen; omega) (by omega) HB6.out.size ?_); intro v7 w7 hown7 hgrow7; have HB7 := Lib.hid (HB6.out.grown hgrow7 HB6.out.size (fun b hb => (HO6.out.lt b hb).1)); have HO7 := Lib.hid hown7))
                          all_goals
                            (try simp only [List.getElem_toArray, List.getElem_cons_succ, List.getElem_cons_zero, Act.put, List.setIfInBounds_toArray, List.set_cons_zero, List.set_cons_succ])
                            go_wp2_with fail
                            go_meet
                            exact HEND.out v7 w7 HB7.out HO7.out
                        · have h8' : ¬ jp = c8 := by omega
                          go_region_held_law (fun _ => True) (exact trivial) (first
                            | ((refine step_appK rfl (.tmp 209) (.tmp 212) 26 rfl w5.heap.size 31 i0 (.agg #[.int .i64 0, .slice none 0 0]) 2 32 Try.underlying26 hi hz0 hz1 hz2 rfl (by decide) _ 0 [] rfl (by first | exact own_empty1 w5 w5.heap.size _ 2 (Nat.le_refl _) | exact own_empty1 w5.drew w5.heap.size _ 2 (Nat.le_refl _)) (some ⟨gr, 0, none⟩) j _ w5.heap.size (plV (T.take j)) HL1.out rfl (HLI1.out _ (by first | exact (Below.refl _ _).alloc (Nat.le_refl _) _ | exact ((Below.refl _ _).alloc (Nat.le_refl _) _).drew | exact (Below.refl _ _).drew.alloc (Nat.le_refl _) _)) (plV_one _) (by unfold maxLen; omega) (by omega) (by simp) ?_); intro v6 w6 hown6 hgrow6; have HB6 := Lib.hid (Below.grown (by first | exact (Below.refl _ _).alloc (Nat.le_refl _) _ | exact ((Below.refl _ _).alloc (Nat.le_refl _) _).drew | exact (Below.refl _ _).drew.alloc (Nat.le_refl _) _) hgrow6 (by simp) (fun b hb => own_ge hb)); have HO6 := Lib.hid hown6)
                            | ((refine step_appK rfl (.tmp 213) (.tmp 217) 26 rfl w5.heap.size 31 i0 (.agg #[.int .i64 0, .slice none 0 0]) 2 32 Try.underlying26 hi hz0 hz1 hz2 rfl (by decide) _ (0 + j) _ rfl HO6.out (some ⟨gr, jp * 2, none⟩) (k - jp) _ w5.heap.size (plV (T.drop jp)) HL2.out rfl (HLI2.out _ HB6.out) (plV_one _) (by unfold maxLen; omega) (by omega) HB6.out.size ?_); intro v7 w7 hown7 hgrow7; have HB7 := Lib.hid (HB6.out.grown hgrow7 HB6.out.size (fun b hb => (HO6.out.lt b hb).1)); have HO7 := Lib.hid hown7))
                          all_goals
                            (try simp only [List.getElem_toArray, List.getElem_cons_succ, List.getElem_cons_zero, Act.put, List.setIfInBounds_toArray, List.set_cons_zero, List.set_cons_succ])
                            go_wp2_with fail
                            go_meet
                            exact HEND.out v7 w7 HB7.out HO7.out
                    have hwb0 : (wh == 0) = false := by simpa using w0
                    have hwb1 : (wh == 1) = false := by simpa using w1
                    by_cases hk0 : k = 0
                    · have hkb : ((k : Int) == 0) = true := by simpa using hk0
                      clear hk0
                      go_wp2_with fail
                      go_roundg G1
                      case rel => exact ⟨i + 1, T, ρ', by omega, by first | rfl | simp, by rw [HUS.out], Lib.hid (HM4.out.some_ (Nat.le_refl _) (by omega)), HT4, HX4, by rw [HTN.out]; omega⟩
                      case measure => omega
                    · have hkb : ((k : Int) == 0) = false := by simpa using hk0
                      obtain ⟨kk, hkk2, e1, e2⟩ := mod_inM (show (0 : Int) ≤ (i : Int) by omega) (show 0 < k by omega)
                      obtain ⟨⟨id, dl, q⟩, ht⟩ : ∃ t, T[kk]? = some t := ⟨_, List.getElem?_eq_getElem (by rw [HTN.out]; omega)⟩
                      obtain ⟨gr, rfl, c0, c1, hgr, hne⟩ := HT4.out.cell ht
                      dsimp only at c0 c1 hne
                      obtain ⟨nd, hnd⟩ : ∃ y, dl.length = y := ⟨_, rfl⟩
                      obtain ⟨o, ho⟩ : ∃ y, posR (lT T) kk = y := ⟨_, rfl⟩
                      obtain ⟨off, hof⟩ : ∃ y, offR o nd = y := ⟨_, rfl⟩
                      have hLt := lT_at ht
                      dsimp only at hLt
                      have HRE := mregion_is HM4.out (by omega) hLt
                      rw [ho, hnd, hof] at HRE
                      rw [hnd] at c1
                      have HRE := Lib.hid HRE
                      have HLT := Lib.hid hLt
                      have HTK := Lib.hid ht
                      have HND := Lib.hid hnd
                      have HPO := Lib.hid ho
                      have HOF := Lib.hid hof
                      have hkk3 : (kk : Int) < (k : Int) := by omega
                      clear hLt ht hnd ho hof hk0
                      go_upto_region 25 with (go_at_call 11; (with_reducible refine HRE.out.mono ?_); rintro e w5 ⟨rfl, hb⟩; have HM5 := Lib.hid (HM4.out.keep hb); have HX5 := Lib.hid (HX4.out.trans (hb.mono HX4.out.size)); have HT5 := Lib.hid (HT4.out.keep hb); have HB5 := Lib.hid (HB4.out.keep hb (Whole.lt HB4.out)); have d1 := (hb.cell (p := ⟨gr, kk * 2 + 1, none⟩) hgr).trans c1; have hgr5 := Nat.lt_of_lt_of_le hgr hb.size; clear hb)
                      clear HRE HM4 HX4 HT4 HB4 c0 c1 hgr
                      by_cases hd0 : nd = 0
                      · subst hd0
                        go_wp2_with fail
                        go_roundg G1
                        case rel => exact ⟨i + 1, T, ρ', by omega, by first | rfl | simp, by rw [HUS.out], Lib.hid (HM5.out.some_ (Nat.le_refl _) (by omega)), HT5, HX5, by rw [HTN.out]; omega⟩
                        case measure => omega
                      · have hdb : ((nd : Int) == 0) = false := by simpa using hd0
                        have hof : off = o := by have := HOF.out; unfold offR at this; rw [if_neg hd0] at this; exact this.symm
                        subst hof
                        have hnl : nd ≤ 3000 := by
                          have h1 := posR_le HLT.out
                          have h2 := HM5.out.flat_le
                          rw [HND.out] at h1
                          omega
                        have b2 := HB5.out.cells 2 _ rfl
                        have hnb5 := Whole.lt HB5.out
                        obtain ⟨m5, hm1, hm2, hm3⟩ := mod_range (at_) (show 0 < nd by omega)
                        have b1 := HB5.out.cells 1 _ rfl
                        try dsimp only at b1 b2
                        by_cases hneg : m5 < 0
                        · obtain ⟨pp, hpp⟩ : ∃ pp : Nat, m5 + (nd : Int) = (pp : Int) := ⟨(m5 + (nd : Int)).toNat, by omega⟩
                          go_upto_region 29 with fail
                          have HPP := Lib.hid hpp
                          have hpl : pp < dl.length := by rw [HND.out]; omega
                          obtain ⟨x0, hx0⟩ : ∃ x, dl[pp]? = some x := ⟨_, List.getElem?_eq_getElem hpl⟩
                          obtain ⟨cx, fx⟩ := HM5.out.cell HLT.out hx0
                          rw [HPO.out] at cx fx
                          have hpp' : (pp : Int) < (nd : Int) := by omega
                          have hP := HM5.out.put HLT.out hpl (wrap32 N)
                          rw [HPO.out, ← lT_set HTK.out] at hP
                          have HM6 := Lib.hid hP.1
                          have HT6 := Lib.hid (HT5.out.stay hP.2)
                          have HX6 := Lib.hid (HX5.out.trans (hP.2.low HM5.out.low.1 HM5.out.low.2.2.1))
                          have HB6 := Lib.hid (whole_mem HB5.out hP.2 HR1.out)
                          have HX0 := Lib.hid hx0
                          have HPL := Lib.hid hpl
                          clear hx0 hP hpl
                          go_upto_region 30 with fail
                          clear cx fx d1 hgr5 b1 b2 hnb5 HM5 HT5 HX5 HB5
                          generalize w5.setCell ⟨gh, off + pp, none⟩ (.int .i32 (wrap32 N)) = w6 at *
                          obtain ⟨gr', e', _, d1, hgr6, hne6⟩ := HT6.out.cell HTK.out
                          injection e' with e'
                          injection e' with e'
                          subst e'
                          dsimp only at d1
                          rw [HND.out] at d1
                          have hat := HT6.out.at_ _ (List.mem_of_getElem? HTK.out)
                          dsimp only at hat
                          have cq := hat.1.cells pp _ (i32V_at HX0.out)
                          have fq := hat.1.free pp
                          have b1 := HB6.out.cells 1 _ rfl
                          have hnb6 := Whole.lt HB6.out
                          have hq6 := Whole.lt hat.1
                          have hPT := HT6.out.put (j := pp) HTK.out (wrap32 N)
                          have HT7 := Lib.hid hPT.1
                          have HM7 := Lib.hid (HM6.out.far hPT.2)
                          have HX7 := Lib.hid (HX6.out.setCell (p := ⟨q, pp, none⟩) hat.2.2 (.int .i32 (wrap32 N)))
                          have HFL : Hid ((flatR (lT (T.set kk (id, dl.set pp (wrap32 N), q)))).length = us) := Lib.hid (by rw [lT_set HTK.out, flatR_set HLT.out HPL.out, List.length_set, HUS.out])
                          have HLE7 : Hid ((T.set kk (id, dl.set pp (wrap32 N), q)).length ≤ i + 1) := Lib.hid (by rw [List.length_set, HTN.out]; omega)
                          clear hPT hat
                          go_region
                          go_wp2_with fail
                          go_meet
                          exact ⟨_, ρ', by rw [HFL.out], Lib.hid ((HM7.out.keep (Below.refl _ _).drew).some_ (Nat.le_refl _) (by omega)), Lib.hid (HT7.out.keep (Below.refl _ _).drew), Lib.hid HX7.out.drew, HLE7.out⟩
                        · obtain ⟨pp, hpp⟩ : ∃ pp : Nat, m5 = (pp : Int) := ⟨m5.toNat, by omega⟩
                          subst hpp
                          go_upto_region 29 with fail
                          have hpl : pp < dl.length := by rw [HND.out]; omega
                          obtain ⟨x0, hx0⟩ : ∃ x, dl[pp]? = some x := ⟨_, List.getElem?_eq_getElem hpl⟩
                          obtain ⟨cx, fx⟩ := HM5.out.cell HLT.out hx0
                          rw [HPO.out] at cx fx
                          have hpp' : (pp : Int) < (nd : Int) := by omega
                          have hP := HM5.out.put HLT.out hpl (wrap32 N)
                          rw [HPO.out, ← lT_set HTK.out] at hP
                          have HM6 := Lib.hid hP.1
                          have HT6 := Lib.hid (HT5.out.stay hP.2)
                          have HX6 := Lib.hid (HX5.out.trans (hP.2.low HM5.out.low.1 HM5.out.low.2.2.1))
                          have HB6 := Lib.hid (whole_mem HB5.out hP.2 HR1.out)
                          have HX0 := Lib.hid hx0
                          have HPL := Lib.hid hpl
                          clear hx0 hP hpl
                          go_upto_region 30 with fail
                          clear cx fx d1 hgr5 b1 b2 hnb5 HM5 HT5 HX5 HB5
                          generalize w5.setCell ⟨gh, off + pp, none⟩ (.int .i32 (wrap32 N)) = w6 at *
                          obtain ⟨gr', e', _, d1, hgr6, hne6⟩ := HT6.out.cell HTK.out
                          injection e' with e'
                          injection e' with e'
                          subst e'
                          dsimp only at d1
                          rw [HND.out] at d1
                          have hat := HT6.out.at_ _ (List.mem_of_getElem? HTK.out)
                          dsimp only at hat
                          have cq := hat.1.cells pp _ (i32V_at HX0.out)
                          have fq := hat.1.free pp
                          have b1 := HB6.out.cells 1 _ rfl
                          have hnb6 := Whole.lt HB6.out
                          have hq6 := Whole.lt hat.1
                          have hPT := HT6.out.put (j := pp) HTK.out (wrap32 N)
                          have HT7 := Lib.hid hPT.1
                          have HM7 := Lib.hid (HM6.out.far hPT.2)
                          have HX7 := Lib.hid (HX6.out.setCell (p := ⟨q, pp, none⟩) hat.2.2 (.int .i32 (wrap32 N)))
                          have HFL : Hid ((flatR (lT (T.set kk (id, dl.set pp (wrap32 N), q)))).length = us) := Lib.hid (by rw [lT_set HTK.out, flatR_set HLT.out HPL.out, List.length_set, HUS.out])
                          have HLE7 : Hid ((T.set kk (id, dl.set pp (wrap32 N), q)).length ≤ i + 1) := Lib.hid (by rw [List.length_set, HTN.out]; omega)
                          clear hPT hat
                          go_region
                          go_wp2_with fail
                          go_meet
                          exact ⟨_, ρ', by rw [HFL.out], Lib.hid ((HM7.out.keep (Below.refl _ _).drew).some_ (Nat.le_refl _) (by omega)), Lib.hid (HT7.out.keep (Below.refl _ _).drew), Lib.hid HX7.out.drew, HLE7.out⟩
                · obtain ⟨g2, rfl⟩ : ∃ y, g2 = y + 1 := ⟨g2 - 1, by omega⟩
                  have hkn : (k : Int) < (n : Int) := by omega
                  obtain ⟨⟨id, dl, q⟩, ht⟩ : ∃ t, T[k]? = some t := ⟨_, List.getElem?_eq_getElem (by rw [HTN.out]; omega)⟩
                  have HTw := HT1.out.keep HX3.out
                  obtain ⟨gr, rfl, c0, c1, hgr, hne⟩ := HTw.cell ht
                  have b1 := (HB1.out.keep HX3.out (Whole.lt HB1.out)).cells 1 _ rfl
                  dsimp only at c0 c1 hne
                  by_cases hid : (id : Int) = N
                  · have HF2 := Lib.hid (FindM.hit ht hid)
                    have hidb : ((id : Int) == N) = true := by simpa using hid
                    clear ht hid HTw c1
                    go_wp2_with fail
                    go_region
                    go_wp2_with fail
                    go_roundg g2
                    case rel => exact ⟨k + 1, _, by omega, by first | rfl | simp, rfl, HF2, Lib.hid HX3.out.drew⟩
                    case measure => omega
                  · have HF2 := Lib.hid (HF.out.miss ht hid)
                    have hidb : ((id : Int) == N) = false := by simpa using hid
                    clear ht hid HTw c1
                    go_wp2_with fail
                    go_region
                    go_wp2_with fail
                    go_roundg g2
                    case rel => exact ⟨k + 1, _, by omega, by first | rfl | simp, rfl, HF2, Lib.hid HX3.out.drew⟩
                    case measure => omega
end Go.Proofs.Ytmjoollhkjgohaa
