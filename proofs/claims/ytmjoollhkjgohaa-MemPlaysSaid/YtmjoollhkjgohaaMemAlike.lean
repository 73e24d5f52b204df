/-
  What the statement looks at behind each act: that all is as it should be (alike).
-/
import Derived.Test.YtmjoollhkjgohaaMemPlayIn
namespace Go.Proofs.Ytmjoollhkjgohaa
set_option maxRecDepth 100000
set_option linter.unusedVariables false
set_option linter.unusedSimpArgs false
open Go.ChangeShapes Go.WideShapes Go.ChangeAt Go.RowKit
set_option linter.unusedVariables false
set_option linter.unusedSimpArgs false

set_option maxHeartbeats 6400000 in
theorem malike_any {w : World} {B g gs gh nh c n cv : Nat} {ρ : Nat → Nat} {st : List Int} {T : List PlT} {A : Option Addr} (h : MemIs w B g gs gh ρ st nh (lT T) c) (hT : PlIn w B ρ (.slice A n cv) T) (hl : nh ≤ 65536) (hn : T.length = n) (hn2 : n ≤ 1000) (hs : st.length ≤ 65536) :
    Calls Try.prog 12 #[.pointer (some ⟨g, 0, none⟩), .slice A n cv, .int .i64 ((flatR (lT T)).length : Int), .int .i64 (nh : Int), .int .i64 (st.length : Int)] w fun e w' => e = .returned (.bool true) ∧ Below w.heap.size w w' := by
  have hfl := h.flat_le
  have HM := Lib.hid h
  have HT := Lib.hid hT
  have HN := Lib.hid hn
  have HLM := Lib.hid hl
  obtain ⟨u, hu⟩ : ∃ u, (flatR (lT T)).length = u := ⟨_, rfl⟩
  have HU := Lib.hid hu
  rw [hu] at hfl ⊢
  obtain ⟨ns, hns⟩ : ∃ ns, st.length = ns := ⟨_, rfl⟩
  have HNS := Lib.hid hns
  rw [hns] at hs ⊢
  clear h hT hn hu hns
  go_enter Try.func12, Try.ntmps12
  go_wp2_with fail
  have HST : Hid (∃ k : Nat, k + n = n ∧ (0 : Int) = (k : Int) ∧ (0 : Int) = (posR (lT T) k : Int) ∧ Below w.heap.size w w) := Lib.hid ⟨0, by omega, rfl, rfl, Below.refl _ _⟩
  go_loopg [11, 12] n (fun gk s11 s12 wr => ∃ k : Nat, k + gk = n ∧ s12 = .int .i64 (k : Int) ∧ s11 = .int .i64 (posR (lT T) k : Int) ∧ Hid (Below w.heap.size w wr))
  case atStart =>
    obtain ⟨k, h1, h2, h3, h4⟩ := HST.out
    exact ⟨k, h1, by rw [h2], by rw [h3], Lib.hid h4⟩
  case round =>
    clear HST
    obtain ⟨g1, hg1⟩ : ∃ y, y = gk := ⟨_, rfl⟩
    subst hg1
    obtain ⟨k, hk, rfl, rfl, HX⟩ := hrel
    have HMr := Lib.hid (HM.out.keep HX.out)
    have HTr := Lib.hid (HT.out.keep HX.out)
    rcases Nat.eq_zero_or_pos g1 with rfl | hpos
    · obtain rfl : k = n := by omega
      have hkk : ¬ (k : Int) < (k : Int) := by omega
      go_wp2_with (first
        | (go_at_call 15; (with_reducible refine (mused_is HMr.out).mono ?_); rintro e wx ⟨rfl, hb⟩; have HX := Lib.hid (HX.out.trans (hb.mono HX.out.size)); have HMr := Lib.hid (HMr.out.keep hb); clear hb; rw [HU.out])
        | (go_at_call 14; (with_reducible refine (mroom_is HMr.out HLM.out).mono ?_); rintro e wx ⟨rfl, hb⟩; have HX := Lib.hid (HX.out.trans (hb.mono HX.out.size)); have HMr := Lib.hid (HMr.out.keep hb); clear hb; rw [HU.out])
        | (go_at_call 13; (with_reducible refine (mstack_is HMr.out).mono ?_); rintro e wx ⟨rfl, hb⟩; have HX := Lib.hid (HX.out.trans (hb.mono HX.out.size)); have HMr := Lib.hid (HMr.out.keep hb); clear hb; rw [HNS.out]))
      go_ret
      exact ⟨by first | rfl | simp, HX.out⟩
    · obtain ⟨g1, rfl⟩ : ∃ y, g1 = y + 1 := ⟨g1 - 1, by omega⟩
      have hkn : (k : Int) < (n : Int) := by omega
      obtain ⟨⟨id, d, q⟩, ht⟩ : ∃ t, T[k]? = some t := ⟨_, List.getElem?_eq_getElem (by rw [HN.out]; omega)⟩
      obtain ⟨gr, rfl, c0, c1, hgr, hne⟩ := HTr.out.cell ht
      dsimp only at c0 c1 hne
      have hLt := lT_at ht
      dsimp only at hLt
      have hps := posR_succ hLt
      have hpl := posR_le hLt
      rw [HU.out] at hpl
      have HPL := mplace_is HMr.out hLt
      obtain ⟨nd, hnd⟩ : ∃ y, d.length = y := ⟨_, rfl⟩
      obtain ⟨o, ho⟩ : ∃ y, posR (lT T) k = y := ⟨_, rfl⟩
      rw [ho] at HPL hpl hps ⊢
      rw [hnd] at c1 hpl hps
      have HPL := Lib.hid HPL
      have HLT := Lib.hid hLt
      have HTK := Lib.hid ht
      have HND := Lib.hid hnd
      have HO := Lib.hid ho
      have HPS := Lib.hid hps
      clear ht hLt hnd ho hps
      go_upto_region 6 with (go_at_call 16; (with_reducible refine HPL.out.mono ?_); rintro e w2 ⟨rfl, hb⟩; have HX2 := Lib.hid (HX.out.trans (hb.mono HX.out.size)); have HM2 := Lib.hid (HMr.out.keep hb); have HT2 := Lib.hid (HTr.out.keep hb); have d0 := (hb.cell (p := ⟨gr, k * 2, none⟩) hgr).trans c0; have d1 := (hb.cell (p := ⟨gr, k * 2 + 1, none⟩) hgr).trans c1; have hgr2 := Nat.lt_of_lt_of_le hgr hb.size; clear hb)
      clear c0 c1 HPL HMr HTr HX
      have HRG := mregion_is HM2.out HLM.out HLT.out
      obtain ⟨off, hof⟩ : ∃ y, offR o nd = y := ⟨_, rfl⟩
      rw [HO.out, HND.out, hof] at HRG
      have HRG := Lib.hid HRG
      have HOF := Lib.hid hof
      clear hof
      go_upto_region 7 with (go_at_call 11; (with_reducible refine HRG.out.mono ?_); rintro e w3 ⟨rfl, hb⟩; have HX3 := Lib.hid (HX2.out.trans (hb.mono HX2.out.size)); have HM3 := Lib.hid (HM2.out.keep hb); have HT3 := Lib.hid (HT2.out.keep hb); have c1 := (hb.cell (p := ⟨gr, k * 2 + 1, none⟩) hgr2).trans d1; have hgr3 := Nat.lt_of_lt_of_le hgr2 hb.size; clear hb)
      clear d0 d1 HM2 HT2 HX2 HRG
      go_wp2_with fail
      have HX4 : Hid (Below w3.heap.size w3 w3) := Lib.hid (Below.refl _ _)
      go_loopg [16] nd (fun g2 s16 wi => ∃ j : Nat, j + g2 = nd ∧ s16 = .int .i64 (j : Int) ∧ Hid (Below w3.heap.size w3 wi))
      case atStart => exact ⟨0, by omega, rfl, HX4⟩
      case round =>
        clear HX4
        obtain ⟨g2, hg2⟩ : ∃ y, y = gk := ⟨_, rfl⟩
        subst hg2
        obtain ⟨j, hj, rfl, HX4⟩ := hrel
        rcases Nat.eq_zero_or_pos g2 with rfl | hpos
        · obtain rfl : j = nd := by omega
          have hjj : ¬ (j : Int) < (j : Int) := by omega
          go_wp2_with fail
          go_roundg g1
          case rel => exact ⟨k + 1, by omega, by first | rfl | simp, by rw [HPS.out]; first | rfl | simp, Lib.hid (HX3.out.trans (HX4.out.mono HX3.out.size))⟩
          case measure => omega
        · obtain ⟨g2, rfl⟩ : ∃ y, g2 = y + 1 := ⟨g2 - 1, by omega⟩
          have hjj : (j : Int) < (nd : Int) := by omega
          have hof : off = o := by have := HOF.out; unfold offR at this; rw [if_neg (by omega)] at this; exact this.symm
          obtain ⟨x, hx⟩ : ∃ x, d[j]? = some x := ⟨_, List.getElem?_eq_getElem (by rw [HND.out]; omega)⟩
          have HM4 := HM3.out.keep HX4.out
          have HT4 := HT3.out.keep HX4.out
          obtain ⟨cx, _⟩ := HM4.cell HLT.out hx
          rw [HO.out] at cx
          have cq := (HT4.at_ _ (List.mem_of_getElem? HTK.out)).1.cells j _ (i32V_at hx)
          dsimp only at cq
          have c2 := (HX4.out.cell (p := ⟨gr, k * 2 + 1, none⟩) hgr3).trans c1
          subst hof
          clear HM4 HT4 hx c1
          go_wp2_with fail
          go_region
          go_wp2_with fail
          go_roundg g2
          case rel => exact ⟨j + 1, by omega, by first | rfl | simp, Lib.hid HX4.out.drew⟩
          case measure => omega
end Go.Proofs.Ytmjoollhkjgohaa
