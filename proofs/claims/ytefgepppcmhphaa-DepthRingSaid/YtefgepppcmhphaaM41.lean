/-
  What a walk through a graph does from one node.
-/
import Derived.Test.YtefgepppcmhphaaM39
import Derived.Test.YtefgepppcmhphaaM40
import Derived.Deep.LoopGhost
namespace Go.Proofs.Ytefgepppcmhphaa
set_option maxRecDepth 100000
set_option linter.unusedVariables false
set_option linter.unusedSimpArgs false
open Go.ChangeShapes Go.WideShapes Go.ChangeAt Go.RowKit
set_option linter.unusedVariables false

theorem ints_lieR {w : World} {B c : Nat} {A : Option Addr} {L : List Int} (h : SlcIs IntAt 1 w B A c L) : Lies w B A (L.map (Value.int .i64)) := fun j u hj => by
  rw [List.getElem?_map] at hj
  cases hl : L[j]? with
  | none => rw [hl] at hj; cases hj
  | some x =>
    rw [hl] at hj
    injection hj with hj
    subst hj
    obtain ⟨ad, e, hb, hc⟩ := h.row j x hl
    rw [Nat.mul_one] at hc
    exact ⟨ad, e, hb, hc⟩
/-- What is left when all was walked to from a node. -/
def FromOut (B g : Nat) (EL : List (List Int)) (n v : Nat) (S : Wk) (w : World) (e : Ending) (w' : World) : Prop :=
  e = .returned (.tuple #[]) ∧ (∃ S' a' ρ', WkIn w' B g EL n S' a' ρ' ∧ Tar EL n S' ∧ S'.way = [] ∧ (∀ x, 0 < S.place x → 0 < S'.place x) ∧ 0 < S'.place v) ∧ Below B w w'
set_option maxHeartbeats 3200000 in
theorem sfrom_any (B g n v : Nat) (EL : List (List Int)) (S : Wk) (a : WkAd) (ρ : Nat → Nat) (w : World) (h : WkIn w B g EL n S a ρ) (hT : Tar EL n S) (hw : S.way = []) (hv : v < n) (h0 : S.place v = 0) :
    Calls Try.prog 36 #[.pointer (some ⟨g, 0, none⟩), .int .i64 (v : Int)] w (FromOut B g EL n v S w) := by
  have hn1 := h.n1
  have hmt := smeet_any B g n v EL S a ρ w h hv (hT.met_lt hv h0) hT.lens.1 hT.lens.2.1
  have HMT := Lib.hid hmt
  have HT1 := Lib.hid (hT.meet hv h0 (fun p hp => by rw [hw] at hp; cases hp))
  have HPL : Hid (∀ x, 0 < S.place x → 0 < (S.meet v).place x) := Lib.hid (fun x hx => Tar.met_all hx)
  have HPV : Hid (0 < (S.meet v).place v) := Lib.hid (by have e : (S.meet v).place v = S.met + 1 := upd_at _ _ _; omega)
  have hge := h.g_ge
  clear h hT hw h0 hmt
  go_enter Try.func36, Try.ntmps36
  go_wp2_with fail
  go_step3
  go_wp2_with (go_at_call 58; go_loud (refine HMT.out.mono ?_); rintro e w1 ⟨rfl, ⟨a1, ρ1, h1⟩, hb⟩; have HW1 := Lib.hid h1; have X1 := Lib.hid hb; clear h1 hb)
  go_step3
  go_wp2_with fail
  have HR : Hid (∃ S' a' ρ', WkIn w1 B g EL n S' a' ρ' ∧ Tar EL n S' ∧ (∀ x, 0 < S.place x → 0 < S'.place x) ∧ 0 < S'.place v ∧ todo n S' ≤ todo n (S.meet v)) := Lib.hid ⟨_, _, _, HW1.out, HT1.out, HPL.out, HPV.out, Nat.le_refl _⟩
  generalize todo n (S.meet v) = G0 at *
  clear HW1 HT1 HPL HPV HMT a1 ρ1
  go_loopg [4] G0 (fun gk s4 wr => Hid (∃ S' a' ρ', WkIn wr B g EL n S' a' ρ' ∧ Tar EL n S' ∧ (∀ x, 0 < S.place x → 0 < S'.place x) ∧ 0 < S'.place v ∧ todo n S' ≤ gk) ∧ Hid (Below B w wr))
  case atStart => exact ⟨HR, X1⟩
  case round =>
    clear HR X1
    obtain ⟨HR, HX⟩ := hrel
    obtain ⟨S1, a, ρ1, hW, hT, hP, hPv, hK⟩ := HR.out
    clear HR
    obtain ⟨gp, gb, gg, E, ce, Ay, cy, Ao, co, Ap, cp, vs⟩ := a
    obtain ⟨hg0, hg1, hg2, hg3⟩ := hW.g_ge
    have q5 := hW.blk.cells 5 _ rfl
    dsimp only at q5 hg1 hg2 hg3
    have HT := Lib.hid hT
    have HW := Lib.hid hW
    have HP := Lib.hid hP
    have HPv := Lib.hid hPv
    have HK := Lib.hid hK
    obtain ⟨R, hR⟩ : ∃ R, R = gk := ⟨_, rfl⟩
    subst hR
    clear hT hW hP hPv hK
    rcases List.eq_nil_or_concat S1.way with hw | ⟨W, x, hw⟩
    · have HN := Lib.hid hw
      rw [hw] at q5
      clear hw
      dsimp only [List.length_nil] at q5
      go_wp2_with fail
      try rw [Exit.noGoto_ret]
      go_end0
      exact ⟨rfl, ⟨_, _, _, HW.out, HT.out, HN.out, HP.out, HPv.out⟩, HX.out⟩
    · rw [List.concat_eq_append] at hw
      have HWE := Lib.hid hw
      have hxw : x ∈ S1.way := by rw [hw]; simp
      have hx : x < n := HT.out.olt x (HT.out.wsub x hxw)
      have hwl : S1.way.length = W.length + 1 := by rw [hw]; simp
      have hle := HT.out.lens.1
      rw [hwl] at q5 hle
      obtain ⟨k, hk⟩ : ∃ k, W.length = k := ⟨_, rfl⟩
      rw [hk] at q5 hle hwl
      have hrow : wr.ownsRow B 3 1 (.slice Ay S1.way.length cy) S1.way.length (natV S1.way) := HW.out.way
      obtain ⟨gy, rfl, hc1, hc2, _, _⟩ := own_some hrow (by omega)
      have cw := own_cell hrow (natV_at (l := S1.way) (j := k) (v := x) (by rw [hw, ← hk]; simp))
      have q0 := HW.out.blk.cells 0 _ rfl
      have q4 := HW.out.blk.cells 4 _ rfl
      obtain ⟨cg, fg⟩ := HW.out.g_at hx
      dsimp only at q0 q4 cg fg
      obtain ⟨L, hL⟩ : ∃ L, eds EL x = L := ⟨_, rfl⟩
      have hxl : x < EL.length := by rw [HW.out.len]; exact hx
      have hEL : EL[x]? = some L := by
        rw [List.getElem?_eq_getElem hxl, ← hL]
        unfold eds
        rw [List.getElem?_eq_getElem hxl]
        rfl
      obtain ⟨adE, rfl, hab, AL, cL, hcE, hLS⟩ := HW.out.edges.row x L hEL
      rw [Nat.mul_one] at hcE
      have hLl : L.length ≤ 1048576 := HW.out.el L (List.mem_of_getElem? hEL)
      have hgl := HT.out.gle x (HT.out.wsub x hxw)
      rw [hL] at hgl
      have HLE := Lib.hid hL
      have HLS := Lib.hid hLS
      have hcl1 := hLS.le
      have hcl2 := hLS.cap
      have hcE1 := HW.out.edges.le
      have hcE2 := HW.out.edges.cap
      dsimp only at hcE1 hcE2
      have hELn := HW.out.len
      rw [hELn] at hcE1
      obtain ⟨g0, hg0'⟩ : ∃ g0, S1.gone x = g0 := ⟨_, rfl⟩
      rw [hg0'] at cg hgl
      have HG := Lib.hid hg0'
      have HKL := Lib.hid hk
      clear hw hxw hrow hL hEL hxl hLS hg0' hELn hk hwl
      go_wp2_with fail
      go_region
      go_upto_region 3 with fail
      go_region
      have HLY : Hid (Lies wr B (if cL = g0 then AL else Option.map (fun x => x.add g0) AL) ((L.map (Value.int .i64)).drop g0)) := Lib.hid ((ints_lieR HLS.out).cut (by rw [List.length_map]; exact hcl1))
      have hm1 : L.length - g0 ≤ cL - g0 := by omega
      have hm2 : cL - g0 ≤ 9223372036854775807 := by omega
      have hm3 : g0 + (L.length - g0) = L.length := by omega
      have HX2 := Lib.hid (Below.refl B wr).drew.drew
      have HI : Hid (∃ S2 a2 ρ2, WkIn wr.drew.drew B g EL n S2 a2 ρ2 ∧ Tar EL n S2 ∧ S2.way = S1.way ∧ S2.place = S1.place ∧ S2.gone x = g0 + 0) := Lib.hid ⟨_, _, _, HW.out.keep (Below.refl _ _).drew.drew, HT.out, rfl, rfl, HG.out⟩
      generalize (if cL = g0 then AL else Option.map (fun x => x.add g0) AL) = AX at *
      generalize cL - g0 = cX at *
      obtain ⟨m, hm⟩ : ∃ m, L.length - g0 = m := ⟨_, rfl⟩
      rw [hm] at hm1 hm3 ⊢
      have HM := Lib.hid hm3
      clear q5 cw q0 q4 cg fg hcE HW hcl1 hcl2 hm hm3 HLS hgl hc1 hc2 hle
      obtain ⟨w0, hw0⟩ : ∃ W, W = wr := ⟨_, rfl⟩
      subst hw0
      generalize w0.drew.drew = w2 at *
      go_wp2_with fail
      go_loopg [44] m (fun kk i wi => ∃ s : Nat, s + kk = m ∧ i = .int .i64 s ∧ Hid (∃ S2 a2 ρ2, WkIn wi B g EL n S2 a2 ρ2 ∧ Tar EL n S2 ∧ S2.way = S1.way ∧ S2.place = S1.place ∧ S2.gone x = g0 + s) ∧ Hid (Below B w0 wi))
      case atStart => exact ⟨0, by omega, rfl, HI, HX2⟩
      case round =>
        clear HI HX2
        obtain ⟨s, hsk, rfl, HI, HX2⟩ := hrel
        obtain ⟨S2, a2, ρ2, hW, hT, hwy, hpl, hgo⟩ := HI.out
        clear HI
        have HW := Lib.hid hW
        have HT2 := Lib.hid hT
        have HWY := Lib.hid hwy
        have HPL := Lib.hid hpl
        have HGO := Lib.hid hgo
        clear hW hT hwy hpl hgo
        by_cases hsm : s < m
        rotate_left
        · have hki : ¬ (s : Int) < (m : Int) := by omega
          have hse : s = m := by omega
          have hlv := sleave_any B g n x EL S2 W a2 ρ2 wr HW.out HT2.out (by rw [HWY.out, HWE.out]) (by rw [HGO.out, hse, HM.out, HLE.out])
          have HLV := Lib.hid hlv
          clear hlv
          go_wp2_with (go_at_call 59; go_loud (refine HLV.out.mono ?_); rintro e w4 ⟨rfl, hl, hb⟩; have HL4 := Lib.hid hl; have X4 := Lib.hid hb; clear hl hb)
          go_roundg (R - 1)
          case measure => 
            have h1 := HK.out
            unfold todo at h1
            have h2 : S1.way.length = W.length + 1 := by rw [HWE.out]; simp
            omega
          case rel =>
            obtain ⟨S3, a3, ρ3, h1, h2, h3, h4⟩ := HL4.out
            refine ⟨Lib.hid ⟨S3, a3, ρ3, h1, h2, fun y hy => ?_, ?_, ?_⟩, Lib.hid (HX.out.trans (HX2.out.trans X4.out))⟩
            · rw [h4, HPL.out]; exact HP.out y hy
            · rw [h4, HPL.out]; exact HPv.out
            · have h5 := HK.out
              unfold todo at h5 ⊢
              rw [h4, HPL.out, h3]
              have h6 : S1.way.length = W.length + 1 := by rw [HWE.out]; simp
              omega
        have hki : (s : Int) < (m : Int) := by omega
        have hgs : g0 + s < L.length := by have := HM.out; omega
        obtain ⟨t, ht⟩ : ∃ t, L[g0 + s] = t := ⟨_, rfl⟩
        obtain ⟨ad, rfl, hbd, hc⟩ := HLY.out s (.int .i64 t) (by rw [List.getElem?_drop, List.getElem?_map, List.getElem?_eq_getElem hgs, ht]; rfl)
        have c0 := (HX2.out.cell (p := ad.add s) (by rw [addr_add_block]; exact hbd)).trans hc
        obtain ⟨gp2, gb2, gg2, E2, ce2, Ay2, cy2, Ao2, co2, Ap2, cp2, vs2⟩ := a2
        obtain ⟨hgg0, hgg1, hgg2, hgg3⟩ := HW.out.g_ge
        dsimp only at hgg1 hgg2 hgg3
        have q4 := HW.out.blk.cells 4 _ rfl
        obtain ⟨cg, fg⟩ := HW.out.g_at hx
        dsimp only at q4 cg fg
        obtain ⟨z, hz⟩ : ∃ z, S2.gone x = z := ⟨_, rfl⟩
        have hzl : z ≤ 1048576 := by have h1 := HGO.out; rw [hz] at h1; omega
        have hzl2 : z < (eds EL x).length := by rw [HLE.out, ← hz, HGO.out]; exact hgs
        have HZT : Hid (z < (eds EL x).length ∧ ∀ h : z < (eds EL x).length, (eds EL x)[z] = t) := Lib.hid ⟨hzl2, fun h => by
          have e1 : (eds EL x)[z]? = some t := by rw [HLE.out, ← hz, HGO.out, List.getElem?_eq_getElem hgs, ht]
          exact (List.getElem_eq_iff h).mpr e1⟩
        rw [hz] at cg
        have HZ := Lib.hid hz
        have HW3 : Hid (WkIn (wr.setCell ⟨gg2, x, none⟩ (.int .i64 ((z : Int) + 1))) B g EL n (S2.go x) _ ρ2) := Lib.hid (by
          have := HW.out.gone (v := x) (k := z + 1) (z := (z : Int) + 1) (by omega)
          dsimp only at this
          rw [← hz] at this
          unfold Wk.go
          rw [← hz]
          exact this)
        have X3 := Lib.hid (HX2.out.setCell (p := ⟨gg2, x, none⟩) hgg3 (.int .i64 ((z : Int) + 1)))
        clear hz hc hbd hgs ht hzl2
        go_upto_region 7 with fail
        generalize wr.setCell ⟨gg2, x, none⟩ (.int .i64 ((z : Int) + 1)) = w3 at *
        clear c0 q4 cg fg
        have q0 := HW3.out.blk.cells 0 _ rfl
        dsimp only at q0
        by_cases htn : 0 ≤ t ∧ t < n
        rotate_left
        · have HSN := Lib.hid (snode_any E2 n ce2 t w3 false (by rw [Bool.eq_false_iff]; simpa using htn))
          have HTN := Lib.hid htn
          clear htn
          go_wp2_with (go_at_call 37; go_loud (refine HSN.out.mono ?_); rintro e w4 ⟨rfl, hb⟩; have H4 := Lib.hid hb; clear hb)
          go_roundg (gk - 1)
          case measure => omega
          case rel =>
            refine ⟨s + 1, by omega, by go_num, Lib.hid ⟨S2.go x, _, _, HW3.out.keep H4.out, ?_, HWY.out, HPL.out, ?_⟩, Lib.hid (X3.out.trans (H4.out.mono HW3.out.size))⟩
            · refine HT2.out.gone_none (by rw [HWY.out, HWE.out]; simp) (by rw [HZ.out]; exact HZT.out.1) (fun u hu e => HTN.out ?_)
              have e2 : (eds EL x)[S2.gone x]'(by rw [HZ.out]; exact HZT.out.1) = t := (List.getElem_eq_iff _).mpr (by rw [HZ.out]; exact (List.getElem_eq_iff HZT.out.1).mp (HZT.out.2 HZT.out.1))
              omega
            · have e : (S2.go x).gone x = S2.gone x + 1 := upd_at _ _ _
              rw [e, HGO.out]
              omega
        obtain ⟨t0, t1⟩ := htn
        obtain ⟨tn, rfl⟩ := Int.eq_ofNat_of_zero_le t0
        have htn : tn < n := by omega
        have HSN := Lib.hid (snode_any E2 n ce2 (tn : Int) w3 true (by rw [decide_eq_true t0, decide_eq_true t1]; rfl))
        clear t0 t1
        go_upto_region 8 with (go_at_call 37; go_loud (refine HSN.out.mono ?_); rintro e w4 ⟨rfl, hb⟩; have H4 := Lib.hid hb; clear hb)
        have HW4 := Lib.hid (HW3.out.keep H4.out)
        have X4 := Lib.hid (X3.out.trans (H4.out.mono HW3.out.size))
        clear q0 HW3 X3 H4 HSN
        have q2 := HW4.out.blk.cells 2 _ rfl
        obtain ⟨cp, _⟩ := HW4.out.p_at htn
        replace cp : w4.cell? ⟨gp2, tn, none⟩ = some (.int .i64 (S2.place tn : Int)) := cp
        dsimp only at q2
        have HEQ : Hid (∃ h : S2.gone x < (eds EL x).length, (eds EL x)[S2.gone x] = (tn : Int)) := Lib.hid ⟨by rw [HZ.out]; exact HZT.out.1, (List.getElem_eq_iff _).mpr (by rw [HZ.out]; exact (List.getElem_eq_iff HZT.out.1).mp (HZT.out.2 HZT.out.1))⟩
        have hxw2 : x ∈ S2.way := by rw [HWY.out, HWE.out]; simp
        have HXW := Lib.hid hxw2
        clear hxw2
        obtain ⟨pt, hpt⟩ : ∃ z, S2.place tn = z := ⟨_, rfl⟩
        rw [hpt] at cp
        have HPT := Lib.hid hpt
        clear hpt
        by_cases h0 : pt = 0
        · have hcmp : ((pt : Int) == 0) = true := by simpa using h0
          have HMT := Lib.hid (smeet_any B g n tn EL (S2.go x) _ ρ2 w4 HW4.out htn (by show S2.met < n; exact HT2.out.met_lt htn (by rw [HPT.out]; exact h0)) (by show S2.way.length ≤ n; exact HT2.out.lens.1) (by show S2.opn.length ≤ n; exact HT2.out.lens.2.1))
          have HNEW : Hid (Tar EL n ((S2.go x).meet tn) ∧ todo n ((S2.go x).meet tn) < todo n S2) := Lib.hid (by
            obtain ⟨h1, h2⟩ := HEQ.out
            exact HT2.out.gone_new (W := W) (by rw [HWY.out, HWE.out]) h1 htn (by rw [HPT.out]; exact h0) h2)
          have HTD : Hid (todo n S2 = todo n S1) := Lib.hid (by unfold todo; rw [HPL.out, HWY.out])
          clear h0
          go_wp2_with (go_at_call 58; go_loud (refine HMT.out.mono ?_); rintro e w5 ⟨rfl, hm5, hb⟩; have HM5 := Lib.hid hm5; have X5 := Lib.hid (X4.out.trans hb); clear hm5 hb)
          go_roundg (R - 1)
          case measure => have h1 := HNEW.out.2; have h2 := HTD.out; have h3 := HK.out; omega
          case rel =>
            obtain ⟨a5, ρ5, hm5⟩ := HM5.out
            refine ⟨Lib.hid ⟨_, a5, ρ5, hm5, HNEW.out.1, fun y hy => Tar.met_all (S := S2.go x) (by show 0 < S2.place y; rw [HPL.out]; exact HP.out y hy), Tar.met_all (S := S2.go x) (by show 0 < S2.place v; rw [HPL.out]; exact HPv.out), ?_⟩, Lib.hid (HX.out.trans X5.out)⟩
            have h1 := HNEW.out.2
            have h2 := HTD.out
            have h3 := HK.out
            omega
        · have hcmp : ((pt : Int) == 0) = false := by simpa using h0
          have HOLD : Hid (Tar EL n ((S2.lower x (min (S2.back x) (S2.back tn))).go x)) := Lib.hid (by
            obtain ⟨h1, h2⟩ := HEQ.out
            exact HT2.out.gone_old (by show (n : Int) ≤ 9223372036854775807; omega) HXW.out h1 htn (by rw [HPT.out]; omega) h2)
          have hp0 : ¬ (pt : Int) = 0 := by omega
          go_wp2_with fail
          have q3 := HW4.out.blk.cells 3 _ rfl
          obtain ⟨cb, fb⟩ := HW4.out.b_at hx
          obtain ⟨ct, _⟩ := HW4.out.b_at htn
          replace cb : w4.cell? ⟨gb2, x, none⟩ = some (.int .i64 (S2.back x)) := cb
          replace ct : w4.cell? ⟨gb2, tn, none⟩ = some (.int .i64 (S2.back tn)) := ct
          dsimp only at q3 fb
          go_region
          go_wp2_with fail
          go_roundg (gk - 1)
          case measure => omega
          case rel =>
            have HW5 := (HW4.out.back (v := x) (k := min (S2.back x) (S2.back tn))).keep (Below.refl _ _).drew
            refine ⟨s + 1, by omega, by go_num, Lib.hid ⟨(S2.lower x (min (S2.back x) (S2.back tn))).go x, _, _, HW5, HOLD.out, HWY.out, HPL.out, ?_⟩, Lib.hid (X4.out.setCell (p := ⟨gb2, x, none⟩) hgg2 _).drew⟩
            have e : ((S2.lower x (min (S2.back x) (S2.back tn))).go x).gone x = S2.gone x + 1 := upd_at _ _ _
            rw [e, HGO.out]
            omega
end Go.Proofs.Ytefgepppcmhphaa
