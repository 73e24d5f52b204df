/-
  The statement on operands that fit where others do (FlowFits), walked: it answers true at any image, place and operands.
-/
import Derived.Test.YtndacljmcofopaaM47
import Derived.IntWalk
import Derived.RegionTactic
import Derived.ChangeAlike
import Derived.Deep.RegionHeld3
import Derived.Deep.QuietTactic
import Derived.BigQuiet
namespace Go.Proofs.Ytndacljmcofopaa
set_option maxRecDepth 100000
set_option linter.unusedVariables false
set_option linter.unusedSimpArgs false
open Go.ChangeShapes Go.WideShapes Go.ChangeAt Go.RowKit
set_option linter.unusedVariables false
set_option linter.unusedSimpArgs false

set_option maxHeartbeats 6400000 in
theorem flowFits_any (m : Img) (h : Hnd) (a1 a2 : Int) (la lb : List (Int × Int)) (A B : Option Addr) (cap capb : Nat) (w : World) (c10 : 0 ≤ a1) (c11 : a1 ≤ 255) (c20 : 0 ≤ a2) (c21 : a2 ≤ 255) (H : ImgIn w w.heap.size h m)
    (hla : SlcIs TyAt 2 w w.heap.size A cap la) (hlb : SlcIs TyAt 2 w w.heap.size B capb lb) :
    Calls Try.prog 6 #[imgV h m, .int .u8 a1, .int .u8 a2, .slice A la.length cap, .slice B lb.length capb] w fun e w' => e = .returned (.bool true) ∧ Below w.heap.size w w' := by
  have HW := Lib.hid (below_box (w := w) (h := h) (m := m))
  have HBX := Lib.hid (img_box w h m)
  have HZ : Hid (w.heap.size < (w.alloc (imgO h m)).heap.size) := Lib.hid (by simp)
  have HI := Lib.hid (H.now HW.out)
  obtain ⟨r, hr⟩ : ∃ r, saneB8 m = r := ⟨_, rfl⟩
  have HR := Lib.hid hr
  have hle := H.methods.le
  have hcap := H.methods.cap
  have hl1 := hla.le
  have hl2 := hla.cap
  have hl3 := hlb.le
  have hl4 := hlb.cap
  have HS0 := Lib.hid (slcNow TyAt.keeps hla HW.out)
  have HT0 := Lib.hid (slcNow TyAt.keeps hlb HW.out)
  clear H hr hla hlb
  go_enter Try.func6, Try.ntmps6
  go_upto_region 1 with fail
  generalize w.alloc (imgO h m) = w1 at *
  obtain ⟨q0, q1, q2, q3, q4, q5, q6⟩ := HBX.out
  have HX : Hid (Below w1.heap.size w1 w1) := Lib.hid (Below.refl _ _)
  cases r
  · go_wp2_with (first | (go_at_call 7; (with_reducible refine (sane8_is HI HX HR).mono ?_); rintro e w7 ⟨rfl, hb⟩; have HX := Lib.hid (HX.out.trans (hb.mono HX.out.size)); clear hb; obtain ⟨q0, q1, q2, q3, q4, q5, q6⟩ := HBX.out.keep HX.out HZ.out) | (go_at_call 8; (with_reducible refine (flowAwake_any _).mono ?_); rintro e w8 ⟨rfl, hb⟩; have HX := Lib.hid (HX.out.trans (hb.mono HX.out.size)); clear hb; obtain ⟨q0, q1, q2, q3, q4, q5, q6⟩ := HBX.out.keep HX.out HZ.out))
    go_ret
    exact ⟨by first | rfl | simp, HW.out.trans (HX.out.mono (Nat.le_of_lt HZ.out))⟩
  have HM := Lib.hid (saneB8_yes HR.out)
  by_cases hz : m.methods.length = 0
  · have ht : ((m.methods.length : Int) == 0) = true := beq_iff_eq.mpr (by omega)
    clear hz
    go_wp2_with (first | (go_at_call 7; (with_reducible refine (sane8_is HI HX HR).mono ?_); rintro e w7 ⟨rfl, hb⟩; have HX := Lib.hid (HX.out.trans (hb.mono HX.out.size)); clear hb; obtain ⟨q0, q1, q2, q3, q4, q5, q6⟩ := HBX.out.keep HX.out HZ.out) | (go_at_call 8; (with_reducible refine (flowAwake_any _).mono ?_); rintro e w8 ⟨rfl, hb⟩; have HX := Lib.hid (HX.out.trans (hb.mono HX.out.size)); clear hb; obtain ⟨q0, q1, q2, q3, q4, q5, q6⟩ := HBX.out.keep HX.out HZ.out))
    go_ret
    exact ⟨by first | rfl | simp, HW.out.trans (HX.out.mono (Nat.le_of_lt HZ.out))⟩
  by_cases hlen : la.length = lb.length
  rotate_left
  · have ht : ((m.methods.length : Int) == 0) = false := beq_eq_false_iff_ne.mpr (by omega)
    have hnl : ((la.length : Int) != (lb.length : Int)) = true := bne_iff_ne.mpr (by omega)
    clear hlen
    go_wp2_with (first | (go_at_call 7; (with_reducible refine (sane8_is HI HX HR).mono ?_); rintro e w7 ⟨rfl, hb⟩; have HX := Lib.hid (HX.out.trans (hb.mono HX.out.size)); clear hb; obtain ⟨q0, q1, q2, q3, q4, q5, q6⟩ := HBX.out.keep HX.out HZ.out) | (go_at_call 8; (with_reducible refine (flowAwake_any _).mono ?_); rintro e w8 ⟨rfl, hb⟩; have HX := Lib.hid (HX.out.trans (hb.mono HX.out.size)); clear hb; obtain ⟨q0, q1, q2, q3, q4, q5, q6⟩ := HBX.out.keep HX.out HZ.out))
    go_ret
    exact ⟨by first | rfl | simp, HW.out.trans (HX.out.mono (Nat.le_of_lt HZ.out))⟩
  have HLN := Lib.hid hlen
  replace hlen : lb.length = la.length := hlen.symm
  rw [hlen]
  by_cases h5 : 8 < la.length
  · have ht : ((m.methods.length : Int) == 0) = false := beq_eq_false_iff_ne.mpr (by omega)
    have i50 : (la.length : Int) > 8 := by omega
    go_wp2_with (first | (go_at_call 7; (with_reducible refine (sane8_is HI HX HR).mono ?_); rintro e w7 ⟨rfl, hb⟩; have HX := Lib.hid (HX.out.trans (hb.mono HX.out.size)); clear hb; obtain ⟨q0, q1, q2, q3, q4, q5, q6⟩ := HBX.out.keep HX.out HZ.out) | (go_at_call 8; (with_reducible refine (flowAwake_any _).mono ?_); rintro e w8 ⟨rfl, hb⟩; have HX := Lib.hid (HX.out.trans (hb.mono HX.out.size)); clear hb; obtain ⟨q0, q1, q2, q3, q4, q5, q6⟩ := HBX.out.keep HX.out HZ.out))
    go_ret
    exact ⟨by first | rfl | simp, HW.out.trans (HX.out.mono (Nat.le_of_lt HZ.out))⟩
  have i50 : ¬ (la.length : Int) > 8 := by omega
  have hs50 : la.length ≤ 1000 := by omega
  have hs51 : lb.length ≤ 1000 := by omega
  have hn := HM.out.fits.cl
  have hcl : m.classes.length ≤ 1000 := by omega
  clear hn
  have hnp : 0 < m.methods.length := by omega
  have ht : ((m.methods.length : Int) == 0) = false := beq_eq_false_iff_ne.mpr (by omega)
  clear hz
  obtain ⟨G, hG, e1, e2⟩ := mod_in8 (a := a1) c10 hnp
  obtain ⟨x, hx⟩ : ∃ x, m.methods[G]? = some x := ⟨_, List.getElem?_eq_getElem hG⟩
  have hxm := HM.out.method (List.mem_of_getElem? hx)
  have hcp := hxm.cp
  obtain ⟨P, hP, e3, e4⟩ := mod_in8 (a := a2) c20 hcp
  obtain ⟨⟨op, a, b⟩, hi⟩ : ∃ i, x.code[P]? = some i := ⟨_, List.getElem?_eq_getElem hP⟩
  have him := List.mem_of_getElem? hi
  have HGX := Lib.hid hx
  have HFI := Lib.hid hi
  have HNA := Lib.hid (And.intro (hxm.fits.ct _ him) (hxm.co _ him))
  have ht2 : ((x.code.length : Int) == 0) = false := beq_eq_false_iff_ne.mpr (by omega)
  obtain ⟨ad, ad2, j4, ea, hab, hab2, hj0, hj1, hc4, hi0, hi1, hi2⟩ := img_ins HI.out hx hi
  obtain ⟨A0, A1, A2, A3, A4, k0, k1, k2, k3, k4⟩ := h
  dsimp only at ea hle hcap q0 q1 q2 q3 q4
  subst ea
  have hle2 : m.methods.length ≤ 9223372036854775807 := by omega
  have hcl2 : x.code.length ≤ 9223372036854775807 := by omega
  have HK : Hid (∀ W, Below w1.heap.size w1 W → (fun w' => w'.cell? ⟨w.heap.size, 0, none⟩ = some (.slice A0 m.classes.length k0) ∧ w'.cell? ⟨w.heap.size, 1, none⟩ = some (.slice A1 m.statics.length k1) ∧ w'.cell? ⟨w.heap.size, 2, none⟩ = some (.slice A2 m.ints.length k2) ∧ w'.cell? ⟨w.heap.size, 3, none⟩ = some (.slice (some ad) m.methods.length k3) ∧ w'.cell? ⟨w.heap.size, 4, none⟩ = some (.slice A4 m.entries.length k4) ∧ w'.cell? ⟨w.heap.size, 5, none⟩ = some (.int .i64 m.stack) ∧ w'.cell? ⟨w.heap.size, 6, none⟩ = some (.int .i64 m.heap) ∧ w'.cell? (off_ (ad.add (G * 8)) 4) = some (.slice (some ad2) x.code.length j4) ∧ w'.cell? (ad2.add (P * 3)) = some (.int .i64 op) ∧ w'.cell? (off_ (ad2.add (P * 3)) 1) = some (.int .i64 a) ∧ w'.cell? (off_ (ad2.add (P * 3)) 2) = some (.int .i64 b)) W) := Lib.hid (fun W hW => by
    obtain ⟨d0, d1, d2, d3, d4, d5, d6⟩ := HBX.out.keep hW HZ.out
    exact ⟨d0, d1, d2, d3, d4, d5, d6, (hW.cell (p := off_ (ad.add (G * 8)) 4) (by show (ad.add _).block < _; rw [addr_add_block]; exact hab)).trans hc4, (hW.cell (p := ad2.add (P * 3)) (by rw [addr_add_block]; exact hab2)).trans hi0,
      (hW.cell (p := off_ (ad2.add (P * 3)) 1) (by show (ad2.add _).block < _; rw [addr_add_block]; exact hab2)).trans hi1, (hW.cell (p := off_ (ad2.add (P * 3)) 2) (by show (ad2.add _).block < _; rw [addr_add_block]; exact hab2)).trans hi2⟩)
  clear hx hi him hxm hc4 hi0 hi1 hi2 q0 q1 q2 q3 q4 q5 q6
  obtain ⟨q0, q1, q2, q3, q4, q5, q6, c4, i0, i1, i2⟩ := HK.out _ HX.out
  obtain ⟨⟨L1, N1, er1⟩, hs1⟩ : ∃ s, stepOf m G P la = s := ⟨_, rfl⟩
  obtain ⟨⟨L2, N2, er2⟩, hs2⟩ : ∃ s, stepOf m G P lb = s := ⟨_, rfl⟩
  have HRS1 := Lib.hid hs1
  have HRS2 := Lib.hid hs2
  have HFIT : Hid (FitsAll (supsOf m.classes) la lb → er2 = 0 → er1 = 0 ∧ N1 = N2 ∧ FitsAll (supsOf m.classes) L1 L2) := Lib.hid (fun g he => by
    have h1 := stepOf_fits (m := m) (f := (G : Int)) (pc := (P : Int)) HM.out g (by rw [hs2]; exact he)
    rw [hs1, hs2] at h1
    exact h1)
  have HE := Lib.hid (And.intro e1 (And.intro e2 (And.intro e3 e4)))
  clear hs1 hs2 e1 e2 e3 e4
  go_wp2_with (go_at_call 7; (with_reducible refine (sane8_is HI HX HR).mono ?_); rintro e w7 ⟨rfl, hb⟩; have HX := Lib.hid (HX.out.trans (hb.mono HX.out.size)); clear hb; obtain ⟨q0, q1, q2, q3, q4, q5, q6, c4, i0, i1, i2⟩ := HK.out _ HX.out)
  clear q0 q1 q2 q3 q4 q5 q6 c4 i0 i1 i2
  go_loopw [11] (fun i wr => ∃ k : Nat, k ≤ la.length ∧ i = .int .i64 k ∧ Hid (∀ j (h1 : j < la.length) (h2 : j < lb.length), j < k → subB (supsOf m.classes) la[j].1 la[j].2 lb[j].1 lb[j].2 = true) ∧ Hid (Below w1.heap.size w1 wr)) (fun i _ => la.length - (intOf i).toNat)
  case atStart => exact ⟨0, Nat.zero_le _, rfl, Lib.hid (fun j _ _ h => by omega), HX⟩
  case round =>
    clear HX
    obtain ⟨k, hk, rfl, HA, HX⟩ := hrel
    by_cases hlt : k < la.length
    · have hltm : k < lb.length := by omega
      obtain ⟨ad3, rfl, hab3, s0, s1⟩ := HS0.out.row.at_ hlt
      obtain ⟨ad4, rfl, hab4, t0, t1⟩ := HT0.out.row.at_ hltm
      have HNX : Hid (∀ v, subB (supsOf m.classes) la[k].1 la[k].2 lb[k].1 lb[k].2 = v → v = true → ∀ j (h1 : j < la.length) (h2 : j < lb.length), j < k + 1 → subB (supsOf m.classes) la[j].1 la[j].2 lb[j].1 lb[j].2 = true) := Lib.hid (fun v hv g j h1 h2 hj => by
        rcases Nat.lt_or_ge j k with q | q
        · exact HA.out j h1 h2 q
        · obtain rfl : j = k := by omega
          rw [hv, g])
      obtain ⟨v, hv⟩ : ∃ v, subB (supsOf m.classes) la[k].1 la[k].2 lb[k].1 lb[k].2 = v := ⟨_, rfl⟩
      have HV := Lib.hid hv
      have HNX : Hid (v = true → ∀ j (h1 : j < la.length) (h2 : j < lb.length), j < k + 1 → subB (supsOf m.classes) la[j].1 la[j].2 lb[j].1 lb[j].2 = true) := Lib.hid (HNX.out v hv)
      clear hv
      generalize la[k] = t at *
      generalize lb[k] = u at *
      have HK5 : Hid (∀ W, Below w1.heap.size w1 W → (fun w' => w'.cell? ⟨w.heap.size, 0, none⟩ = some (.slice A0 m.classes.length k0) ∧ w'.cell? (ad3.add (k * 2)) = some (.int .i64 t.1) ∧ w'.cell? (off_ (ad3.add (k * 2)) 1) = some (.int .i64 t.2) ∧ w'.cell? (ad4.add (k * 2)) = some (.int .i64 u.1) ∧ w'.cell? (off_ (ad4.add (k * 2)) 1) = some (.int .i64 u.2)) W) := Lib.hid (fun W hW => by
        obtain ⟨d0, _⟩ := HK.out W hW
        exact ⟨d0, (hW.cell (p := ad3.add (k * 2)) (by rw [addr_add_block]; exact hab3)).trans s0, (hW.cell (p := off_ (ad3.add (k * 2)) 1) (by show (ad3.add _).block < _; rw [addr_add_block]; exact hab3)).trans s1,
          (hW.cell (p := ad4.add (k * 2)) (by rw [addr_add_block]; exact hab4)).trans t0, (hW.cell (p := off_ (ad4.add (k * 2)) 1) (by show (ad4.add _).block < _; rw [addr_add_block]; exact hab4)).trans t1⟩)
      clear s0 s1 t0 t1
      have HXD : Hid (Below w1.heap.size w1 wr.drew) := Lib.hid HX.out.drew
      cases v
      · go_wp2_with fail
        go_region_held3 (fun w' => w'.cell? ⟨w.heap.size, 0, none⟩ = some (.slice A0 m.classes.length k0) ∧ w'.cell? (ad3.add (k * 2)) = some (.int .i64 t.1) ∧ w'.cell? (off_ (ad3.add (k * 2)) 1) = some (.int .i64 t.2) ∧ w'.cell? (ad4.add (k * 2)) = some (.int .i64 u.1) ∧ w'.cell? (off_ (ad4.add (k * 2)) 1) = some (.int .i64 u.2)) (first | exact HK5.out _ HXD.out | exact HK5.out _ HX6.out) (first | (go_at_call 15; (with_reducible refine (sub_any_is HI HXD (Lib.hid hcl) HV).mono ?_); rintro e w6 ⟨rfl, hb⟩; have HX6 := Lib.hid (HXD.out.trans (hb.mono HXD.out.size)); clear hb))
        rename_i hHeld
        clear hHeld
        have HX := HX6
        go_wp2_with (go_at_call 8; (with_reducible refine (flowAwake_any _).mono ?_); rintro e w8 ⟨rfl, hb⟩; have HX := Lib.hid (HX.out.trans (hb.mono HX.out.size)); clear hb)
        go_ret
        exact ⟨by first | rfl | simp, HW.out.trans (HX.out.mono (Nat.le_of_lt HZ.out))⟩
      · go_wp2_with fail
        go_region_held3 (fun w' => w'.cell? ⟨w.heap.size, 0, none⟩ = some (.slice A0 m.classes.length k0) ∧ w'.cell? (ad3.add (k * 2)) = some (.int .i64 t.1) ∧ w'.cell? (off_ (ad3.add (k * 2)) 1) = some (.int .i64 t.2) ∧ w'.cell? (ad4.add (k * 2)) = some (.int .i64 u.1) ∧ w'.cell? (off_ (ad4.add (k * 2)) 1) = some (.int .i64 u.2)) (first | exact HK5.out _ HXD.out | exact HK5.out _ HX6.out) (first | (go_at_call 15; (with_reducible refine (sub_any_is HI HXD (Lib.hid hcl) HV).mono ?_); rintro e w6 ⟨rfl, hb⟩; have HX6 := Lib.hid (HXD.out.trans (hb.mono HXD.out.size)); clear hb))
        rename_i hHeld
        clear hHeld
        go_wp2_with fail
        go_roundw
        case rel => exact ⟨k + 1, by omega, by go_num, Lib.hid (HNX.out (by simp)), HX6⟩
        case measure => simp [intOf]; omega
    · have hfit : FitsAll (supsOf m.classes) la lb := ⟨HLN.out, fun j h1 h2 => HA.out j h1 h2 (by omega)⟩
      have HF1 := Lib.hid (HFIT.out hfit)
      have HSA := Lib.hid (slcNow TyAt.keeps HS0.out HX.out)
      have HSB := Lib.hid (slcNow TyAt.keeps HT0.out HX.out)
      obtain ⟨e1, e2, e3, e4⟩ := HE.out
      clear hfit
      obtain ⟨q0, q1, q2, q3, q4, q5, q6, c4, i0, i1, i2⟩ := HK.out _ HX.out
      go_upto_region 11 with (go_at_call 9; (with_reducible refine (fstep_mk HI HX HM (Lib.hid rfl) HSA hs50 HRS1).mono ?_); rintro e w8 ⟨A7, c7, A8, c8, rfl, hs7, hs8, hb⟩; have H7 := Lib.hid hs7; have H8 := Lib.hid hs8; clear hs7 hs8; have HX := Lib.hid (HX.out.trans (hb.mono HX.out.size)); have HSB := Lib.hid (slcNow TyAt.keeps HSB.out hb); clear hb; clear q0 q1 q2 q3 q4 q5 q6 c4 i0 i1 i2; obtain ⟨q0, q1, q2, q3, q4, q5, q6, c4, i0, i1, i2⟩ := HK.out _ HX.out)
      clear e1 e2 e3 e4
      go_upto_region 12 with (go_at_call 9; (with_reducible refine (fstep_mk HI HX HM (Lib.hid hlen) HSB hs50 HRS2).mono ?_); rintro e w9 ⟨A10, c10, A11, c11, rfl, hs10, hs11, hb⟩; have H10 := Lib.hid hs10; have H11 := Lib.hid hs11; clear hs10 hs11; have HX := Lib.hid (HX.out.trans (hb.mono HX.out.size)); have H7 := Lib.hid (slcNow TyAt.keeps H7.out hb); have H8 := Lib.hid (slcNow IntAt.keeps H8.out hb); clear hb; clear q0 q1 q2 q3 q4 q5 q6 c4 i0 i1 i2)
      by_cases he : er2 = 0
      rotate_left
      · have hne : (er2 != 0) = true := by simpa using he
        go_wp2_with (go_at_call 8; (with_reducible refine (flowAwake_any _).mono ?_); rintro e w8 ⟨rfl, hb⟩; have HX := Lib.hid (HX.out.trans (hb.mono HX.out.size)); clear hb)
        go_ret
        exact ⟨by first | rfl | simp, HW.out.trans (HX.out.mono (Nat.le_of_lt HZ.out))⟩
      subst he
      obtain ⟨rfl, rfl, hfa⟩ := HF1.out rfl
      have HFA := Lib.hid hfa
      have hll : L2.length = L1.length := hfa.1.symm
      have hm1 := H7.out.le
      have hm2 := H7.out.cap
      clear hfa
      rw [hll]
      go_wp2_with (go_at_call 12; (with_reducible refine (eqi_is H8 H11).mono ?_); rintro e w14 ⟨rfl, hb⟩; have HX := Lib.hid (HX.out.trans (hb.mono HX.out.size)); have H7 := Lib.hid (slcNow TyAt.keeps H7.out hb); have H10 := Lib.hid (slcNow TyAt.keeps H10.out hb); clear hb)
      go_loopw [20] (fun i wr => ∃ k : Nat, k ≤ L1.length ∧ i = .int .i64 k ∧ Hid (Below w1.heap.size w1 wr) ∧ Hid (Below w14.heap.size w14 wr)) (fun i _ => L1.length - (intOf i).toNat)
      case atStart => exact ⟨0, Nat.zero_le _, rfl, HX, Lib.hid (Below.refl _ _)⟩
      case round =>
        clear HX
        obtain ⟨k, hk, rfl, HX, HY⟩ := hrel
        by_cases hlt : k < L1.length
        · have hltm : k < L2.length := by omega
          obtain ⟨ad5, rfl, hab5, s0, s1⟩ := H7.out.row.at_ hlt
          obtain ⟨ad6, rfl, hab6, t0, t1⟩ := H10.out.row.at_ hltm
          have HV := Lib.hid (HFA.out.2 k hlt hltm)
          generalize L1[k] = t at *
          generalize L2[k] = u at *
          have HK6 : Hid (∀ W, Below w1.heap.size w1 W → Below w14.heap.size w14 W → (fun w' => w'.cell? ⟨w.heap.size, 0, none⟩ = some (.slice A0 m.classes.length k0) ∧ w'.cell? (ad5.add (k * 2)) = some (.int .i64 t.1) ∧ w'.cell? (off_ (ad5.add (k * 2)) 1) = some (.int .i64 t.2) ∧ w'.cell? (ad6.add (k * 2)) = some (.int .i64 u.1) ∧ w'.cell? (off_ (ad6.add (k * 2)) 1) = some (.int .i64 u.2)) W) := Lib.hid (fun W hV hW => by
            obtain ⟨d0, _⟩ := HK.out W hV
            exact ⟨d0, (hW.cell (p := ad5.add (k * 2)) (by rw [addr_add_block]; exact hab5)).trans s0, (hW.cell (p := off_ (ad5.add (k * 2)) 1) (by show (ad5.add _).block < _; rw [addr_add_block]; exact hab5)).trans s1,
              (hW.cell (p := ad6.add (k * 2)) (by rw [addr_add_block]; exact hab6)).trans t0, (hW.cell (p := off_ (ad6.add (k * 2)) 1) (by show (ad6.add _).block < _; rw [addr_add_block]; exact hab6)).trans t1⟩)
          clear s0 s1 t0 t1
          have HXD : Hid (Below w1.heap.size w1 wr.drew) := Lib.hid HX.out.drew
          have HYD : Hid (Below w14.heap.size w14 wr.drew) := Lib.hid HY.out.drew
          go_wp2_with fail
          go_region_held3 (fun w' => w'.cell? ⟨w.heap.size, 0, none⟩ = some (.slice A0 m.classes.length k0) ∧ w'.cell? (ad5.add (k * 2)) = some (.int .i64 t.1) ∧ w'.cell? (off_ (ad5.add (k * 2)) 1) = some (.int .i64 t.2) ∧ w'.cell? (ad6.add (k * 2)) = some (.int .i64 u.1) ∧ w'.cell? (off_ (ad6.add (k * 2)) 1) = some (.int .i64 u.2)) (first | exact HK6.out _ HXD.out HYD.out | exact HK6.out _ HX6.out HY6.out) (first | (go_at_call 15; (with_reducible refine (sub_any_is HI HXD (Lib.hid hcl) HV).mono ?_); rintro e w6 ⟨rfl, hb⟩; have HX6 := Lib.hid (HXD.out.trans (hb.mono HXD.out.size)); have HY6 := Lib.hid (HYD.out.trans (hb.mono HYD.out.size)); clear hb))
          rename_i hHeld
          clear hHeld
          go_wp2_with fail
          go_roundw
          case rel => exact ⟨k + 1, by omega, by go_num, HX6, HY6⟩
          case measure => simp [intOf]; omega
        · go_wp2_with (go_at_call 8; (with_reducible refine (flowAwake_any _).mono ?_); rintro e w8 ⟨rfl, hb⟩; have HX := Lib.hid (HX.out.trans (hb.mono HX.out.size)); clear hb)
          go_ret
          exact ⟨by first | rfl | simp, HW.out.trans (HX.out.mono (Nat.le_of_lt HZ.out))⟩
end Go.Proofs.Ytndacljmcofopaa
