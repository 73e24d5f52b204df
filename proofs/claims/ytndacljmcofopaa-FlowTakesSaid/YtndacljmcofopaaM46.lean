/-
  The statement on how many operands an instruction takes (FlowTakes), walked: it answers true at any image, place and operands.
-/
import Derived.Test.YtndacljmcofopaaM45
import Derived.IntWalk
import Derived.RegionTactic
import Derived.ChangeAlike
import Derived.Deep.RegionHeld3
import Derived.Deep.QuietTactic
import Derived.BigQuiet
namespace Go.Proofs.Ytndacljmcofopaa
set_option maxRecDepth 100000
set_option linter.unusedVariables false
set_option linter.unusedSimpArgs false
open Go.ChangeShapes Go.WideShapes Go.ChangeAt Go.RowKit
set_option linter.unusedVariables false
set_option linter.unusedSimpArgs false

set_option maxHeartbeats 6400000 in
theorem flowTakes_any (m : Img) (h : Hnd) (a1 a2 : Int) (st : List (Int × Int)) (A : Option Addr) (cap : Nat) (w : World) (c10 : 0 ≤ a1) (c11 : a1 ≤ 255) (c20 : 0 ≤ a2) (c21 : a2 ≤ 255) (H : ImgIn w w.heap.size h m) (hst : SlcIs TyAt 2 w w.heap.size A cap st) :
    Calls Try.prog 4 #[imgV h m, .int .u8 a1, .int .u8 a2, .slice A st.length cap] w fun e w' => e = .returned (.bool true) ∧ Below w.heap.size w w' := by
  have HW := Lib.hid (below_box (w := w) (h := h) (m := m))
  have HBX := Lib.hid (img_box w h m)
  have HZ : Hid (w.heap.size < (w.alloc (imgO h m)).heap.size) := Lib.hid (by simp)
  have HI := Lib.hid (H.now HW.out)
  obtain ⟨r, hr⟩ : ∃ r, saneB8 m = r := ⟨_, rfl⟩
  have HR := Lib.hid hr
  have hle := H.methods.le
  have hcap := H.methods.cap
  have hl1 := hst.le
  have hl2 := hst.cap
  have HS := Lib.hid (slcNow TyAt.keeps hst HW.out)
  clear H hr hst
  go_enter Try.func4, Try.ntmps4
  go_upto_region 1 with fail
  generalize w.alloc (imgO h m) = w1 at *
  obtain ⟨q0, q1, q2, q3, q4, q5, q6⟩ := HBX.out
  have HX : Hid (Below w1.heap.size w1 w1) := Lib.hid (Below.refl _ _)
  cases r
  · go_wp2_with (first | (go_at_call 7; (with_reducible refine (sane8_is HI HX HR).mono ?_); rintro e w7 ⟨rfl, hb⟩; have HX := Lib.hid (HX.out.trans (hb.mono HX.out.size)); have HS := Lib.hid (slcNow TyAt.keeps HS.out hb); clear hb; obtain ⟨q0, q1, q2, q3, q4, q5, q6⟩ := HBX.out.keep HX.out HZ.out) | (go_at_call 8; (with_reducible refine (flowAwake_any _).mono ?_); rintro e w8 ⟨rfl, hb⟩; have HX := Lib.hid (HX.out.trans (hb.mono HX.out.size)); clear hb; obtain ⟨q0, q1, q2, q3, q4, q5, q6⟩ := HBX.out.keep HX.out HZ.out))
    go_ret
    exact ⟨by first | rfl | simp, HW.out.trans (HX.out.mono (Nat.le_of_lt HZ.out))⟩
  have HM := Lib.hid (saneB8_yes HR.out)
  by_cases hz : m.methods.length = 0
  · have ht : ((m.methods.length : Int) == 0) = true := beq_iff_eq.mpr (by omega)
    clear hz
    go_wp2_with (first | (go_at_call 7; (with_reducible refine (sane8_is HI HX HR).mono ?_); rintro e w7 ⟨rfl, hb⟩; have HX := Lib.hid (HX.out.trans (hb.mono HX.out.size)); have HS := Lib.hid (slcNow TyAt.keeps HS.out hb); clear hb; obtain ⟨q0, q1, q2, q3, q4, q5, q6⟩ := HBX.out.keep HX.out HZ.out) | (go_at_call 8; (with_reducible refine (flowAwake_any _).mono ?_); rintro e w8 ⟨rfl, hb⟩; have HX := Lib.hid (HX.out.trans (hb.mono HX.out.size)); clear hb; obtain ⟨q0, q1, q2, q3, q4, q5, q6⟩ := HBX.out.keep HX.out HZ.out))
    go_ret
    exact ⟨by first | rfl | simp, HW.out.trans (HX.out.mono (Nat.le_of_lt HZ.out))⟩
  by_cases h50 : 50 < st.length
  · have ht : ((m.methods.length : Int) == 0) = false := beq_eq_false_iff_ne.mpr (by omega)
    have i50 : (st.length : Int) > 50 := by omega
    go_wp2_with (first | (go_at_call 7; (with_reducible refine (sane8_is HI HX HR).mono ?_); rintro e w7 ⟨rfl, hb⟩; have HX := Lib.hid (HX.out.trans (hb.mono HX.out.size)); have HS := Lib.hid (slcNow TyAt.keeps HS.out hb); clear hb; obtain ⟨q0, q1, q2, q3, q4, q5, q6⟩ := HBX.out.keep HX.out HZ.out) | (go_at_call 8; (with_reducible refine (flowAwake_any _).mono ?_); rintro e w8 ⟨rfl, hb⟩; have HX := Lib.hid (HX.out.trans (hb.mono HX.out.size)); clear hb; obtain ⟨q0, q1, q2, q3, q4, q5, q6⟩ := HBX.out.keep HX.out HZ.out))
    go_ret
    exact ⟨by first | rfl | simp, HW.out.trans (HX.out.mono (Nat.le_of_lt HZ.out))⟩
  have i50 : ¬ (st.length : Int) > 50 := by omega
  have hs50 : st.length ≤ 1000 := by omega
  have hnp : 0 < m.methods.length := by omega
  have ht : ((m.methods.length : Int) == 0) = false := beq_eq_false_iff_ne.mpr (by omega)
  clear hz
  obtain ⟨G, hG, e1, e2⟩ := mod_in8 (a := a1) c10 hnp
  obtain ⟨x, hx⟩ : ∃ x, m.methods[G]? = some x := ⟨_, List.getElem?_eq_getElem hG⟩
  have hxm := HM.out.method (List.mem_of_getElem? hx)
  have hcp := hxm.cp
  obtain ⟨P, hP, e3, e4⟩ := mod_in8 (a := a2) c20 hcp
  obtain ⟨⟨op, a, b⟩, hi⟩ : ∃ i, x.code[P]? = some i := ⟨_, List.getElem?_eq_getElem hP⟩
  have him := List.mem_of_getElem? hi
  have HGX := Lib.hid hx
  have HFI := Lib.hid hi
  have HNA := Lib.hid (And.intro (hxm.fits.ct _ him) (hxm.co _ him))
  have ht2 : ((x.code.length : Int) == 0) = false := beq_eq_false_iff_ne.mpr (by omega)
  obtain ⟨ad, ad2, j4, ea, hab, hab2, hj0, hj1, hc4, hi0, hi1, hi2⟩ := img_ins HI.out hx hi
  obtain ⟨A0, A1, A2, A3, A4, k0, k1, k2, k3, k4⟩ := h
  dsimp only at ea hle hcap q0 q1 q2 q3 q4
  subst ea
  have hle2 : m.methods.length ≤ 9223372036854775807 := by omega
  have hcl2 : x.code.length ≤ 9223372036854775807 := by omega
  have HK : Hid (∀ W, Below w1.heap.size w1 W → (fun w' => w'.cell? ⟨w.heap.size, 0, none⟩ = some (.slice A0 m.classes.length k0) ∧ w'.cell? ⟨w.heap.size, 1, none⟩ = some (.slice A1 m.statics.length k1) ∧ w'.cell? ⟨w.heap.size, 2, none⟩ = some (.slice A2 m.ints.length k2) ∧ w'.cell? ⟨w.heap.size, 3, none⟩ = some (.slice (some ad) m.methods.length k3) ∧ w'.cell? ⟨w.heap.size, 4, none⟩ = some (.slice A4 m.entries.length k4) ∧ w'.cell? ⟨w.heap.size, 5, none⟩ = some (.int .i64 m.stack) ∧ w'.cell? ⟨w.heap.size, 6, none⟩ = some (.int .i64 m.heap) ∧ w'.cell? (off_ (ad.add (G * 8)) 4) = some (.slice (some ad2) x.code.length j4) ∧ w'.cell? (ad2.add (P * 3)) = some (.int .i64 op) ∧ w'.cell? (off_ (ad2.add (P * 3)) 1) = some (.int .i64 a) ∧ w'.cell? (off_ (ad2.add (P * 3)) 2) = some (.int .i64 b)) W) := Lib.hid (fun W hW => by
    obtain ⟨d0, d1, d2, d3, d4, d5, d6⟩ := HBX.out.keep hW HZ.out
    exact ⟨d0, d1, d2, d3, d4, d5, d6, (hW.cell (p := off_ (ad.add (G * 8)) 4) (by show (ad.add _).block < _; rw [addr_add_block]; exact hab)).trans hc4, (hW.cell (p := ad2.add (P * 3)) (by rw [addr_add_block]; exact hab2)).trans hi0,
      (hW.cell (p := off_ (ad2.add (P * 3)) 1) (by show (ad2.add _).block < _; rw [addr_add_block]; exact hab2)).trans hi1, (hW.cell (p := off_ (ad2.add (P * 3)) 2) (by show (ad2.add _).block < _; rw [addr_add_block]; exact hab2)).trans hi2⟩)
  clear hx hi him hxm hc4 hi0 hi1 hi2 q0 q1 q2 q3 q4 q5 q6
  obtain ⟨q0, q1, q2, q3, q4, q5, q6, c4, i0, i1, i2⟩ := HK.out _ HX.out
  obtain ⟨n1, hn1⟩ : ∃ n, (wantsOf m x op a b).length = n := ⟨_, rfl⟩
  obtain ⟨TK, hTK⟩ : ∃ L, takeOf m x op a b = L := ⟨_, rfl⟩
  obtain ⟨GV, hGV⟩ : ∃ L, giveOf m x op a b = L := ⟨_, rfl⟩
  have HN1 := Lib.hid hn1
  have HTK := Lib.hid hTK
  have HGV := Lib.hid hGV
  have HWN : Hid (n1 = if op = 6 then 1 else TK.length) := Lib.hid (by rw [← hn1, ← hTK]; exact wants_len HM.out HGX.out HNA.out.1 HNA.out.2)
  have HFEW : Hid (st.length < n1 → (stepOf m G P st).err = 4) := Lib.hid (fun g => few_err HM.out HGX.out HFI.out (by rw [hn1]; exact g))
  clear hn1 hTK hGV
  go_upto_region 5 with (go_at_call 7; (with_reducible refine (sane8_is HI HX HR).mono ?_); rintro e w7 ⟨rfl, hb⟩; have HX := Lib.hid (HX.out.trans (hb.mono HX.out.size)); have HS := Lib.hid (slcNow TyAt.keeps HS.out hb); clear hb; obtain ⟨q0, q1, q2, q3, q4, q5, q6, c4, i0, i1, i2⟩ := HK.out _ HX.out)
  clear q0 q1 q2 q3 q4 q5 q6 c4 i0 i1 i2
  have HXD : Hid (Below w1.heap.size w1 w7.drew) := Lib.hid HX.out.drew
  go_region_held3 (fun w' => w'.cell? ⟨w.heap.size, 0, none⟩ = some (.slice A0 m.classes.length k0) ∧ w'.cell? ⟨w.heap.size, 1, none⟩ = some (.slice A1 m.statics.length k1) ∧ w'.cell? ⟨w.heap.size, 2, none⟩ = some (.slice A2 m.ints.length k2) ∧ w'.cell? ⟨w.heap.size, 3, none⟩ = some (.slice (some ad) m.methods.length k3) ∧ w'.cell? ⟨w.heap.size, 4, none⟩ = some (.slice A4 m.entries.length k4) ∧ w'.cell? ⟨w.heap.size, 5, none⟩ = some (.int .i64 m.stack) ∧ w'.cell? ⟨w.heap.size, 6, none⟩ = some (.int .i64 m.heap) ∧ w'.cell? (off_ (ad.add (G * 8)) 4) = some (.slice (some ad2) x.code.length j4) ∧ w'.cell? (ad2.add (P * 3)) = some (.int .i64 op) ∧ w'.cell? (off_ (ad2.add (P * 3)) 1) = some (.int .i64 a) ∧ w'.cell? (off_ (ad2.add (P * 3)) 2) = some (.int .i64 b)) (first | exact HK.out _ HXD.out | exact HK.out _ HX9.out) (first | (go_at_call 13; (with_reducible refine (fTakes_is HI HXD HM.out HGX HNA HN1).mono ?_); rintro e w9 ⟨rfl, hb⟩; have HX9 := Lib.hid (HXD.out.trans (hb.mono HXD.out.size)); have HS := Lib.hid (slcNow TyAt.keeps (slcDrew TyAt.keeps HS.out) hb); clear hb))
  rename_i hHeld
  clear hHeld
  have HXE : Hid (Below w1.heap.size w1 w9.drew) := Lib.hid HX9.out.drew
  go_wp2_with fail
  go_region_held3 (fun w' => w'.cell? ⟨w.heap.size, 0, none⟩ = some (.slice A0 m.classes.length k0) ∧ w'.cell? ⟨w.heap.size, 1, none⟩ = some (.slice A1 m.statics.length k1) ∧ w'.cell? ⟨w.heap.size, 2, none⟩ = some (.slice A2 m.ints.length k2) ∧ w'.cell? ⟨w.heap.size, 3, none⟩ = some (.slice (some ad) m.methods.length k3) ∧ w'.cell? ⟨w.heap.size, 4, none⟩ = some (.slice A4 m.entries.length k4) ∧ w'.cell? ⟨w.heap.size, 5, none⟩ = some (.int .i64 m.stack) ∧ w'.cell? ⟨w.heap.size, 6, none⟩ = some (.int .i64 m.heap) ∧ w'.cell? (off_ (ad.add (G * 8)) 4) = some (.slice (some ad2) x.code.length j4) ∧ w'.cell? (ad2.add (P * 3)) = some (.int .i64 op) ∧ w'.cell? (off_ (ad2.add (P * 3)) 1) = some (.int .i64 a) ∧ w'.cell? (off_ (ad2.add (P * 3)) 2) = some (.int .i64 b)) (first | exact HK.out _ HXE.out | exact HK.out _ HX10.out) (first | (go_at_call 14; (with_reducible refine (rrule_is HI HXE HM HGX HNA HTK HGV).mono ?_); rintro e w10 ⟨A5, c5, A6, c6, rfl, _, _, hb⟩; have HX10 := Lib.hid (HXE.out.trans (hb.mono HXE.out.size)); have HS := Lib.hid (slcNow TyAt.keeps (slcDrew TyAt.keeps HS.out) hb); clear hb))
  rename_i hHeld
  clear hHeld
  have HX := HX10
  obtain ⟨q0, q1, q2, q3, q4, q5, q6, c4, i0, i1, i2⟩ := HK.out _ HX.out
  obtain ⟨s, hs⟩ : ∃ s, stepOf m G P st = s := ⟨_, rfl⟩
  have HRS := Lib.hid hs
  have HFEW2 : Hid (st.length < n1 → s.err = 4) := Lib.hid (by rw [← hs]; exact HFEW.out)
  clear hs e1 e2 e3 e4
  by_cases h6 : op = 6
  · subst h6
    have hn1 : n1 = 1 := by rw [HWN.out, if_pos rfl]
    subst hn1
    by_cases hlt : st.length < 1
    · have hse : s.err = 4 := HFEW2.out hlt
      have hli : (st.length : Int) < ((1 : Nat) : Int) := by omega
      go_wp2_with (first | (go_at_call 9; (with_reducible refine (fstep_is HI HX HM (Lib.hid rfl) HS hs50 HRS).mono ?_); rintro e w11 ⟨A7, c7, A8, c8, rfl, _, _, hb⟩; have HX := Lib.hid (HX.out.trans (hb.mono HX.out.size)); have HS := Lib.hid (slcNow TyAt.keeps HS.out hb); clear hb) | (go_at_call 8; (with_reducible refine (flowAwake_any _).mono ?_); rintro e w8 ⟨rfl, hb⟩; have HX := Lib.hid (HX.out.trans (hb.mono HX.out.size)); clear hb))
      go_ret
      exact ⟨by first | rfl | simp, HW.out.trans (HX.out.mono (Nat.le_of_lt HZ.out))⟩
    · have hli : ¬ (st.length : Int) < ((1 : Nat) : Int) := by omega
      go_wp2_with (first | (go_at_call 9; (with_reducible refine (fstep_is HI HX HM (Lib.hid rfl) HS hs50 HRS).mono ?_); rintro e w11 ⟨A7, c7, A8, c8, rfl, _, _, hb⟩; have HX := Lib.hid (HX.out.trans (hb.mono HX.out.size)); have HS := Lib.hid (slcNow TyAt.keeps HS.out hb); clear hb) | (go_at_call 8; (with_reducible refine (flowAwake_any _).mono ?_); rintro e w8 ⟨rfl, hb⟩; have HX := Lib.hid (HX.out.trans (hb.mono HX.out.size)); clear hb))
      go_ret
      exact ⟨by first | rfl | simp, HW.out.trans (HX.out.mono (Nat.le_of_lt HZ.out))⟩
  · have e6 : (op == 6) = false := beq_eq_false_iff_ne.mpr h6
    have hn1 : n1 = TK.length := by rw [HWN.out, if_neg h6]
    subst hn1
    by_cases hlt : st.length < TK.length
    · have hse : s.err = 4 := HFEW2.out hlt
      have hli : (st.length : Int) < ((TK.length : Nat) : Int) := by omega
      go_wp2_with (first | (go_at_call 9; (with_reducible refine (fstep_is HI HX HM (Lib.hid rfl) HS hs50 HRS).mono ?_); rintro e w11 ⟨A7, c7, A8, c8, rfl, _, _, hb⟩; have HX := Lib.hid (HX.out.trans (hb.mono HX.out.size)); have HS := Lib.hid (slcNow TyAt.keeps HS.out hb); clear hb) | (go_at_call 8; (with_reducible refine (flowAwake_any _).mono ?_); rintro e w8 ⟨rfl, hb⟩; have HX := Lib.hid (HX.out.trans (hb.mono HX.out.size)); clear hb))
      go_ret
      exact ⟨by first | rfl | simp, HW.out.trans (HX.out.mono (Nat.le_of_lt HZ.out))⟩
    · have hli : ¬ (st.length : Int) < ((TK.length : Nat) : Int) := by omega
      go_wp2_with (first | (go_at_call 9; (with_reducible refine (fstep_is HI HX HM (Lib.hid rfl) HS hs50 HRS).mono ?_); rintro e w11 ⟨A7, c7, A8, c8, rfl, _, _, hb⟩; have HX := Lib.hid (HX.out.trans (hb.mono HX.out.size)); have HS := Lib.hid (slcNow TyAt.keeps HS.out hb); clear hb) | (go_at_call 8; (with_reducible refine (flowAwake_any _).mono ?_); rintro e w8 ⟨rfl, hb⟩; have HX := Lib.hid (HX.out.trans (hb.mono HX.out.size)); clear hb))
      go_ret
      exact ⟨by first | rfl | simp, HW.out.trans (HX.out.mono (Nat.le_of_lt HZ.out))⟩
end Go.Proofs.Ytndacljmcofopaa
