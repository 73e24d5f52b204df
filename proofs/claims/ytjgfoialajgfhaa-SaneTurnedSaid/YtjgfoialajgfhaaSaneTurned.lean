/-
  The statement on a sane image of which one instruction's numbers are turned (SaneTurned), walked: it answers true at any image, place and numbers.
-/
import Derived.Test.YtjgfoialajgfhaaSaneLaws
import Derived.Test.YtjgfoialajgfhaaCodeRow
import Derived.Deep.RegionHeld3
namespace Go.Proofs.Ytjgfoialajgfhaa
set_option maxRecDepth 100000
set_option linter.unusedVariables false
set_option linter.unusedSimpArgs false
open Go.ChangeShapes Go.WideShapes Go.ChangeAt Go.RowKit
set_option linter.unusedVariables false
set_option linter.unusedSimpArgs false

section
variable {m m' : Img} {h : Hnd} {w0 w : World} {r : Int} {ad : Addr} {n : Nat}
theorem check_n (HI : Hid (ImgIn w0 w0.heap.size h m')) (HX : Hid (Below w0.heap.size w0 w)) (HR : Hid (saneR m' = r)) (HA : Hid (h.A3 = some ad)) (HM : Hid (m'.classes = m.classes ∧ m'.statics = m.statics ∧ m'.ints = m.ints ∧ m'.methods.length = m.methods.length ∧ m'.entries = m.entries ∧ m'.stack = m.stack ∧ m'.heap = m.heap)) :
    Calls Try.prog 8 #[.agg #[.slice h.A0 m.classes.length h.c0, .slice h.A1 m.statics.length h.c1, .slice h.A2 m.ints.length h.c2, .slice (some ad) m.methods.length h.c3, .slice h.A4 m.entries.length h.c4, .int .i64 m.stack, .int .i64 m.heap]] w fun e w' => e = .returned (.int .i64 r) ∧ Below w.heap.size w w' := by
  have H := scheck_is HI HX HR
  unfold imgV at H
  rw [HA.out, HM.out.1, HM.out.2.1, HM.out.2.2.1, HM.out.2.2.2.1, HM.out.2.2.2.2.1, HM.out.2.2.2.2.2.1, HM.out.2.2.2.2.2.2] at H
  exact H
theorem rsane_n (HI : Hid (ImgIn w0 w0.heap.size h m')) (HX : Hid (Below w0.heap.size w0 w)) (HR : Hid (saneR m' = r)) (HA : Hid (h.A3 = some ad)) (HM : Hid (m'.classes = m.classes ∧ m'.statics = m.statics ∧ m'.ints = m.ints ∧ m'.methods.length = m.methods.length ∧ m'.entries = m.entries ∧ m'.stack = m.stack ∧ m'.heap = m.heap)) :
    Calls Try.prog 9 #[.agg #[.slice h.A0 m.classes.length h.c0, .slice h.A1 m.statics.length h.c1, .slice h.A2 m.ints.length h.c2, .slice (some ad) m.methods.length h.c3, .slice h.A4 m.entries.length h.c4, .int .i64 m.stack, .int .i64 m.heap]] w fun e w' => e = .returned (.int .i64 r) ∧ Below w.heap.size w w' := by
  have H := rsane_is HI HX HR
  unfold imgV at H
  rw [HA.out, HM.out.1, HM.out.2.1, HM.out.2.2.1, HM.out.2.2.2.1, HM.out.2.2.2.2.1, HM.out.2.2.2.2.2.1, HM.out.2.2.2.2.2.2] at H
  exact H
end
theorem sane_code {m : Img} {k : Nat} {x : Mth} (h : saneR m = 0) (hx : m.methods[k]? = some x) : 0 < x.code.length ∧ x.code.length ≤ 64 := by
  have hf : fitsB m = true := by
    cases hf : fitsB m with
    | true => rfl
    | false => rw [sane_not hf] at h; cases h
  have ho : okB m = true := by
    cases ho : okB m with
    | true => rfl
    | false => rw [sane_no hf ho] at h; cases h
  unfold okB at ho
  simp only [Bool.and_eq_true] at ho
  have h1 := List.all_eq_true.mp ho.2.2.1 x (List.mem_of_getElem? hx)
  unfold methodB at h1
  simp only [Bool.and_eq_true, decide_eq_true_eq] at h1
  have h2 := ((imgFits hf).mt x (List.mem_of_getElem? hx)).cl
  exact ⟨by have := h1.2.2.2.1; omega, h2⟩
theorem mod_at {a : Int} {n : Nat} (h0 : 0 ≤ a) (hn : 0 < n) : ∃ k, k < n ∧ a % (n : Int) = (k : Int) ∧ a.tmod (n : Int) = (k : Int) :=
  ⟨a.toNat % n, Nat.mod_lt _ hn, by rw [Int.natCast_emod, Int.toNat_of_nonneg h0], by rw [Int.tmod_eq_emod_of_nonneg h0, Int.natCast_emod, Int.toNat_of_nonneg h0]⟩

set_option maxHeartbeats 3200000 in
theorem saneTurned_any (m : Img) (h : Hnd) (f pc a b : Int) (w : World) (f0 : 0 ≤ f) (f1 : f ≤ 255) (p0 : 0 ≤ pc) (p1 : pc ≤ 255) (a0 : 0 ≤ a) (a1 : a ≤ 255) (b0 : 0 ≤ b) (b1 : b ≤ 255) (H : ImgIn w w.heap.size h m)
    (hfr : ∀ ad, h.A3 = some ad → ∀ j, j < m.methods.length * 8 → w.frozen? ⟨ad.block, ad.off + j, none⟩ = false) :
    Calls Try.prog 4 #[imgV h m, .int .u8 f, .int .u8 pc, .int .u8 a, .int .u8 b] w fun e w' => e = .returned (.bool true) ∧ Below w.heap.size w w' := by
  obtain ⟨i0, hi, hz0, hz1, hz2⟩ := info_partsK info_ins
  have HW := Lib.hid (below_box (w := w) (h := h) (m := m))
  have HBX := Lib.hid (img_box w h m)
  have HZ : Hid (w.heap.size < (w.alloc (imgO h m)).heap.size) := Lib.hid (by simp)
  have HI := Lib.hid (H.now HW.out)
  have HFR := Lib.hid hfr
  have HH := Lib.hid H
  obtain ⟨r, hr⟩ : ∃ r, saneR m = r := ⟨_, rfl⟩
  have HR := Lib.hid hr
  have l3 := H.methods.le
  have l3c := H.methods.cap
  clear H hr hfr
  go_enter Try.func4, Try.ntmps4
  go_upto_region 1 with fail
  generalize w.alloc (imgO h m) = w1 at *
  obtain ⟨q0, q1, q2, q3, q4, q5, q6⟩ := HBX.out
  have HX : Hid (Below w1.heap.size w1 w1) := Lib.hid (Below.refl _ _)
  by_cases hr0 : r = 0
  rotate_left
  · have ht : (r != 0) = true := bne_iff_ne.mpr hr0
    clear hr0
    go_wp2_with (first | (go_at_call 6; (with_reducible refine (small_is HI HX).mono ?_); rintro e w2 ⟨b, rfl, hb⟩; have HX := Lib.hid (HX.out.trans (hb.mono HX.out.size)); obtain ⟨q0, q1, q2, q3, q4, q5, q6⟩ := HBX.out.keep HX.out HZ.out; clear hb; cases b) | (go_at_call 9; (with_reducible refine (rsane_is HI HX HR).mono ?_); rintro e w7 ⟨rfl, hb⟩; have HX := Lib.hid (HX.out.trans (hb.mono HX.out.size)); obtain ⟨q0, q1, q2, q3, q4, q5, q6⟩ := HBX.out.keep HX.out HZ.out; clear hb) | (go_at_call 7; (with_reducible refine (saneAwake_any _).mono ?_); rintro e w7 ⟨rfl, hb⟩; have HX := Lib.hid (HX.out.trans (hb.mono HX.out.size)); obtain ⟨q0, q1, q2, q3, q4, q5, q6⟩ := HBX.out.keep HX.out HZ.out; clear hb))
    all_goals
      go_ret
      exact ⟨rfl, HW.out.trans (HX.out.mono (Nat.le_of_lt HZ.out))⟩
  subst hr0
  by_cases hn : m.methods.length = 0
  · have ht : ((m.methods.length : Int) == 0) = true := beq_iff_eq.mpr (by omega)
    clear hn
    go_wp2_with (first | (go_at_call 6; (with_reducible refine (small_is HI HX).mono ?_); rintro e w2 ⟨b, rfl, hb⟩; have HX := Lib.hid (HX.out.trans (hb.mono HX.out.size)); obtain ⟨q0, q1, q2, q3, q4, q5, q6⟩ := HBX.out.keep HX.out HZ.out; clear hb; cases b) | (go_at_call 9; (with_reducible refine (rsane_is HI HX HR).mono ?_); rintro e w7 ⟨rfl, hb⟩; have HX := Lib.hid (HX.out.trans (hb.mono HX.out.size)); obtain ⟨q0, q1, q2, q3, q4, q5, q6⟩ := HBX.out.keep HX.out HZ.out; clear hb) | (go_at_call 7; (with_reducible refine (saneAwake_any _).mono ?_); rintro e w7 ⟨rfl, hb⟩; have HX := Lib.hid (HX.out.trans (hb.mono HX.out.size)); obtain ⟨q0, q1, q2, q3, q4, q5, q6⟩ := HBX.out.keep HX.out HZ.out; clear hb))
    all_goals
      go_ret
      exact ⟨rfl, HW.out.trans (HX.out.mono (Nat.le_of_lt HZ.out))⟩
  have hnp : 0 < m.methods.length := by omega
  have ht : ((m.methods.length : Int) == 0) = false := beq_eq_false_iff_ne.mpr (by omega)
  clear hn
  obtain ⟨k, hk, e1, e2⟩ := mod_at f0 hnp
  obtain ⟨adm, e3, habm, hcm⟩ := HI.out.methods.row.at_ hk
  have HE3 := Lib.hid e3
  have HGX := Lib.hid (List.getElem?_eq_getElem hk)
  generalize m.methods[k] = x at *
  have HSC := Lib.hid (sane_code HR.out HGX.out)
  have HCM := Lib.hid hcm
  have HPM : Hid ((adm.add (k * 8)).block < w.heap.size) := Lib.hid (by
    obtain ⟨ad', e', hb', _⟩ := HH.out.methods.row k x HGX.out
    obtain rfl : adm = ad' := by rw [e3] at e'; injection e'
    rw [addr_add_block]; exact hb')
  have HPM1 : Hid ((adm.add (k * 8)).block < w1.heap.size) := Lib.hid (by rw [addr_add_block]; exact habm)
  obtain ⟨_, _, _, _, ⟨A4, k4, s4, hs4⟩, _, _, _⟩ := hcm
  have HS4 := Lib.hid hs4
  have HC4 := Lib.hid s4
  have l4 := hs4.le
  have l4c := hs4.cap
  have hxp := HSC.out.1
  have hxm := HSC.out.2
  clear e3 habm hs4 s4
  go_wp2_with (first | (go_at_call 6; (with_reducible refine (small_is HI HX).mono ?_); rintro e w2 ⟨b, rfl, hb⟩; have HX := Lib.hid (HX.out.trans (hb.mono HX.out.size)); obtain ⟨q0, q1, q2, q3, q4, q5, q6⟩ := HBX.out.keep HX.out HZ.out; clear hb; cases b) | (go_at_call 9; (with_reducible refine (rsane_is HI HX HR).mono ?_); rintro e w7 ⟨rfl, hb⟩; have HX := Lib.hid (HX.out.trans (hb.mono HX.out.size)); obtain ⟨q0, q1, q2, q3, q4, q5, q6⟩ := HBX.out.keep HX.out HZ.out; clear hb) | (go_at_call 7; (with_reducible refine (saneAwake_any _).mono ?_); rintro e w7 ⟨rfl, hb⟩; have HX := Lib.hid (HX.out.trans (hb.mono HX.out.size)); obtain ⟨q0, q1, q2, q3, q4, q5, q6⟩ := HBX.out.keep HX.out HZ.out; clear hb))
  · go_ret
    exact ⟨rfl, HW.out.trans (HX.out.mono (Nat.le_of_lt HZ.out))⟩
  rw [HE3.out] at q3
  have HD1 := Lib.hid e1
  have HD2 := Lib.hid e2
  go_quiet (fail)
  have HX := Lib.hid (below_drewN' HX.out nq)
  clear q0 q1 q2 q3 q4 q5 q6 e1 e2
  generalize w7.drewN nq = w2 at *
  obtain ⟨q0, q1, q2, q3, q4, q5, q6⟩ := HBX.out.keep HX.out HZ.out
  rw [HE3.out] at q3
  have s4 := (HX.out.cell (p := off_ (adm.add (k * 8)) 4) HPM1.out).trans HC4.out
  have HCL := Lib.hid (cod_lie (HS4.out.below_to CodeAt.keeps HX.out (Nat.le_refl _)).row)
  have HXS := Lib.hid HX.out.size
  have e7 := (World.cell?_alloc_lt w2 (.cells #[] 41) (off_ (adm.add (k * 8)) 4) (World.block_lt_of_cell? w2 _ s4)).trans s4
  go_upto_region 5 with (at_builtin; refine append_liesK rfl _ _ 36 rfl w2.heap.size 41 i0 (.agg #[.int .i64 0, .int .i64 0, .int .i64 0]) 3 24 Try.underlying36 hi hz0 hz1 hz2 rfl (by decide) _ 0 [] rfl (own_emptyK w2 _ 3) A4 x.code.length k4 _ (codV x.code) (codV_len _) rfl (lies_alloc HCL HXS _) (codV_one _) (by unfold maxLen; omega) (by omega) (by simp) ?_; intro v6 w6 hown hgrow; have HB6 := Lib.hid (appK_more ((Below.refl w2.heap.size w2).alloc (Nat.le_refl _) (.cells #[] 41)) (own_emptyK w2 41 3) (by simp) hgrow); have HO6 : Hid (w6.ownsRow w2.heap.size 41 3 v6 x.code.length (codV x.code)) := Lib.hid (by simpa using hown); clear hown hgrow)
  have HX := Lib.hid (HX.out.trans (HB6.out.mono HX.out.size))
  clear q0 q1 q2 q3 q4 q5 q6 s4 e7
  obtain ⟨q0, q1, q2, q3, q4, q5, q6⟩ := HBX.out.keep HX.out HZ.out
  rw [HE3.out] at q3
  have s4 := (HX.out.cell (p := off_ (adm.add (k * 8)) 4) HPM1.out).trans HC4.out
  rcases ownK_slice HO6.out with ⟨_, hz⟩ | ⟨g, c6, rfl, hc6, hc6m⟩
  · exact absurd hz (by omega)
  obtain ⟨j, hj, e4, e5⟩ := mod_at p0 hxp
  have HD4 := Lib.hid e4
  have HD5 := Lib.hid e5
  have hte : ((x.code.length : Int) == 0) = false := beq_eq_false_iff_ne.mpr (by omega)
  obtain ⟨t, ht⟩ : ∃ t, x.code[j]? = some t := ⟨_, List.getElem?_eq_getElem hj⟩
  have HTJ := Lib.hid ht
  have hw1 := (World.ownsRow.cellAt HO6.out (j * 3 + 1) (by omega)).trans (flat_get (f := codC) (k := 3) (fun _ => rfl) x.code j 1 t ht (by decide))
  have hw2 := (World.ownsRow.cellAt HO6.out (j * 3 + 2) (by omega)).trans (flat_get (f := codC) (k := 3) (fun _ => rfl) x.code j 2 t ht (by decide))
  have hf1 := World.ownsRow.frozenAt HO6.out (j * 3 + 1)
  have hf2 := World.ownsRow.frozenAt HO6.out (j * 3 + 2)
  simp only [codC, List.getElem?_cons_succ, List.getElem?_cons_zero] at hw1 hw2
  clear ht
  go_upto_region 7 with fail
  have HLN : Hid ((x.code.set j (t.1, a, b)).length = x.code.length) := Lib.hid List.length_set
  have ho7 := ((HO6.out.stored (j * 3 + 1) (.int .i64 a)).1.stored (j * 3 + 2) (.int .i64 b)).1
  rw [codV_set x.code j t a b HTJ.out, ← HLN.out] at ho7
  obtain ⟨hs7, hg7, hg7'⟩ := own_codeB ho7 (by rw [HLN.out]; exact hxp)
  have HX7 := Lib.hid ((HX.out.setCell (p := ⟨g, j * 3 + 1, none⟩) (Nat.le_trans HXS.out hg7) (.int .i64 a)).setCell (p := ⟨g, j * 3 + 2, none⟩) (Nat.le_trans HXS.out hg7) (.int .i64 b))
  have HS7 := Lib.hid hs7
  clear ho7 hs7 hg7 hg7' hw1 hw2 hf1 hf2 HX s4 q0 q1 q2 q3 q4 q5 q6 HO6 HB6 e4 e5
  generalize (w6.setCell ⟨g, j * 3 + 1, none⟩ (.int .i64 a)).setCell ⟨g, j * 3 + 2, none⟩ (.int .i64 b) = w3 at *
  generalize x.code.set j (t.1, a, b) = L at *
  have HX := HX7
  obtain ⟨q0, q1, q2, q3, q4, q5, q6⟩ := HBX.out.keep HX.out HZ.out
  rw [HE3.out] at q3
  have s4 := (HX.out.cell (p := off_ (adm.add (k * 8)) 4) HPM1.out).trans HC4.out
  have HFZ : Hid (w3.frozen? (off_ (adm.add (k * 8)) 4) = false) := Lib.hid (by
    rw [(HW.out.trans (HX7.out.mono (Nat.le_of_lt HZ.out))).frozen (p := off_ (adm.add (k * 8)) 4) HPM.out]
    have := HFR.out adm HE3.out (k * 8 + 4) (by omega)
    obtain ⟨eb, eo⟩ := add_block_off adm (k * 8)
    rw [show off_ (adm.add (k * 8)) 4 = ⟨adm.block, adm.off + (k * 8 + 4), none⟩ by simp only [Addr.mk.injEq]; exact ⟨eb, by omega, trivial⟩]
    exact this)
  have fz := HFZ.out
  go_upto_region 9 with fail
  have hin := img_code (A' := some ⟨g, 0, none⟩) (c := c6) (L := L) (HI.out.now HX7.out) HGX.out HE3.out s4 (Nat.le_refl _) (slc_kept HS7.out (Nat.le_refl _) (fun p t' _ q => ⟨int_kept s4 q.1, int_kept s4 q.2.1, int_kept s4 q.2.2⟩))
  rw [HLN.out] at hin
  have hne : (adm.add (k * 8)).block ≠ w.heap.size := Nat.ne_of_lt HPM.out
  have HBN : Hid (ImgBox (w3.setCell (off_ (adm.add (k * 8)) 4) (.slice (some ⟨g, 0, none⟩) x.code.length c6)) w.heap.size h m) := Lib.hid (by
    obtain ⟨u0, u1, u2, u3, u4, u5, u6⟩ := HBX.out.keep HX7.out HZ.out
    refine ⟨?_, ?_, ?_, ?_, ?_, ?_, ?_⟩ <;> (rw [World.cell?_setCell_far w3 _ _ _ hne]; assumption))
  have HZN : Hid (w.heap.size < (w3.setCell (off_ (adm.add (k * 8)) 4) (.slice (some ⟨g, 0, none⟩) x.code.length c6)).heap.size) := Lib.hid (by rw [World.size_setCell]; exact Nat.lt_of_lt_of_le HZ.out HX7.out.size)
  have HIN : Hid (ImgIn (w3.setCell (off_ (adm.add (k * 8)) 4) (.slice (some ⟨g, 0, none⟩) x.code.length c6)) (w3.setCell (off_ (adm.add (k * 8)) 4) (.slice (some ⟨g, 0, none⟩) x.code.length c6)).heap.size h { m with methods := m.methods.set k { x with code := L } }) := Lib.hid (by rw [World.size_setCell]; exact hin)
  have S7 := Lib.hid s4
  have S8 : Hid ((w3.setCell (off_ (adm.add (k * 8)) 4) (.slice (some ⟨g, 0, none⟩) x.code.length c6)).cell? (off_ (adm.add (k * 8)) 4) = some (.slice (some ⟨g, 0, none⟩) x.code.length c6)) := Lib.hid (World.cell?_setCell_same (h := s4) ..)
  have F8 : Hid ((w3.setCell (off_ (adm.add (k * 8)) 4) (.slice (some ⟨g, 0, none⟩) x.code.length c6)).frozen? (off_ (adm.add (k * 8)) 4) = false) := Lib.hid (by rw [World.frozen?_setCell]; exact HFZ.out)
  have P8 : Hid ((adm.add (k * 8)).block < (w3.setCell (off_ (adm.add (k * 8)) 4) (.slice (some ⟨g, 0, none⟩) x.code.length c6)).heap.size) := Lib.hid (Nat.lt_trans HPM.out HZN.out)
  obtain ⟨m', hm'⟩ : ∃ m' : Img, { m with methods := m.methods.set k { x with code := L } } = m' := ⟨_, rfl⟩
  have HLM : Hid (m'.classes = m.classes ∧ m'.statics = m.statics ∧ m'.ints = m.ints ∧ m'.methods.length = m.methods.length ∧ m'.entries = m.entries ∧ m'.stack = m.stack ∧ m'.heap = m.heap) := Lib.hid (by
    subst hm'
    exact ⟨rfl, rfl, rfl, List.length_set, rfl, rfl, rfl⟩)
  obtain ⟨r', hr'⟩ : ∃ r', saneR m' = r' := ⟨_, rfl⟩
  have HRN := Lib.hid hr'
  rw [hm'] at HIN
  obtain ⟨w8, hw8⟩ : ∃ w8, w3.setCell (off_ (adm.add (k * 8)) 4) (.slice (some ⟨g, 0, none⟩) x.code.length c6) = w8 := ⟨_, rfl⟩
  have HW8 := Lib.hid hw8
  rw [hw8] at HBN HZN HIN S8 F8 P8
  try rw [hw8]
  clear hin hne hr' hm' hw8 s4 fz q0 q1 q2 q3 q4 q5 q6
  have HY : Hid (Below w8.heap.size w8 w8.drew) := Lib.hid (Below.refl _ _).drew
  obtain ⟨q0, q1, q2, q3, q4, q5, q6⟩ := HBN.out
  rw [HE3.out] at q3
  go_region_held3 (fun w' => w'.cell? ⟨w.heap.size, 0, none⟩ = some (.slice h.A0 m.classes.length h.c0) ∧ w'.cell? ⟨w.heap.size, 1, none⟩ = some (.slice h.A1 m.statics.length h.c1) ∧ w'.cell? ⟨w.heap.size, 2, none⟩ = some (.slice h.A2 m.ints.length h.c2) ∧ w'.cell? ⟨w.heap.size, 3, none⟩ = some (.slice (some adm) m.methods.length h.c3) ∧ w'.cell? ⟨w.heap.size, 4, none⟩ = some (.slice h.A4 m.entries.length h.c4) ∧ w'.cell? ⟨w.heap.size, 5, none⟩ = some (.int .i64 m.stack) ∧ w'.cell? ⟨w.heap.size, 6, none⟩ = some (.int .i64 m.heap)) (first | exact ⟨q0, q1, q2, q3, q4, q5, q6⟩) (first | (go_at_call 8; (with_reducible refine (check_n HIN HY HRN HE3 HLM).mono ?_); rintro e w9 ⟨rfl, hb⟩; have HY := Lib.hid (HY.out.trans (hb.mono HY.out.size)); obtain ⟨q0, q1, q2, q3, q4, q5, q6⟩ := HBN.out.keep HY.out HZN.out; rw [HE3.out] at q3; clear hb) | (go_at_call 9; (with_reducible refine (rsane_n HIN HY HRN HE3 HLM).mono ?_); rintro e w9 ⟨rfl, hb⟩; have HY := Lib.hid (HY.out.trans (hb.mono HY.out.size)); obtain ⟨q0, q1, q2, q3, q4, q5, q6⟩ := HBN.out.keep HY.out HZN.out; rw [HE3.out] at q3; clear hb))
  all_goals
    have s9 := (HY.out.cell (p := off_ (adm.add (k * 8)) 4) P8.out).trans S8.out
    have f9 := (HY.out.frozen (p := off_ (adm.add (k * 8)) 4) P8.out).trans F8.out
    go_upto_region 11 with fail
    have hy := HY.out
    rw [← HW8.out] at hy
    have HX := Lib.hid (HX7.out.trans ((below_restore S7.out hy).mono HX7.out.size))
    obtain ⟨q0, q1, q2, q3, q4, q5, q6⟩ := HBX.out.keep HX.out HZ.out
    clear hy s9 f9
    go_wp2_with (go_at_call 7; (with_reducible refine (saneAwake_any _).mono ?_); rintro e w7 ⟨rfl, hb⟩; have HX := Lib.hid (HX.out.trans (hb.mono HX.out.size)); obtain ⟨q0, q1, q2, q3, q4, q5, q6⟩ := HBX.out.keep HX.out HZ.out; clear hb)
    go_ret
    exact ⟨rfl, HW.out.trans (HX.out.mono (Nat.le_of_lt HZ.out))⟩
end Go.Proofs.Ytjgfoialajgfhaa
