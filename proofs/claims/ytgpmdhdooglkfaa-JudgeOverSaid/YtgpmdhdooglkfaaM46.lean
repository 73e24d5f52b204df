/-
  Which images the laws of right types speak of (sane): as with the laws of a step.
  What judge's words for operands that may come to an instruction (under, comes) come to.
  What judge's word for a method's shapes that go on as they should (holds) comes to.
-/
import Derived.Test.YtgpmdhdooglkfaaM23
import Derived.Test.YtgpmdhdooglkfaaM41
import Derived.Test.YtgpmdhdooglkfaaM33
import Derived.Test.YtgpmdhdooglkfaaM01
import Derived.Test.YtgpmdhdooglkfaaM31
import Derived.Test.YtgpmdhdooglkfaaM42
namespace Go.Proofs.Ytgpmdhdooglkfaa
set_option maxRecDepth 100000
set_option linter.unusedVariables false
set_option linter.unusedSimpArgs false
open Go.ChangeShapes Go.WideShapes Go.ChangeAt Go.RowKit

set_option maxHeartbeats 1600000 in
theorem sane10_any (m : Img) (h : Hnd) (w : World) (H : ImgIn w w.heap.size h m) :
    Calls Try.prog 6 #[imgV h m] w fun e w' => e = .returned (.bool (saneB8 m)) ∧ Below w.heap.size w w' := by
  have HW := Lib.hid ((Below.refl w.heap.size w).alloc (Nat.le_refl _) (imgO h m))
  have HIM := Lib.hid (H.now HW.out)
  have HBX := Lib.hid (img_box w h m)
  have l0 := H.classes.le
  have l0c := H.classes.cap
  have l2 := H.ints.le
  have l2c := H.ints.cap
  have l3 := H.methods.le
  have l3c := H.methods.cap
  obtain ⟨r, hr⟩ : ∃ r, saneR m = r := ⟨_, rfl⟩
  have HR := Lib.hid hr
  have HE := Lib.hid (show saneB8 m = (decide (m.methods.length ≤ 12) && (decide (m.classes.length ≤ 8) && (decide (m.ints.length ≤ 16) && decide (r = 0)))) by rw [← hr]; rfl)
  clear H hr
  go_enter Try.func6, Try.ntmps6
  go_upto_region 1 with fail
  generalize w.alloc (imgO h m) = w1 at *
  obtain ⟨q0, q1, q2, q3, q4, q5, q6⟩ := HBX.out
  by_cases h3 : m.methods.length ≤ 12
  rotate_left
  · have i3 : ¬ (m.methods.length : Int) ≤ 12 := by omega
    go_wp2_with fail
    go_ret
    exact ⟨by rw [HE.out, decide_eq_false h3]; rfl, HW.out⟩
  have i3 : (m.methods.length : Int) ≤ 12 := by omega
  by_cases h0 : m.classes.length ≤ 8
  rotate_left
  · have i0 : ¬ (m.classes.length : Int) ≤ 8 := by omega
    go_wp2_with fail
    go_ret
    exact ⟨by rw [HE.out, decide_eq_false h0, Bool.false_and, Bool.and_false]; rfl, HW.out⟩
  have i0 : (m.classes.length : Int) ≤ 8 := by omega
  by_cases h2 : m.ints.length ≤ 16
  rotate_left
  · have i2 : ¬ (m.ints.length : Int) ≤ 16 := by omega
    go_wp2_with fail
    go_ret
    exact ⟨by rw [HE.out, decide_eq_false h2, Bool.false_and, Bool.and_false, Bool.and_false]; rfl, HW.out⟩
  have i2 : (m.ints.length : Int) ≤ 16 := by omega
  have HD := Lib.hid (show saneB8 m = decide (r = 0) by rw [HE.out, decide_eq_true h3, decide_eq_true h0, decide_eq_true h2, Bool.true_and, Bool.true_and, Bool.true_and])
  clear h3 h0 h2
  go_wp2_with (first | (go_at_call 14; (with_reducible refine (rsane_any m h w1 HIM.out).mono ?_); rintro e w' ⟨rfl, hb⟩; rw [HR.out]; have HX := Lib.hid (HW.out.trans (hb.mono HW.out.size)); clear hb))
  go_ret
  exact ⟨by rw [HD.out]; rfl, HX.out⟩
theorem sane10_is {m : Img} {h : Hnd} {w0 w : World} {r : Bool} (HI : Hid (ImgIn w0 w0.heap.size h m)) (HX : Hid (Below w0.heap.size w0 w)) (HR : Hid (saneB8 m = r)) :
    Calls Try.prog 6 #[imgV h m] w fun e w' => e = .returned (.bool r) ∧ Below w.heap.size w w' := by
  have H := sane10_any m h w (HI.out.now HX.out)
  rw [HR.out] at H
  exact H
end Go.Proofs.Ytgpmdhdooglkfaa
namespace Go.Proofs.Ytgpmdhdooglkfaa
set_option maxRecDepth 100000
set_option linter.unusedVariables false
set_option linter.unusedSimpArgs false
open Go.ChangeShapes Go.WideShapes Go.ChangeAt Go.RowKit
set_option linter.unusedVariables false
set_option linter.unusedSimpArgs false

def jitB (sup : List Int) (t u : Int × Int) : Bool := subB sup t.1 t.2 u.1 u.2
abbrev jitF (N : Nat) : Value := .func (.func 36) #[] #[.pointer (some ⟨N, 0, none⟩)]
theorem junder1_any (sup : List Int) (t0 t1 u0 u1 : Int) (A : Option Addr) (c N : Nat) (w : World) (hl : sup.length ≤ 1048576) (h : Supers w w.heap.size A sup) (hN : N < w.heap.size) (hc : w.cell? ⟨N, 0, none⟩ = some (.slice A sup.length c)) :
    Calls Try.prog 36 #[tyV t0 t1, tyV u0 u1, .pointer (some ⟨N, 0, none⟩)] w fun e w' => e = .returned (.bool (jitB sup (t0, t1) (u0, u1))) ∧ Below w.heap.size w w' := by
  obtain ⟨c1, c2, hb, hz⟩ := two_ty w t0 t1 u0 u1
  have HC1 := Lib.hid c1
  have HC2 := Lib.hid c2
  have HW := Lib.hid hb
  have HS : Hid (Supers _ _ A sup) := Lib.hid (Supers.below_to h hb (Nat.le_refl _))
  have HC := Lib.hid ((hb.cell (p := ⟨N, 0, none⟩) hN).trans hc)
  clear c1 c2 hb hz h hc
  go_enter Try.func36, Try.ntmps36
  go_upto_region 1 with fail
  generalize (w.alloc (.cells #[.int .i64 t0, .int .i64 t1] 39)).alloc (.cells #[.int .i64 u0, .int .i64 u1] 39) = w1 at *
  have d0 := HC2.out 0 _ rfl
  have d1 := HC2.out 1 _ rfl
  have e0 := HC1.out 0 _ rfl
  have e1 := HC1.out 1 _ rfl
  have c0 := HC.out
  go_wp2_with (go_at_call 37; (with_reducible refine (ksub_any sup t0 t1 u0 u1 A c w.heap.size w1 hl HW.out.size HS.out).mono ?_); rintro e w2 ⟨rfl, hb⟩; have HB2 := Lib.hid hb; clear hb)
  go_ret
  exact ⟨rfl, HW.out.trans (HB2.out.mono HW.out.size)⟩
theorem junder1_is {sup : List Int} {t u : Int × Int} {A : Option Addr} {c N : Nat} {w0 w : World} {r : Bool} (hl : sup.length ≤ 1048576) (HS : Hid (Supers w0 w0.heap.size A sup)) (HN : Hid (N < w0.heap.size)) (HC : Hid (w0.cell? ⟨N, 0, none⟩ = some (.slice A sup.length c))) (HX : Hid (Below w0.heap.size w0 w)) (HR : Hid (jitB sup t u = r)) :
    Calls Try.prog 36 #[tyV t.1 t.2, tyV u.1 u.2, .pointer (some ⟨N, 0, none⟩)] w fun e w' => e = .returned (.bool r) ∧ Below w.heap.size w w' := by
  have H := junder1_any sup t.1 t.2 u.1 u.2 A c N w hl (supers_up HS.out HX.out) (Nat.lt_of_lt_of_le HN.out HX.out.size) ((HX.out.cell (p := ⟨N, 0, none⟩) HN.out).trans HC.out)
  rw [HR.out] at H
  exact H

set_option maxHeartbeats 3200000 in
theorem jequal_any (sup : List Int) (L U : List (Int × Int)) (A A' A'' : Option Addr) (c c' c'' N : Nat) (w : World) (hl : sup.length ≤ 1048576) (hS : Supers w w.heap.size A'' sup) (hN : N < w.heap.size) (hc : w.cell? ⟨N, 0, none⟩ = some (.slice A'' sup.length c''))
    (h : SlcIs TyAt 2 w w.heap.size A c L) (h' : SlcIs TyAt 2 w w.heap.size A' c' U) :
    Calls Try.prog 35 #[.slice A L.length c, .slice A' U.length c', jitF N] w fun e w' => e = .returned (.bool (underB sup L U)) ∧ Below w.heap.size w w' := by
  have hlc := h.le
  have hcm := h.cap
  have hlc' := h'.le
  have hcm' := h'.cap
  have HL := Lib.hid h
  have HM := Lib.hid h'
  have HS := Lib.hid hS
  have HN := Lib.hid hN
  have HC := Lib.hid hc
  clear h h' hS hN hc
  obtain ⟨b, hb⟩ : ∃ b, underB sup L U = b := ⟨_, rfl⟩
  rw [hb]
  have E := Lib.hid hb.symm
  clear hb
  by_cases hn : L.length = U.length
  · have HLN := Lib.hid hn
    have hlen : U.length = L.length := hn.symm
    have HE2 : Hid (b = (L.zip U).all (fun p => jitB sup p.1 p.2)) := Lib.hid (by rw [E.out]; unfold underB; rw [decide_eq_true hn, Bool.true_and]; rfl)
    rw [hlen]
    clear hn
    go_enter Try.func35, Try.ntmps35
    go_wp2
    go_loopw [17] (fun i wr => ∃ k : Nat, k ≤ L.length ∧ i = .int .i64 k ∧ Hid (∀ p ∈ (L.zip U).take k, jitB sup p.1 p.2 = true) ∧ Hid (Below w.heap.size w wr)) (fun i _ => L.length - (intOf i).toNat)
    case atStart => exact ⟨0, by omega, rfl, Lib.hid (by simp), Lib.hid (Below.refl _ _)⟩
    case round =>
      obtain ⟨k, hk, rfl, HA, HX⟩ := hrel
      by_cases hlt : k < L.length
      · have hltm : k < U.length := by omega
        obtain ⟨ad, rfl, hab, s0, s1⟩ := (HL.out.below_to TyAt.keeps HX.out (Nat.le_refl _)).row.at_ hlt
        obtain ⟨ad', rfl, hab', t0, t1⟩ := (HM.out.below_to TyAt.keeps HX.out (Nat.le_refl _)).row.at_ hltm
        obtain ⟨hz, hze⟩ := zip_at hlt hltm
        obtain ⟨r, hr⟩ : ∃ r, jitB sup L[k] U[k] = r := ⟨_, rfl⟩
        have HR := Lib.hid hr
        have HT : Hid (r = true → ∀ p ∈ (L.zip U).take (k + 1), jitB sup p.1 p.2 = true) := Lib.hid (fun g => all_take (f := fun p : (Int × Int) × (Int × Int) => jitB sup p.1 p.2) hz HA.out (by rw [hze]; show jitB sup L[k] U[k] = true; rw [hr, g]))
        have HF : Hid (r = false → b = false) := Lib.hid (fun g => by rw [HE2.out]; exact all_not (f := fun p : (Int × Int) × (Int × Int) => jitB sup p.1 p.2) hz (by rw [hze]; show jitB sup L[k] U[k] = false; rw [hr, g]))
        clear hr hze hz
        generalize L[k] = t at *
        generalize U[k] = u at *
        have hA1 : Below wr.heap.size wr (wr.alloc (.cells #[.int .i64 t.1, .int .i64 t.2] 39)) := (Below.refl _ _).alloc (Nat.le_refl _) _
        have hsz := HX.out.size
        have u0 := (hA1.cell (p := ad'.add (k * 2)) (by rw [addr_add_block]; omega)).trans t0
        have u1 := (hA1.cell (p := off_ (ad'.add (k * 2)) 1) (by show (ad'.add _).block < _; rw [addr_add_block]; omega)).trans t1
        obtain ⟨c1, c2, hb, hzz⟩ := two_ty wr t.1 t.2 u.1 u.2
        have HC1 := Lib.hid c1
        have HC2 := Lib.hid c2
        have HX3 := Lib.hid (HX.out.trans (hb.mono hsz))
        clear c1 c2 hb hzz hA1
        go_upto_region 7 with fail
        generalize (wr.alloc (.cells #[.int .i64 t.1, .int .i64 t.2] 39)).alloc (.cells #[.int .i64 u.1, .int .i64 u.2] 39) = w3 at *
        have d0 := HC1.out 0 _ rfl
        have d1 := HC1.out 1 _ rfl
        have e0 := HC2.out 0 _ rfl
        have e1 := HC2.out 1 _ rfl
        cases r
        · go_wp2_with (go_at_call 36; (with_reducible refine (junder1_is hl HS HN HC HX3 HR).mono ?_); rintro e w4 ⟨rfl, hb⟩; have HX4 := Lib.hid (HX3.out.trans (hb.mono HX3.out.size)); clear hb)
          go_ret
          exact ⟨by rw [HF.out (by simp)]; rfl, HX4.out⟩
        · go_wp2_with (go_at_call 36; (with_reducible refine (junder1_is hl HS HN HC HX3 HR).mono ?_); rintro e w4 ⟨rfl, hb⟩; have HX4 := Lib.hid (HX3.out.trans (hb.mono HX3.out.size)); clear hb)
          go_roundw
          case rel => exact ⟨k + 1, by omega, by go_num, Lib.hid (HT.out (by simp)), HX4⟩
          case measure => simp [intOf]; omega
      · have E2 := Lib.hid (show b = true by rw [HE2.out]; exact all_end (f := fun p : (Int × Int) × (Int × Int) => jitB sup p.1 p.2) HA.out (by rw [List.length_zip]; omega))
        go_wp2_with fail
        go_ret
        exact ⟨by rw [E2.out]; rfl, HX.out⟩
  · have E2 := Lib.hid (show b = false by rw [E.out]; unfold underB; rw [decide_eq_false hn, Bool.false_and])
    have hn' : ((L.length : Int) == (U.length : Int)) = false := beq_eq_false_iff_ne.mpr (by omega)
    go_enter Try.func35, Try.ntmps35
    go_wp2
    go_ret
    exact ⟨by rw [E2.out]; rfl, Below.refl _ _⟩

abbrev shV (s : Shp) (A : Option Addr) (c : Nat) : Value := .agg #[.bool s.seen, .slice A s.stack.length c]
theorem judge_two (w : World) (x y z : Value) : Cells ((w.alloc (.cells #[x] 22)).alloc (.cells #[y, z] 44)) w.heap.size [x] ∧ Cells ((w.alloc (.cells #[x] 22)).alloc (.cells #[y, z] 44)) (w.heap.size + 1) [y, z] ∧
    Below w.heap.size w ((w.alloc (.cells #[x] 22)).alloc (.cells #[y, z] 44)) ∧ ((w.alloc (.cells #[x] 22)).alloc (.cells #[y, z] 44)).heap.size = w.heap.size + 2 := by
  obtain ⟨c1, z1, b1⟩ := cells_step (w := w) rfl [x] 22
  obtain ⟨c2, z2, b2⟩ := cells_step z1 [y, z] 44
  exact ⟨c1.keep b2 (by omega), c2, b1.trans (b2.mono (by omega)), z2⟩
theorem jslcUp {α : Type} {At : AtP α} (hK : Keeps At) {k : Nat} {w w' : World} {A : Option Addr} {c : Nat} {l : List α} (h : SlcIs At k w w.heap.size A c l) (hb : Below w.heap.size w w') : SlcIs At k w' w'.heap.size A c l :=
  (h.below_to hK hb (Nat.le_refl _)).keep' hK hb.size (fun _ _ => rfl)
theorem junder_any (sup : List Int) (L : List (Int × Int)) (s : Shp) (A B C : Option Addr) (a b c : Nat) (w : World) (hl : sup.length ≤ 1048576) (hS : Supers w w.heap.size C sup) (hL : SlcIs TyAt 2 w w.heap.size A a L) (hs : SlcIs TyAt 2 w w.heap.size B b s.stack) :
    Calls Try.prog 22 #[.slice C sup.length c, .slice A L.length a, shV s B b] w fun e w' => e = .returned (.bool (s.seen && underB sup L s.stack)) ∧ Below w.heap.size w w' := by
  obtain ⟨c1, c2, hb, hz⟩ := judge_two w (.slice C sup.length c) (.bool s.seen) (.slice B s.stack.length b)
  have HC1 := Lib.hid c1
  have HC2 := Lib.hid c2
  have HW := Lib.hid hb
  have HZ : Hid (w.heap.size < _) := Lib.hid (by rw [hz]; omega : w.heap.size < ((w.alloc (.cells #[.slice C sup.length c] 22)).alloc (.cells #[.bool s.seen, .slice B s.stack.length b] 44)).heap.size)
  have HS := Lib.hid (supers_up hS hb)
  have HL := Lib.hid (jslcUp TyAt.keeps hL hb)
  have HT := Lib.hid (jslcUp TyAt.keeps hs hb)
  obtain ⟨sb, st⟩ := s
  dsimp only at *
  clear c1 c2 hb hz hS hL hs
  cases sb
  · go_enter Try.func22, Try.ntmps22
    go_upto_region 1 with fail
    generalize (w.alloc (.cells #[.slice C sup.length c] 22)).alloc (.cells #[.bool false, .slice B st.length b] 44) = w1 at *
    have d0 := HC2.out 0 _ rfl
    have d1 := HC2.out 1 _ rfl
    have e0 := HC1.out 0 _ rfl
    go_wp2_with fail
    go_ret
    exact ⟨rfl, HW.out⟩
  · go_enter Try.func22, Try.ntmps22
    go_upto_region 1 with fail
    generalize (w.alloc (.cells #[.slice C sup.length c] 22)).alloc (.cells #[.bool true, .slice B st.length b] 44) = w1 at *
    have d0 := HC2.out 0 _ rfl
    have d1 := HC2.out 1 _ rfl
    have e0 := HC1.out 0 _ rfl
    go_wp2_with (go_at_call 35; (with_reducible refine (jequal_any sup L st A B C a b c w.heap.size w1 hl HS.out HZ.out e0 HL.out HT.out).mono ?_); rintro e w2 ⟨rfl, hb⟩; have HB2 := Lib.hid hb; clear hb)
    go_ret
    exact ⟨(by rw [Bool.true_and]; rfl), HW.out.trans (HB2.out.mono HW.out.size)⟩
theorem junder_is {sup : List Int} {L : List (Int × Int)} {s : Shp} {A B C : Option Addr} {a b c : Nat} {w0 w : World} {r : Bool} (hl : sup.length ≤ 1048576) (HS : Hid (Supers w0 w0.heap.size C sup)) (HX : Hid (Below w0.heap.size w0 w)) (HL : SlcIs TyAt 2 w w.heap.size A a L) (HT : SlcIs TyAt 2 w w.heap.size B b s.stack) (HR : Hid ((s.seen && underB sup L s.stack) = r)) :
    Calls Try.prog 22 #[.slice C sup.length c, .slice A L.length a, .agg #[.bool s.seen, .slice B s.stack.length b]] w fun e w' => e = .returned (.bool r) ∧ Below w.heap.size w w' := by
  have H := junder_any sup L s A B C a b c w hl (supers_up HS.out HX.out) HL HT
  rw [HR.out] at H
  exact H
/-- May operands come there? -/
def comesB (sup : List Int) (L : List (Int × Int)) (S : List Shp) (tg : Int) : Bool := decide (0 ≤ tg) && (decide (tg < S.length) && ((shpN S tg).seen && underB sup L (shpN S tg).stack))
theorem jcomes_any (sup : List Int) (L : List (Int × Int)) (S : List Shp) (tg : Int) (A B C : Option Addr) (a b c : Nat) (w : World) (hl : sup.length ≤ 1048576) (hS : Supers w w.heap.size C sup) (hL : SlcIs TyAt 2 w w.heap.size A a L) (hs : SlcIs ShpAt 2 w w.heap.size B b S) :
    Calls Try.prog 34 #[.slice C sup.length c, .slice A L.length a, .slice B S.length b, .int .i64 tg] w fun e w' => e = .returned (.bool (comesB sup L S tg)) ∧ Below w.heap.size w w' := by
  have hl1 := hs.le
  have hl2 := hs.cap
  have HS := Lib.hid hS
  have HL := Lib.hid hL
  have HT := Lib.hid hs
  have HW : Hid (Below w.heap.size w w) := Lib.hid (Below.refl _ _)
  clear hS hL hs
  by_cases h0 : 0 ≤ tg
  rotate_left
  · have hg : ¬ (tg ≥ 0) := h0
    have e : comesB sup L S tg = false := by unfold comesB; rw [decide_eq_false h0, Bool.false_and]
    rw [e]
    clear e
    go_enter Try.func34, Try.ntmps34
    go_wp2_with fail
    go_ret
    exact ⟨rfl, HW.out⟩
  by_cases h1 : tg < S.length
  rotate_left
  · have hg : tg ≥ 0 := h0
    have e : comesB sup L S tg = false := by unfold comesB; rw [decide_eq_false h1, Bool.false_and, Bool.and_false]
    rw [e]
    clear e
    go_enter Try.func34, Try.ntmps34
    go_wp2_with fail
    go_ret
    exact ⟨rfl, HW.out⟩
  obtain ⟨k, rfl⟩ := Int.eq_ofNat_of_zero_le h0
  have hk : k < S.length := by omega
  have hg : (k : Int) ≥ 0 := h0
  obtain ⟨ad, rfl, hab, s0, A1, c1, s1, hs1⟩ := HT.out.row.at_ hk
  have hN := shpN_at hk
  obtain ⟨r, hr⟩ : ∃ r, ((shpN S (k : Int)).seen && underB sup L (shpN S (k : Int)).stack) = r := ⟨_, rfl⟩
  have e : comesB sup L S (k : Int) = r := by unfold comesB; rw [decide_eq_true h0, decide_eq_true h1, Bool.true_and, Bool.true_and]; exact hr
  rw [e]
  rw [hN] at hr
  clear e hN
  generalize S[k] = s at *
  have HR := Lib.hid hr
  have HS1 := Lib.hid hs1
  clear hr hs1
  go_enter Try.func34, Try.ntmps34
  go_wp2_with (go_at_call 22; (with_reducible refine (junder_is hl HS HW HL.out HS1.out HR).mono ?_); rintro e w2 ⟨rfl, hb⟩; have HB2 := Lib.hid hb; clear hb)
  go_ret
  exact ⟨rfl, HB2.out⟩
theorem jcomes_is {sup : List Int} {L : List (Int × Int)} {S : List Shp} {tg : Int} {A B C : Option Addr} {a b c n nl ns : Nat} {w0 w : World} {r : Bool} (hl : sup.length ≤ 1048576) (HN : Hid (sup.length = n ∧ L.length = nl ∧ S.length = ns)) (HS : Hid (Supers w0 w0.heap.size C sup)) (HX : Hid (Below w0.heap.size w0 w)) (HL : SlcIs TyAt 2 w w.heap.size A a L) (HT : SlcIs ShpAt 2 w w.heap.size B b S) (HR : Hid (comesB sup L S tg = r)) :
    Calls Try.prog 34 #[.slice C n c, .slice A nl a, .slice B ns b, .int .i64 tg] w fun e w' => e = .returned (.bool r) ∧ Below w.heap.size w w' := by
  obtain ⟨rfl, rfl, rfl⟩ := HN.out
  have H := jcomes_any sup L S tg A B C a b c w hl (supers_up HS.out HX.out) HL HT
  rw [HR.out] at H
  exact H
end Go.Proofs.Ytgpmdhdooglkfaa
namespace Go.Proofs.Ytgpmdhdooglkfaa
set_option maxRecDepth 100000
set_option linter.unusedVariables false
set_option linter.unusedSimpArgs false
open Go.ChangeShapes Go.WideShapes Go.ChangeAt Go.RowKit
set_option linter.unusedVariables false
set_option linter.unusedSimpArgs false

theorem under_nil {sup : List Int} {st : List (Int × Int)} : underB sup [] st = decide (st.length = 0) := by
  cases st
  · rfl
  · simp [underB]
theorem first_comes {m : Img} {f : Int} {S : List Shp} (h : S.length = (mthN m f).code.length) : firstB m f S = comesB (supsOf m.classes) [] S 0 := by
  unfold firstB comesB
  rw [under_nil, decide_eq_true h, Bool.true_and, decide_eq_true (Int.le_refl 0), Bool.true_and]
  congr 1
  exact decide_eq_decide.mpr (by omega)
theorem on_comes {m : Img} {S : List Shp} {af : List (Int × Int)} {n : Int} (h0 : 0 ≤ n) (h1 : n < S.length) : comesB (supsOf m.classes) af S n = onB m S af n := by
  unfold comesB onB
  rw [decide_eq_true h0, decide_eq_true h1, Bool.true_and, Bool.true_and]
theorem fstep_on {m : Img} {h : Hnd} {f pc : Int} {st L : List (Int × Int)} {NL : List Int} {er : Int} {A : Option Addr} {cap n : Nat} {w0 w : World} (HI : Hid (ImgIn w0 w0.heap.size h m)) (HX : Hid (Below w0.heap.size w0 w)) (HM : Hid (SaneI m)) (HN : Hid (st.length = n)) (HS : Hid (SlcIs TyAt 2 w w.heap.size A cap st)) (hs : n ≤ 4000) (HR : Hid (stepOf m f pc st = ⟨L, NL, er⟩)) :
    Calls Try.prog 32 #[imgV h m, .int .i64 f, .int .i64 pc, .slice A n cap] w fun e w' => ∃ A c A' c', e = .returned (.tuple #[.slice A L.length c, .slice A' NL.length c', .int .i64 er]) ∧ SlcIs TyAt 2 w' w'.heap.size A c L ∧ SlcIs IntAt 1 w' w'.heap.size A' c' NL ∧ Below w.heap.size w w' := by
  obtain rfl := HN.out
  have H := fstep_any m f pc st A cap h w (HI.out.now HX.out) HM.out HS.out hs
  rw [HR.out] at H
  exact H
set_option maxHeartbeats 12800000 in
theorem jholds_any (m : Img) (S : List Shp) (f : Nat) (x : Mth) (A : Option Addr) (c : Nat) (h : Hnd) (w : World) (H : ImgIn w w.heap.size h m) (hm : SaneI m) (hx : m.methods[f]? = some x) (hlen : S.length = x.code.length) (hS : SlcIs ShpAt 2 w w.heap.size A c S) (hst : ∀ s ∈ S, s.stack.length ≤ 4000) :
    Calls Try.prog 17 #[imgV h m, .int .i64 f, .slice A S.length c] w fun e w' => e = .returned (.bool (rightS m (f : Int) S)) ∧ Below w.heap.size w w' := by
  have HW := Lib.hid (below_box (w := w) (h := h) (m := m))
  have HBX := Lib.hid (img_box w h m)
  have HZ : Hid (w.heap.size < (w.alloc (imgO h m)).heap.size) := Lib.hid (by simp)
  have HI := Lib.hid (H.now HW.out)
  have HM := Lib.hid hm
  have HGX := Lib.hid hx
  have HST := Lib.hid hst
  have HS0 := Lib.hid (jslcUp ShpAt.keeps hS HW.out)
  have hl1 := hS.le
  have hl2 := hS.cap
  have hcl : (supsOf m.classes).length ≤ 1048576 := by rw [supsOf_len]; have := hm.fits.cl; omega
  have hcN : mthN m (f : Int) = x := by unfold mthN; rw [Int.toNat_natCast, hx]; rfl
  have HCL := Lib.hid hlen
  have HFI : Hid (firstB m (f : Int) S = comesB (supsOf m.classes) [] S 0) := Lib.hid (first_comes (by rw [hcN]; exact hlen))
  obtain ⟨b, hb⟩ : ∃ b, rightS m (f : Int) S = b := ⟨_, rfl⟩
  rw [hb]
  have HE := Lib.hid hb.symm
  have HSU := Lib.hid (supers_of HI.out.classes.row)
  have HLN : Hid ((supsOf m.classes).length = m.classes.length ∧ ([] : List (Int × Int)).length = 0 ∧ S.length = S.length) := Lib.hid ⟨supsOf_len _, rfl, rfl⟩
  obtain ⟨r0, hr0⟩ : ∃ r, comesB (supsOf m.classes) [] S 0 = r := ⟨_, rfl⟩
  have HR0 := Lib.hid hr0
  clear H hm hx hst hS hcN hlen hb hr0
  go_enter Try.func17, Try.ntmps17
  go_upto_region 1 with fail
  generalize w.alloc (imgO h m) = w1 at *
  obtain ⟨q0, q1, q2, q3, q4, q5, q6⟩ := HBX.out
  have HRF := Lib.hid (Below.refl w1.heap.size w1)
  cases r0
  · have HF : Hid (b = false) := Lib.hid (by rw [HE.out]; unfold rightS; rw [HFI.out, HR0.out, Bool.false_and])
    go_wp2_with (go_at_call 34; (with_reducible refine (jcomes_is hcl HLN HSU HRF slc_none HS0.out HR0).mono ?_); rintro e w2 ⟨rfl, hb⟩; have HX2 := Lib.hid hb; clear hb)
    go_ret
    exact ⟨by rw [HF.out]; first | rfl | simp, HW.out.trans (HX2.out.mono (Nat.le_of_lt HZ.out))⟩
  have HFP : Hid (∀ pc, pc < S.length → placeB m (f : Int) S (pc : Int) = false → b = false) := Lib.hid (fun pc hpc g => by rw [HE.out]; unfold rightS; rw [range_not hpc g]; simp)
  have HTP : Hid ((∀ pc, pc < S.length → placeB m (f : Int) S (pc : Int) = true) → b = true) := Lib.hid (fun g => by rw [HE.out]; unfold rightS; rw [HFI.out, HR0.out, range_all.mpr g]; rfl)
  go_wp2_with (go_at_call 34; (with_reducible refine (jcomes_is hcl HLN HSU HRF slc_none HS0.out HR0).mono ?_); rintro e w2 ⟨rfl, hb⟩; have HX2 := Lib.hid hb; clear hb)
  clear q0 q1 q2 q3 q4 q5 q6
  go_loopw [21] (fun i wr => ∃ pc : Nat, pc ≤ S.length ∧ i = .int .i64 pc ∧ Hid (∀ p, p < pc → placeB m (f : Int) S (p : Int) = true) ∧ Hid (Below w1.heap.size w1 wr)) (fun i _ => S.length - (intOf i).toNat)
  case atStart => exact ⟨0, Nat.zero_le _, rfl, Lib.hid (fun p hp => by omega), HX2⟩
  case round =>
    obtain ⟨pc, hpc, rfl, HP, HX⟩ := hrel
    by_cases hpl : pc < S.length
    · obtain ⟨adS, rfl, habS, u0, Ast, cst, u1, hu⟩ := HS0.out.row.at_ hpl
      have hNp : shpN S (pc : Int) = S[pc] := shpN_at hpl
      have hst1 : S[pc].stack.length ≤ 4000 := HST.out _ (List.getElem_mem hpl)
      generalize S[pc] = s at *
      have HNP := Lib.hid hNp
      have HU := Lib.hid hu
      have HPX : Hid (placeB m (f : Int) S (pc : Int) = true → ∀ p, p < pc + 1 → placeB m (f : Int) S (p : Int) = true) := Lib.hid (fun g p hp => by
        rcases Nat.lt_or_ge p pc with q | q
        · exact HP.out p q
        · obtain rfl : p = pc := by omega
          exact g)
      have HPF : Hid (placeB m (f : Int) S (pc : Int) = false → b = false) := Lib.hid (HFP.out pc hpl)
      have u0 := (HX.out.cell (p := adS.add (pc * 2)) (by rw [addr_add_block]; exact habS)).trans u0
      have u1 := (HX.out.cell (p := off_ (adS.add (pc * 2)) 1) (by show (adS.add _).block < _; rw [addr_add_block]; exact habS)).trans u1
      have HC3 := Lib.hid (cells_new wr [.bool s.seen, .slice Ast s.stack.length cst] 44)
      have HX3 : Hid (Below w1.heap.size w1 (wr.alloc (.cells #[.bool s.seen, .slice Ast s.stack.length cst] 44))) := Lib.hid (HX.out.alloc HX.out.size _)
      clear hu hNp
      go_upto_region 6 with fail
      generalize wr.alloc (.cells #[.bool s.seen, .slice Ast s.stack.length cst] 44) = w3 at *
      have d0 := HC3.out 0 _ rfl
      have d1 := HC3.out 1 _ rfl
      obtain ⟨q0, q1, q2, q3, q4, q5, q6⟩ := HBX.out.keep HX3.out HZ.out
      clear u0 u1
      by_cases hse : s.seen = true
      rotate_left
      · have hse' : s.seen = false := by simpa using hse
        have HY := Lib.hid (HPX.out (place_un (by rw [HNP.out]; exact hse')))
        rw [hse'] at d0
        go_wp2_with fail
        go_roundw
        case rel => exact ⟨pc + 1, by omega, by go_num, HY, HX3⟩
        case measure => simp [intOf]; omega
      have HSE := Lib.hid hse
      rw [hse] at d0
      obtain ⟨⟨L, NL, er⟩, hrs⟩ : ∃ r, stepOf m (f : Int) (pc : Int) s.stack = r := ⟨_, rfl⟩
      have HRS := Lib.hid hrs
      have HSD := Lib.hid (jslcUp TyAt.keeps HU.out HX3.out)
      clear hrs hse
      go_upto_region 8 with (go_at_call 32; (with_reducible refine (fstep_on HI HX3 HM (Lib.hid rfl) HSD hst1 HRS).mono ?_); rintro e w6 ⟨A7, c7, A8, c8, rfl, hs7, hs8, hb⟩; have H7 := Lib.hid hs7; have H8 := Lib.hid hs8; have HX6 := Lib.hid (HX3.out.trans (hb.mono HX3.out.size)); clear hs7 hs8 hb)
      clear q0 q1 q2 q3 q4 q5 q6 d0 d1
      by_cases her : er = 0
      rotate_left
      · have hne : (er != 0) = true := by simpa using her
        have HF : Hid (b = false) := Lib.hid (HPF.out (place_err (by rw [HNP.out]; exact HSE.out) (by rw [HNP.out, HRS.out]; exact her)))
        go_wp2_with fail
        go_ret
        exact ⟨by rw [HF.out]; first | rfl | simp, HW.out.trans (HX6.out.mono (Nat.le_of_lt HZ.out))⟩
      subst her
      have hm1 := H8.out.le
      have hm2 := H8.out.cap
      have hm3 := H7.out.le
      have hm4 := H7.out.cap
      have HIN : Hid (∀ n ∈ NL, 0 ≤ n ∧ n < (S.length : Int)) := Lib.hid (by
        have hPx : pc < x.code.length := by rw [← HCL.out]; exact hpl
        obtain ⟨⟨op, a, bb⟩, hi⟩ : ∃ i, x.code[pc]? = some i := ⟨_, List.getElem?_eq_getElem hPx⟩
        have hxm := HM.out.method (List.mem_of_getElem? HGX.out)
        have him := List.mem_of_getElem? hi
        have e1 := stepIn_of (st := s.stack) HGX.out hi
        rw [HRS.out] at e1
        have h1 := next_in (m := m) (st := s.stack) (F := 0) (hxm.fits.ct _ him) (hxm.co _ him) (by rw [← e1])
        rw [← e1] at h1
        rw [HCL.out]
        exact h1)
      have HPO : Hid (∀ j (hj : j < NL.length), onB m S L NL[j] = false → b = false) := Lib.hid (fun j hj g => HPF.out (by
        have e1 : stepOf m (f : Int) (pc : Int) (shpN S (pc : Int)).stack = ⟨L, NL, 0⟩ := by rw [HNP.out]; exact HRS.out
        refine place_on (j := j) (by rw [HNP.out]; exact HSE.out) (by rw [e1]; exact hj) ?_
        simp only [e1]
        exact g))
      have HPY : Hid ((∀ n ∈ NL, onB m S L n = true) → placeB m (f : Int) S (pc : Int) = true) := Lib.hid (fun g => by
        have e1 : stepOf m (f : Int) (pc : Int) (shpN S (pc : Int)).stack = ⟨L, NL, 0⟩ := by rw [HNP.out]; exact HRS.out
        exact place_yes (by rw [e1]) (by rw [e1]; exact g))
      go_wp2_with fail
      go_loopw [43] (fun i wr => ∃ j : Nat, j ≤ NL.length ∧ i = .int .i64 j ∧ Hid (∀ n ∈ NL.take j, onB m S L n = true) ∧ Hid (Below w1.heap.size w1 wr) ∧ Hid (Below w6.heap.size w6 wr)) (fun i _ => NL.length - (intOf i).toNat)
      case atStart => exact ⟨0, Nat.zero_le _, rfl, Lib.hid (by simp), HX6, Lib.hid (Below.refl _ _)⟩
      case round =>
        clear HX HX3
        obtain ⟨j, hj, rfl, HJ, HX, HY⟩ := hrel
        by_cases hjl : j < NL.length
        · obtain ⟨adN, rfl, habN, v0⟩ := H8.out.row.at_ hjl
          have v0 := (HY.out.cell (p := adN.add (j * 1)) (by rw [addr_add_block]; exact habN)).trans v0
          rw [Nat.mul_one] at v0
          obtain ⟨n0, n1⟩ := HIN.out _ (List.getElem_mem hjl)
          have HJF : Hid (onB m S L NL[j] = false → b = false) := Lib.hid (HPO.out j hjl)
          have HJT : Hid (onB m S L NL[j] = true → ∀ n ∈ NL.take (j + 1), onB m S L n = true) := Lib.hid (fun g => all_take hjl HJ.out g)
          obtain ⟨r, hr⟩ : ∃ r, comesB (supsOf m.classes) L S NL[j] = r := ⟨_, rfl⟩
          have HR := Lib.hid hr
          have hon := on_comes (m := m) (af := L) n0 n1
          rw [hr] at hon
          have HON := Lib.hid hon
          clear hr hon n0 n1
          generalize NL[j] = nn at *
          have H7D := Lib.hid (jslcUp TyAt.keeps H7.out HY.out)
          have HSX := Lib.hid (jslcUp ShpAt.keeps HS0.out HX.out)
          obtain ⟨q0, q1, q2, q3, q4, q5, q6⟩ := HBX.out.keep HX.out HZ.out
          cases r
          · have HF : Hid (b = false) := Lib.hid (HJF.out HON.out.symm)
            go_wp2_with (go_at_call 34; (with_reducible refine (jcomes_is hcl (Lib.hid ⟨supsOf_len _, rfl, rfl⟩) HSU HX H7D.out HSX.out HR).mono ?_); rintro e w8 ⟨rfl, hb⟩; have HX8 := Lib.hid (HX.out.trans (hb.mono HX.out.size)); clear hb)
            go_ret
            exact ⟨by rw [HF.out]; first | rfl | simp, HW.out.trans (HX8.out.mono (Nat.le_of_lt HZ.out))⟩
          · have HJ2 := Lib.hid (HJT.out HON.out.symm)
            go_wp2_with (go_at_call 34; (with_reducible refine (jcomes_is hcl (Lib.hid ⟨supsOf_len _, rfl, rfl⟩) HSU HX H7D.out HSX.out HR).mono ?_); rintro e w8 ⟨rfl, hb⟩; have HX8 := Lib.hid (HX.out.trans (hb.mono HX.out.size)); have HY8 := Lib.hid (HY.out.trans (hb.mono HY.out.size)); clear hb)
            go_roundw
            case rel => exact ⟨j + 1, by omega, by go_num, HJ2, HX8, HY8⟩
            case measure => simp [intOf]; omega
        · have HD := Lib.hid (HPX.out (HPY.out (by have := HJ.out; rwa [List.take_of_length_le (by omega)] at this)))
          go_wp2_with fail
          go_roundw
          case rel => exact ⟨pc + 1, by omega, by go_num, HD, HX⟩
          case measure => simp [intOf]; omega
    · have HB : Hid (b = true) := Lib.hid (HTP.out (fun p hp => HP.out p (by omega)))
      go_wp2_with fail
      go_ret
      exact ⟨by rw [HB.out]; first | rfl | simp, HW.out.trans (HX.out.mono (Nat.le_of_lt HZ.out))⟩
theorem jholds_is {m : Img} {S : List Shp} {f : Nat} {x : Mth} {A : Option Addr} {c : Nat} {h : Hnd} {w0 w : World} {r : Bool} (HI : Hid (ImgIn w0 w0.heap.size h m)) (HX : Hid (Below w0.heap.size w0 w)) (HM : Hid (SaneI m)) (HG : Hid (m.methods[f]? = some x)) (HL : Hid (S.length = x.code.length)) (HS : Hid (SlcIs ShpAt 2 w w.heap.size A c S)) (HST : Hid (∀ s ∈ S, s.stack.length ≤ 4000)) (HR : Hid (rightS m (f : Int) S = r)) :
    Calls Try.prog 17 #[imgV h m, .int .i64 f, .slice A S.length c] w fun e w' => e = .returned (.bool r) ∧ Below w.heap.size w w' := by
  have H := jholds_any m S f x A c h w (HI.out.now HX.out) HM.out HG.out HL.out HS.out HST.out
  rw [HR.out] at H
  exact H
end Go.Proofs.Ytgpmdhdooglkfaa
