/-
  What judge's own word for types that allow all that others allow (Over) comes to.
-/
import Derived.Test.YtgpmdhdooglkfaaK46
import Derived.Test.YtgpmdhdooglkfaaK33
namespace Go.Proofs.Ytgpmdhdooglkfaa
set_option maxRecDepth 100000
set_option linter.unusedVariables false
set_option linter.unusedSimpArgs false
open Go.ChangeShapes Go.WideShapes Go.ChangeAt Go.RowKit
set_option linter.unusedVariables false
set_option linter.unusedSimpArgs false

/-- Does a shape allow all that another one allows? -/
def ovB (sup : List Int) (s t : Shp) : Bool := !s.seen || (t.seen && underB sup s.stack t.stack)
theorem range_zip {α β : Type} {a : List α} {b : List β} {g : Nat → Bool} {f : α → β → Bool} (h : a.length = b.length) (hg : ∀ (i : Nat) (h1 : i < a.length) (h2 : i < b.length), g i = f a[i] b[i]) : (List.range a.length).all g = (a.zip b).all (fun p => f p.1 p.2) := by
  rw [Bool.eq_iff_iff, range_all, List.all_eq_true]
  constructor
  · intro q p hp
    obtain ⟨i, hi, rfl⟩ := List.getElem_of_mem hp
    have hi' := hi
    rw [List.length_zip] at hi'
    rw [List.getElem_zip]
    rw [← hg i (by omega) (by omega)]
    exact q i (by omega)
  · intro q i hi
    have hz : i < (a.zip b).length := by rw [List.length_zip]; omega
    have := q _ (List.getElem_mem hz)
    rw [List.getElem_zip] at this
    rw [hg i hi (by omega)]
    exact this
theorem overS_zip {sup : List Int} {S R : List Shp} : overS sup S R = (decide (S.length = R.length) && (S.zip R).all (fun p => ovB sup p.1 p.2)) := by
  unfold overS
  by_cases h : S.length = R.length
  · rw [decide_eq_true h, Bool.true_and, Bool.true_and]
    exact range_zip (f := ovB sup) h (fun i h1 h2 => by unfold ovB; rw [shpN_at h1, shpN_at h2])
  · rw [decide_eq_false h, Bool.false_and, Bool.false_and]
theorem overB_zip {sup : List Int} {a b : List (List Shp)} : overB sup a b = (decide (a.length = b.length) && (a.zip b).all (fun p => overS sup p.1 p.2)) := by
  unfold overB
  by_cases h : a.length = b.length
  · rw [decide_eq_true h, Bool.true_and, Bool.true_and]
    exact range_zip (f := overS sup) h (fun i h1 h2 => by rw [List.getElem?_eq_getElem h1, List.getElem?_eq_getElem h2]; rfl)
  · rw [decide_eq_false h, Bool.false_and, Bool.false_and]
theorem two_sh (w : World) (x y z u : Value) : Cells ((w.alloc (.cells #[x, y] 44)).alloc (.cells #[z, u] 44)) w.heap.size [x, y] ∧ Cells ((w.alloc (.cells #[x, y] 44)).alloc (.cells #[z, u] 44)) (w.heap.size + 1) [z, u] ∧
    Below w.heap.size w ((w.alloc (.cells #[x, y] 44)).alloc (.cells #[z, u] 44)) ∧ ((w.alloc (.cells #[x, y] 44)).alloc (.cells #[z, u] 44)).heap.size = w.heap.size + 2 := by
  obtain ⟨c1, z1, b1⟩ := cells_step (w := w) rfl [x, y] 44
  obtain ⟨c2, z2, b2⟩ := cells_step z1 [z, u] 44
  exact ⟨c1.keep b2 (by omega), c2, b1.trans (b2.mono (by omega)), z2⟩
abbrev ovF (N : Nat) : Value := .func (.func 21) #[] #[.pointer (some ⟨N, 0, none⟩)]
abbrev ovR (N : Nat) : Value := .func (.func 19) #[] #[.pointer (some ⟨N, 0, none⟩)]
theorem jover2_any (sup : List Int) (s t : Shp) (A B C : Option Addr) (a b c N : Nat) (w : World) (hl : sup.length ≤ 1048576) (hS : Supers w w.heap.size C sup) (hN : N < w.heap.size) (hc : w.cell? ⟨N, 0, none⟩ = some (.slice C sup.length c)) (hs : SlcIs TyAt 2 w w.heap.size A a s.stack) (ht : SlcIs TyAt 2 w w.heap.size B b t.stack) :
    Calls Try.prog 21 #[.agg #[.bool s.seen, .slice A s.stack.length a], .agg #[.bool t.seen, .slice B t.stack.length b], .pointer (some ⟨N, 0, none⟩)] w fun e w' => e = .returned (.bool (ovB sup s t)) ∧ Below w.heap.size w w' := by
  obtain ⟨c1, c2, hb, hz⟩ := two_sh w (.bool s.seen) (.slice A s.stack.length a) (.bool t.seen) (.slice B t.stack.length b)
  have HC1 := Lib.hid c1
  have HC2 := Lib.hid c2
  have HW := Lib.hid hb
  have HS := Lib.hid (supers_up hS hb)
  have HC := Lib.hid ((hb.cell (p := ⟨N, 0, none⟩) hN).trans hc)
  have HL := Lib.hid (jslcUp TyAt.keeps hs hb)
  have HM := Lib.hid (jslcUp TyAt.keeps ht hb)
  obtain ⟨sb, ss⟩ := s
  dsimp only at *
  clear c1 c2 hb hz hS hs ht hc
  cases sb
  · go_enter Try.func21, Try.ntmps21
    go_upto_region 1 with fail
    generalize (w.alloc (.cells #[.bool false, .slice A ss.length a] 44)).alloc (.cells #[.bool t.seen, .slice B t.stack.length b] 44) = w1 at *
    have d0 := HC1.out 0 _ rfl
    have d1 := HC1.out 1 _ rfl
    have e0 := HC2.out 0 _ rfl
    have e1 := HC2.out 1 _ rfl
    have c0 := HC.out
    go_wp2_with fail
    go_ret
    exact ⟨rfl, HW.out⟩
  · obtain ⟨r, hr⟩ : ∃ r, (t.seen && underB sup ss t.stack) = r := ⟨_, rfl⟩
    have HR := Lib.hid hr
    have e : ovB sup ⟨true, ss⟩ t = r := hr
    rw [e]
    clear e hr
    go_enter Try.func21, Try.ntmps21
    go_upto_region 1 with fail
    generalize (w.alloc (.cells #[.bool true, .slice A ss.length a] 44)).alloc (.cells #[.bool t.seen, .slice B t.stack.length b] 44) = w1 at *
    have d0 := HC1.out 0 _ rfl
    have d1 := HC1.out 1 _ rfl
    have e0 := HC2.out 0 _ rfl
    have e1 := HC2.out 1 _ rfl
    have c0 := HC.out
    have HRF := Lib.hid (Below.refl w1.heap.size w1)
    go_wp2_with (go_at_call 22; (with_reducible refine (junder_is hl HS HRF HL.out HM.out HR).mono ?_); rintro e w2 ⟨rfl, hb⟩; have HB2 := Lib.hid hb; clear hb)
    go_ret
    exact ⟨rfl, HW.out.trans (HB2.out.mono HW.out.size)⟩
theorem jover2_is {sup : List Int} {s t : Shp} {A B C : Option Addr} {a b c N : Nat} {w0 w : World} {r : Bool} (hl : sup.length ≤ 1048576) (HS : Hid (Supers w0 w0.heap.size C sup)) (HN : Hid (N < w0.heap.size)) (HC : Hid (w0.cell? ⟨N, 0, none⟩ = some (.slice C sup.length c))) (HX : Hid (Below w0.heap.size w0 w)) (HL : Hid (SlcIs TyAt 2 w w.heap.size A a s.stack)) (HM : Hid (SlcIs TyAt 2 w w.heap.size B b t.stack)) (HR : Hid (ovB sup s t = r)) :
    Calls Try.prog 21 #[.agg #[.bool s.seen, .slice A s.stack.length a], .agg #[.bool t.seen, .slice B t.stack.length b], .pointer (some ⟨N, 0, none⟩)] w fun e w' => e = .returned (.bool r) ∧ Below w.heap.size w w' := by
  have H := jover2_any sup s t A B C a b c N w hl (supers_up HS.out HX.out) (Nat.lt_of_lt_of_le HN.out HX.out.size) ((HX.out.cell (p := ⟨N, 0, none⟩) HN.out).trans HC.out) HL.out HM.out
  rw [HR.out] at H
  exact H

set_option maxHeartbeats 3200000 in
theorem jeqs_any (sup : List Int) (L U : List (Shp)) (A A' A'' : Option Addr) (c c' c'' N : Nat) (w : World) (hl : sup.length ≤ 1048576) (hS : Supers w w.heap.size A'' sup) (hN : N < w.heap.size) (hc : w.cell? ⟨N, 0, none⟩ = some (.slice A'' sup.length c''))
    (h : SlcIs ShpAt 2 w w.heap.size A c L) (h' : SlcIs ShpAt 2 w w.heap.size A' c' U) :
    Calls Try.prog 20 #[.slice A L.length c, .slice A' U.length c', ovF N] w fun e w' => e = .returned (.bool (overS sup L U)) ∧ Below w.heap.size w w' := by
  have hlc := h.le
  have hcm := h.cap
  have hlc' := h'.le
  have hcm' := h'.cap
  have HL := Lib.hid h
  have HM := Lib.hid h'
  have HS := Lib.hid hS
  have HN := Lib.hid hN
  have HC := Lib.hid hc
  clear h h' hS hN hc
  obtain ⟨b, hb⟩ : ∃ b, overS sup L U = b := ⟨_, rfl⟩
  rw [hb]
  have E := Lib.hid hb.symm
  clear hb
  by_cases hn : L.length = U.length
  · have HLN := Lib.hid hn
    have hlen : U.length = L.length := hn.symm
    have HE2 : Hid (b = (L.zip U).all (fun p => ovB sup p.1 p.2)) := Lib.hid (by rw [E.out, overS_zip, decide_eq_true hn, Bool.true_and])
    rw [hlen]
    clear hn
    go_enter Try.func20, Try.ntmps20
    go_wp2
    go_loopw [17] (fun i wr => ∃ k : Nat, k ≤ L.length ∧ i = .int .i64 k ∧ Hid (∀ p ∈ (L.zip U).take k, ovB sup p.1 p.2 = true) ∧ Hid (Below w.heap.size w wr)) (fun i _ => L.length - (intOf i).toNat)
    case atStart => exact ⟨0, by omega, rfl, Lib.hid (by simp), Lib.hid (Below.refl _ _)⟩
    case round =>
      obtain ⟨k, hk, rfl, HA, HX⟩ := hrel
      by_cases hlt : k < L.length
      · have hltm : k < U.length := by omega
        obtain ⟨ad, rfl, hab, s0, A1, a1, s1, hs1⟩ := HL.out.row.at_ hlt
        obtain ⟨ad', rfl, hab', t0, B1, b1, t1, ht1⟩ := HM.out.row.at_ hltm
        have hz : k < (L.zip U).length := by rw [List.length_zip]; omega
        have hze : (L.zip U)[k] = (L[k], U[k]) := by simp
        obtain ⟨r, hr⟩ : ∃ r, ovB sup L[k] U[k] = r := ⟨_, rfl⟩
        have HR := Lib.hid hr
        have HT : Hid (r = true → ∀ p ∈ (L.zip U).take (k + 1), ovB sup p.1 p.2 = true) := Lib.hid (fun g => all_take (f := fun p : (Shp) × (Shp) => ovB sup p.1 p.2) hz HA.out (by rw [hze]; show ovB sup L[k] U[k] = true; rw [hr, g]))
        have HF : Hid (r = false → b = false) := Lib.hid (fun g => by rw [HE2.out]; exact all_not (f := fun p : (Shp) × (Shp) => ovB sup p.1 p.2) hz (by rw [hze]; show ovB sup L[k] U[k] = false; rw [hr, g]))
        clear hr hze hz
        generalize L[k] = s at *
        generalize U[k] = t at *
        have s0 := (HX.out.cell (p := ad.add (k * 2)) (by rw [addr_add_block]; exact hab)).trans s0
        have s1 := (HX.out.cell (p := off_ (ad.add (k * 2)) 1) (by show (ad.add _).block < _; rw [addr_add_block]; exact hab)).trans s1
        have t0 := (HX.out.cell (p := ad'.add (k * 2)) (by rw [addr_add_block]; exact hab')).trans t0
        have t1 := (HX.out.cell (p := off_ (ad'.add (k * 2)) 1) (by show (ad'.add _).block < _; rw [addr_add_block]; exact hab')).trans t1
        have hA1 : Below wr.heap.size wr (wr.alloc (.cells #[.bool s.seen, .slice A1 s.stack.length a1] 44)) := (Below.refl _ _).alloc (Nat.le_refl _) _
        have hsz := HX.out.size
        have u0 := (hA1.cell (p := ad'.add (k * 2)) (by rw [addr_add_block]; omega)).trans t0
        have u1 := (hA1.cell (p := off_ (ad'.add (k * 2)) 1) (by show (ad'.add _).block < _; rw [addr_add_block]; omega)).trans t1
        obtain ⟨c1, c2, hb, hzz⟩ := two_sh wr (.bool s.seen) (.slice A1 s.stack.length a1) (.bool t.seen) (.slice B1 t.stack.length b1)
        have HC1 := Lib.hid c1
        have HC2 := Lib.hid c2
        have HX3 := Lib.hid (HX.out.trans (hb.mono hsz))
        have HL3 := Lib.hid (jslcUp TyAt.keeps hs1 HX3.out)
        have HM3 := Lib.hid (jslcUp TyAt.keeps ht1 HX3.out)
        clear c1 c2 hb hzz hA1 hs1 ht1
        go_upto_region 7 with fail
        generalize (wr.alloc (.cells #[.bool s.seen, .slice A1 s.stack.length a1] 44)).alloc (.cells #[.bool t.seen, .slice B1 t.stack.length b1] 44) = w3 at *
        have d0 := HC1.out 0 _ rfl
        have d1 := HC1.out 1 _ rfl
        have e0 := HC2.out 0 _ rfl
        have e1 := HC2.out 1 _ rfl
        cases r
        · go_wp2_with (go_at_call 21; (with_reducible refine (jover2_is hl HS HN HC HX3 HL3 HM3 HR).mono ?_); rintro e w4 ⟨rfl, hb⟩; have HX4 := Lib.hid (HX3.out.trans (hb.mono HX3.out.size)); clear hb)
          go_ret
          exact ⟨by rw [HF.out (by simp)]; rfl, HX4.out⟩
        · go_wp2_with (go_at_call 21; (with_reducible refine (jover2_is hl HS HN HC HX3 HL3 HM3 HR).mono ?_); rintro e w4 ⟨rfl, hb⟩; have HX4 := Lib.hid (HX3.out.trans (hb.mono HX3.out.size)); clear hb)
          go_roundw
          case rel => exact ⟨k + 1, by omega, by go_num, Lib.hid (HT.out (by simp)), HX4⟩
          case measure => simp [intOf]; omega
      · have E2 := Lib.hid (show b = true by rw [HE2.out]; exact all_end (f := fun p : (Shp) × (Shp) => ovB sup p.1 p.2) HA.out (by rw [List.length_zip]; omega))
        go_wp2_with fail
        go_ret
        exact ⟨by rw [E2.out]; rfl, HX.out⟩
  · have E2 := Lib.hid (show b = false by rw [E.out, overS_zip, decide_eq_false hn, Bool.false_and])
    have hn' : ((L.length : Int) == (U.length : Int)) = false := beq_eq_false_iff_ne.mpr (by omega)
    go_enter Try.func20, Try.ntmps20
    go_wp2
    go_ret
    exact ⟨by rw [E2.out]; rfl, Below.refl _ _⟩

theorem jover1_any (sup : List Int) (S R : List Shp) (A B C : Option Addr) (a b c N : Nat) (w : World) (hl : sup.length ≤ 1048576) (hS : Supers w w.heap.size C sup) (hN : N < w.heap.size) (hc : w.cell? ⟨N, 0, none⟩ = some (.slice C sup.length c)) (hs : SlcIs ShpAt 2 w w.heap.size A a S) (ht : SlcIs ShpAt 2 w w.heap.size B b R) :
    Calls Try.prog 19 #[.slice A S.length a, .slice B R.length b, .pointer (some ⟨N, 0, none⟩)] w fun e w' => e = .returned (.bool (overS sup S R)) ∧ Below w.heap.size w w' := by
  have HS := Lib.hid hS
  have HC := Lib.hid hc
  have HN := Lib.hid hN
  have HL := Lib.hid hs
  have HM := Lib.hid ht
  clear hS hc hN hs ht
  go_enter Try.func19, Try.ntmps19
  go_wp2_with (go_at_call 20; (with_reducible refine (jeqs_any sup S R A B C a b c N w hl HS.out HN.out HC.out HL.out HM.out).mono ?_); rintro e w2 ⟨rfl, hb⟩; have HB2 := Lib.hid hb; clear hb)
  go_ret
  exact ⟨rfl, HB2.out⟩
theorem jover1_is {sup : List Int} {S R : List Shp} {A B C : Option Addr} {a b c N : Nat} {w0 w : World} {r : Bool} (hl : sup.length ≤ 1048576) (HS : Hid (Supers w0 w0.heap.size C sup)) (HN : Hid (N < w0.heap.size)) (HC : Hid (w0.cell? ⟨N, 0, none⟩ = some (.slice C sup.length c))) (HX : Hid (Below w0.heap.size w0 w)) (HL : Hid (SlcIs ShpAt 2 w w.heap.size A a S)) (HM : Hid (SlcIs ShpAt 2 w w.heap.size B b R)) (HR : Hid (overS sup S R = r)) :
    Calls Try.prog 19 #[.slice A S.length a, .slice B R.length b, .pointer (some ⟨N, 0, none⟩)] w fun e w' => e = .returned (.bool r) ∧ Below w.heap.size w w' := by
  have H := jover1_any sup S R A B C a b c N w hl (supers_up HS.out HX.out) (Nat.lt_of_lt_of_le HN.out HX.out.size) ((HX.out.cell (p := ⟨N, 0, none⟩) HN.out).trans HC.out) HL.out HM.out
  rw [HR.out] at H
  exact H

set_option maxHeartbeats 3200000 in
theorem jeqr_any (sup : List Int) (L U : List (List Shp)) (A A' A'' : Option Addr) (c c' c'' N : Nat) (w : World) (hl : sup.length ≤ 1048576) (hS : Supers w w.heap.size A'' sup) (hN : N < w.heap.size) (hc : w.cell? ⟨N, 0, none⟩ = some (.slice A'' sup.length c''))
    (h : SlcIs (SlcAt ShpAt 2) 1 w w.heap.size A c L) (h' : SlcIs (SlcAt ShpAt 2) 1 w w.heap.size A' c' U) :
    Calls Try.prog 18 #[.slice A L.length c, .slice A' U.length c', ovR N] w fun e w' => e = .returned (.bool (overB sup L U)) ∧ Below w.heap.size w w' := by
  have hlc := h.le
  have hcm := h.cap
  have hlc' := h'.le
  have hcm' := h'.cap
  have HL := Lib.hid h
  have HM := Lib.hid h'
  have HS := Lib.hid hS
  have HN := Lib.hid hN
  have HC := Lib.hid hc
  clear h h' hS hN hc
  obtain ⟨b, hb⟩ : ∃ b, overB sup L U = b := ⟨_, rfl⟩
  rw [hb]
  have E := Lib.hid hb.symm
  clear hb
  by_cases hn : L.length = U.length
  · have HLN := Lib.hid hn
    have hlen : U.length = L.length := hn.symm
    have HE2 : Hid (b = (L.zip U).all (fun p => overS sup p.1 p.2)) := Lib.hid (by rw [E.out, overB_zip, decide_eq_true hn, Bool.true_and])
    rw [hlen]
    clear hn
    go_enter Try.func18, Try.ntmps18
    go_wp2
    go_loopw [17] (fun i wr => ∃ k : Nat, k ≤ L.length ∧ i = .int .i64 k ∧ Hid (∀ p ∈ (L.zip U).take k, overS sup p.1 p.2 = true) ∧ Hid (Below w.heap.size w wr)) (fun i _ => L.length - (intOf i).toNat)
    case atStart => exact ⟨0, by omega, rfl, Lib.hid (by simp), Lib.hid (Below.refl _ _)⟩
    case round =>
      obtain ⟨k, hk, rfl, HA, HX⟩ := hrel
      by_cases hlt : k < L.length
      · have hltm : k < U.length := by omega
        obtain ⟨ad, rfl, hab, A1, a1, s0, hs1⟩ := HL.out.row.at_ hlt
        obtain ⟨ad', rfl, hab', B1, b1, t0, ht1⟩ := HM.out.row.at_ hltm
        have hz : k < (L.zip U).length := by rw [List.length_zip]; omega
        have hze : (L.zip U)[k] = (L[k], U[k]) := by simp
        obtain ⟨r, hr⟩ : ∃ r, overS sup L[k] U[k] = r := ⟨_, rfl⟩
        have HR := Lib.hid hr
        have HT : Hid (r = true → ∀ p ∈ (L.zip U).take (k + 1), overS sup p.1 p.2 = true) := Lib.hid (fun g => all_take (f := fun p : (List Shp) × (List Shp) => overS sup p.1 p.2) hz HA.out (by rw [hze]; show overS sup L[k] U[k] = true; rw [hr, g]))
        have HF : Hid (r = false → b = false) := Lib.hid (fun g => by rw [HE2.out]; exact all_not (f := fun p : (List Shp) × (List Shp) => overS sup p.1 p.2) hz (by rw [hze]; show overS sup L[k] U[k] = false; rw [hr, g]))
        clear hr hze hz
        generalize L[k] = s at *
        generalize U[k] = t at *
        have s0 := (HX.out.cell (p := ad.add (k * 1)) (by rw [addr_add_block]; exact hab)).trans s0
        have t0 := (HX.out.cell (p := ad'.add (k * 1)) (by rw [addr_add_block]; exact hab')).trans t0
        rw [Nat.mul_one] at s0 t0
        have HX3 := HX
        have HL3 := Lib.hid (jslcUp ShpAt.keeps hs1 HX3.out)
        have HM3 := Lib.hid (jslcUp ShpAt.keeps ht1 HX3.out)
        clear hs1 ht1
        cases r
        · go_wp2_with (go_at_call 19; (with_reducible refine (jover1_is hl HS HN HC HX3 HL3 HM3 HR).mono ?_); rintro e w4 ⟨rfl, hb⟩; have HX4 := Lib.hid (HX3.out.trans (hb.mono HX3.out.size)); clear hb)
          go_ret
          exact ⟨by rw [HF.out (by simp)]; rfl, HX4.out⟩
        · go_wp2_with (go_at_call 19; (with_reducible refine (jover1_is hl HS HN HC HX3 HL3 HM3 HR).mono ?_); rintro e w4 ⟨rfl, hb⟩; have HX4 := Lib.hid (HX3.out.trans (hb.mono HX3.out.size)); clear hb)
          go_roundw
          case rel => exact ⟨k + 1, by omega, by go_num, Lib.hid (HT.out (by simp)), HX4⟩
          case measure => simp [intOf]; omega
      · have E2 := Lib.hid (show b = true by rw [HE2.out]; exact all_end (f := fun p : (List Shp) × (List Shp) => overS sup p.1 p.2) HA.out (by rw [List.length_zip]; omega))
        go_wp2_with fail
        go_ret
        exact ⟨by rw [E2.out]; rfl, HX.out⟩
  · have E2 := Lib.hid (show b = false by rw [E.out, overB_zip, decide_eq_false hn, Bool.false_and])
    have hn' : ((L.length : Int) == (U.length : Int)) = false := beq_eq_false_iff_ne.mpr (by omega)
    go_enter Try.func18, Try.ntmps18
    go_wp2
    go_ret
    exact ⟨by rw [E2.out]; rfl, Below.refl _ _⟩
end Go.Proofs.Ytgpmdhdooglkfaa
