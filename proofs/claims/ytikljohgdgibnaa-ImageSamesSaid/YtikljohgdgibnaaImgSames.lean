/-
  The statement on whether images are one (ImageSames), walked: it answers true at any two images.
-/
import Derived.Test.YtikljohgdgibnaaImgLaws
import Derived.Test.YtikljohgdgibnaaImgWords
import Derived.Deep.Cut
import Derived.Deep.RegionHeld3
namespace Go.Proofs.Ytikljohgdgibnaa
set_option maxRecDepth 100000
open Go.ChangeShapes Go.WideShapes Go.ChangeAt Go.RowKit
set_option linter.unusedVariables false
set_option linter.unusedSimpArgs false

/-- A copy's method's instructions, where they stand: numbers in blocks of its own, that may be written. -/
def CodeRow (w : World) (base g : Nat) (am : Addr) (i : Nat) (n : Nat) : Prop :=
  ∃ A cap, w.cell? (off_ (am.add (i * 8)) 4) = some (.slice A n cap) ∧ n ≤ cap ∧ cap ≤ 9223372036854775807 ∧
    ∀ k, k < n → ∃ ad, A = some ad ∧ base ≤ ad.block ∧ ad.block ≠ am.block ∧ ad.block ≠ g ∧ (∃ z : Int, w.cell? (ad.add (k * 3)) = some (.int .i64 z)) ∧ w.frozen? (ad.add (k * 3)) = false
def CInv (w : World) (base g : Nat) (h : Hnd) (m : Img) : Prop :=
  g < w.heap.size ∧ w.cell? ⟨g, 3, none⟩ = some (.slice h.A3 m.methods.length h.c3) ∧ m.methods.length ≤ h.c3 ∧ h.c3 ≤ 9223372036854775807 ∧
    ∀ i x, m.methods[i]? = some x → ∃ am, h.A3 = some am ∧ am.block ≠ g ∧ CodeRow w base g am i x.code.length
theorem CInv.keep {w w' : World} {base g : Nat} {h : Hnd} {m : Img} (H : CInv w base g h m) (hb : Below w.heap.size w w') : CInv w' base g h m := by
  obtain ⟨hg, h3, hl, hc, hi⟩ := H
  have kc : ∀ (p : Addr) (v : Value), w.cell? p = some v → w'.cell? p = some v := fun p v h => (hb.cell (World.block_lt_of_cell? w _ h)).trans h
  refine ⟨Nat.lt_of_lt_of_le hg hb.size, kc _ _ h3, hl, hc, fun i x hx => ?_⟩
  obtain ⟨am, e, hne, A, cap, h4, h5, h6, h7⟩ := hi i x hx
  refine ⟨am, e, hne, A, cap, kc _ _ h4, h5, h6, fun k hk => ?_⟩
  obtain ⟨ad, ea, hb1, hb2, hb3, ⟨z, hz⟩, hf⟩ := h7 k hk
  exact ⟨ad, ea, hb1, hb2, hb3, ⟨z, kc _ _ hz⟩, (hb.frozen (World.block_lt_of_cell? w _ hz)).trans hf⟩
theorem CInv.write {w : World} {base g : Nat} {h : Hnd} {m : Img} {p : Addr} {v : Int} (H : CInv w base g h m) (hp : p.block ≠ g) (ha : ∀ am, h.A3 = some am → p.block ≠ am.block) : CInv (w.setCell p (.int .i64 v)) base g h m := by
  obtain ⟨hg, h3, hl, hc, hi⟩ := H
  refine ⟨by simpa using hg, ?_, hl, hc, fun i x hx => ?_⟩
  · rw [World.cell?_setCell_far w p _ _ hp]
    exact h3
  · obtain ⟨am, e, hne, A, cap, h4, h5, h6, h7⟩ := hi i x hx
    refine ⟨am, e, hne, A, cap, ?_, h5, h6, fun k hk => ?_⟩
    · rw [World.cell?_setCell_far w p _ _ (by show p.block ≠ (am.add _).block; rw [addr_add_block]; exact ha am e)]
      exact h4
    · obtain ⟨ad, ea, hb1, hb2, hb3, ⟨z, hz⟩, hf⟩ := h7 k hk
      refine ⟨ad, ea, hb1, hb2, hb3, ?_, by rw [World.frozen?_setCell]; exact hf⟩
      by_cases e : p = ad.add (k * 3)
      · subst e
        exact ⟨v, World.cell?_setCell_same (h := hz) ..⟩
      · exact ⟨z, (World.cell?_setCell_other (h := e) ..).trans hz⟩
theorem CInv.new {w : World} {base : Nat} {h : Hnd} {m : Img} (HI : ImgIn w w.heap.size h m) (HO : OwnCode base w h m) (hB : base ≤ w.heap.size) : CInv (w.alloc (imgO h m)) base w.heap.size h m := by
  have hb : Below w.heap.size w (w.alloc (imgO h m)) := below_box
  have kc : ∀ (p : Addr) (v : Value), w.cell? p = some v → (w.alloc (imgO h m)).cell? p = some v := fun p v h => (hb.cell (World.block_lt_of_cell? w _ h)).trans h
  refine ⟨by simp, (img_box w h m).2.2.2.1, HI.methods.le, HI.methods.cap, fun i x hx => ?_⟩
  obtain ⟨am, e, hab, ha⟩ := HI.methods.row i x hx
  obtain ⟨_, _, _, _, ⟨A, cap, h4, hs⟩, _, _, _⟩ := ha
  refine ⟨am, e, by omega, A, cap, kc _ _ h4, hs.le, hs.cap, fun k hk => ?_⟩
  obtain ⟨am', e', _, hq⟩ := HO i x hx
  obtain rfl : am = am' := by rw [e] at e'; injection e'
  obtain ⟨ad, cap', h4', hb1, hb2, hf⟩ := hq k hk
  rw [h4] at h4'
  simp only [Option.some.injEq, Value.slice.injEq] at h4'
  obtain ⟨rfl, _, _⟩ := h4'
  obtain ⟨ad', e'', hadb, hc0, _⟩ := hs.row.at_ hk
  obtain rfl : ad = ad' := by injection e''
  exact ⟨ad, rfl, hb1, hb2, by omega, ⟨_, kc _ _ hc0⟩, (hb.frozen (World.block_lt_of_cell? w _ hc0)).trans hf⟩

set_option maxHeartbeats 3200000 in
theorem imgSames_any (a b : Img) (ha hb : Hnd) (w : World) (H : ImgIn w w.heap.size ha a) (H' : ImgIn w w.heap.size hb b) (hs : ImgSized a) :
    Calls Try.prog 5 #[imgV ha a, imgV hb b] w fun e w' => e = .returned (.bool true) ∧ Below w.heap.size w w' := by
  obtain ⟨r, hr⟩ : ∃ r, decide (a = b) = r := ⟨_, rfl⟩
  have HR := Lib.hid hr
  have HSZ := Lib.hid hs
  clear hr hs
  have hb1 := below_box (w := w) (h := ha) (m := a)
  have HM := Lib.hid ((Boxed.new H).keep (below_box (w := w.alloc (imgO ha a)) (h := hb) (m := b)))
  have HB := Lib.hid (Boxed.new (H'.now hb1))
  have HW := Lib.hid (hb1.trans ((below_box (w := w.alloc (imgO ha a)) (h := hb) (m := b)).mono hb1.size))
  rw [show (w.alloc (imgO ha a)).heap.size = w.heap.size + 1 by simp] at HB
  clear H H' hb1
  go_enter Try.func5, Try.ntmps5
  go_upto_region 1 with fail
  generalize (w.alloc (imgO ha a)).alloc (imgO hb b) = w1 at *
  obtain ⟨q0, q1, q2, q3, q4, q5, q6⟩ := HM.out.box
  obtain ⟨p0, p1, p2, p3, p4, p5, p6⟩ := HB.out.box
  go_upto_region 4 with (first | (go_at_call 8; (with_reducible refine (small_is HM).mono ?_); rintro e w2 ⟨b1, rfl, hb⟩; have HM := Lib.hid (HM.out.keep hb); have HB := Lib.hid (HB.out.keep hb); have HW := Lib.hid (HW.out.trans (hb.mono HW.out.size)); obtain ⟨q0, q1, q2, q3, q4, q5, q6⟩ := HM.out.box; obtain ⟨p0, p1, p2, p3, p4, p5, p6⟩ := HB.out.box; clear hb) | (go_at_call 8; (with_reducible refine (small_is HB).mono ?_); rintro e w2 ⟨b2, rfl, hb⟩; have HM := Lib.hid (HM.out.keep hb); have HB := Lib.hid (HB.out.keep hb); have HW := Lib.hid (HW.out.trans (hb.mono HW.out.size)); obtain ⟨q0, q1, q2, q3, q4, q5, q6⟩ := HM.out.box; obtain ⟨p0, p1, p2, p3, p4, p5, p6⟩ := HB.out.box; clear hb) | (go_at_call 9; (with_reducible refine (imgAwake_any _).mono ?_); rintro e w2 ⟨rfl, hb⟩; have HM := Lib.hid (HM.out.keep hb); have HB := Lib.hid (HB.out.keep hb); have HW := Lib.hid (HW.out.trans (hb.mono HW.out.size)); obtain ⟨q0, q1, q2, q3, q4, q5, q6⟩ := HM.out.box; obtain ⟨p0, p1, p2, p3, p4, p5, p6⟩ := HB.out.box; clear hb) | (go_at_call 16; (with_reducible refine (icopy_any a ha _ _ (Nat.le_refl _) HM.out.img HSZ.out).mono ?_); have HM0 := HM; have HB0 := HB; have HW0 := HW; rintro e w3 ⟨hc, rfl, hi, hb, hoc⟩; have HI := Lib.hid hi; have HOC := Lib.hid hoc; have HX0 := Lib.hid hb; have HM := Lib.hid (HM.out.keep hb); have HB := Lib.hid (HB.out.keep hb); have HW := Lib.hid (HW.out.trans (hb.mono HW.out.size)); obtain ⟨q0, q1, q2, q3, q4, q5, q6⟩ := HM.out.box; obtain ⟨p0, p1, p2, p3, p4, p5, p6⟩ := HB.out.box; clear hi hb hoc))
  all_goals (try (go_ret; exact ⟨rfl, HW.out⟩))
  have HX := Lib.hid (Boxed.new HI.out)
  have HC := Lib.hid (CInv.new HI.out HOC.out HX0.out.size)
  have HM := Lib.hid (HM.out.keep (below_box (h := hc) (m := a)))
  have HB := Lib.hid (HB.out.keep (below_box (h := hc) (m := a)))
  have HW := Lib.hid (HW.out.trans ((below_box (h := hc) (m := a)).mono HW.out.size))
  have HX0 := Lib.hid (HX0.out.trans ((below_box (h := hc) (m := a)).mono HX0.out.size))
  generalize hg : w3.heap.size = g at HX HC ⊢
  clear HI HOC hg q0 q1 q2 q3 q4 q5 q6 p0 p1 p2 p3 p4 p5 p6
  generalize w3.alloc (imgO hc a) = w4 at *
  obtain ⟨q0, q1, q2, q3, q4, q5, q6⟩ := HM.out.box
  obtain ⟨p0, p1, p2, p3, p4, p5, p6⟩ := HB.out.box
  obtain ⟨r0, r1, r2, r3, r4, r5, r6⟩ := HX.out.box
  go_wp2_with (first | (go_at_call 15; (with_reducible refine (rsame_is HM HB HR).mono ?_); rintro e w5 ⟨rfl, hb⟩; have HM := Lib.hid (HM.out.keep hb); have HB := Lib.hid (HB.out.keep hb); have HW := Lib.hid (HW.out.trans (hb.mono HW.out.size)); have HX := Lib.hid (HX.out.keep hb); have HC := Lib.hid (HC.out.keep hb); have HX0 := Lib.hid (HX0.out.trans (hb.mono HX0.out.size)); obtain ⟨r0, r1, r2, r3, r4, r5, r6⟩ := HX.out.box; obtain ⟨q0, q1, q2, q3, q4, q5, q6⟩ := HM.out.box; obtain ⟨p0, p1, p2, p3, p4, p5, p6⟩ := HB.out.box; clear hb) | (go_at_call 17; (with_reducible refine (isame_is HM HB HR).mono ?_); rintro e w5 ⟨rfl, hb⟩; have HM := Lib.hid (HM.out.keep hb); have HB := Lib.hid (HB.out.keep hb); have HW := Lib.hid (HW.out.trans (hb.mono HW.out.size)); have HX := Lib.hid (HX.out.keep hb); have HC := Lib.hid (HC.out.keep hb); have HX0 := Lib.hid (HX0.out.trans (hb.mono HX0.out.size)); obtain ⟨r0, r1, r2, r3, r4, r5, r6⟩ := HX.out.box; obtain ⟨q0, q1, q2, q3, q4, q5, q6⟩ := HM.out.box; obtain ⟨p0, p1, p2, p3, p4, p5, p6⟩ := HB.out.box; clear hb) | (go_at_call 17; (with_reducible refine (isame_is HM HX (Lib.hid (decide_eq_true rfl))).mono ?_); rintro e w5 ⟨rfl, hb⟩; have HM := Lib.hid (HM.out.keep hb); have HB := Lib.hid (HB.out.keep hb); have HW := Lib.hid (HW.out.trans (hb.mono HW.out.size)); have HX := Lib.hid (HX.out.keep hb); have HC := Lib.hid (HC.out.keep hb); have HX0 := Lib.hid (HX0.out.trans (hb.mono HX0.out.size)); obtain ⟨r0, r1, r2, r3, r4, r5, r6⟩ := HX.out.box; obtain ⟨q0, q1, q2, q3, q4, q5, q6⟩ := HM.out.box; obtain ⟨p0, p1, p2, p3, p4, p5, p6⟩ := HB.out.box; clear hb) | (go_at_call 15; (with_reducible refine (rsame_is HM HX (Lib.hid (decide_eq_true rfl))).mono ?_); rintro e w5 ⟨rfl, hb⟩; have HM := Lib.hid (HM.out.keep hb); have HB := Lib.hid (HB.out.keep hb); have HW := Lib.hid (HW.out.trans (hb.mono HW.out.size)); have HX := Lib.hid (HX.out.keep hb); have HC := Lib.hid (HC.out.keep hb); have HX0 := Lib.hid (HX0.out.trans (hb.mono HX0.out.size)); obtain ⟨r0, r1, r2, r3, r4, r5, r6⟩ := HX.out.box; obtain ⟨q0, q1, q2, q3, q4, q5, q6⟩ := HM.out.box; obtain ⟨p0, p1, p2, p3, p4, p5, p6⟩ := HB.out.box; clear hb))
  go_loopw [7] (fun i wr => ∃ k : Nat, k ≤ a.methods.length ∧ i = .int .i64 k ∧ Hid (CInv wr w2.heap.size g hc a) ∧ Hid (Below w2.heap.size w2 wr)) (fun i _ => a.methods.length - (intOf i).toNat)
  case atStart => exact ⟨0, by omega, rfl, HC, HX0⟩
  case round =>
    clear HX HC HX0 HM HB HW q0 q1 q2 q3 q4 q5 q6 p0 p1 p2 p3 p4 p5 p6 r0 r1 r2 r3 r4 r5 r6
    obtain ⟨k, hk, rfl, HC, HX0⟩ := hrel
    obtain ⟨_, r3, hl1, hl2, hi⟩ := HC.out
    by_cases hlt : k < a.methods.length
    · obtain ⟨am, e, hne, A, cap, h4, h5, h6, _⟩ := hi k _ (List.getElem?_eq_getElem hlt)
      rw [e] at r3
      have HGE := Lib.hid (List.getElem?_eq_getElem hlt)
      have HAM := Lib.hid e
      clear e hi
      generalize a.methods[k] = x at *
      go_wp2_with fail
      go_loopw [8] (fun i wz => ∃ j : Nat, j ≤ x.code.length ∧ i = .int .i64 j ∧ Hid (CInv wz w2.heap.size g hc a) ∧ Hid (Below w2.heap.size w2 wz)) (fun i _ => x.code.length - (intOf i).toNat)
      case atStart => exact ⟨0, by omega, rfl, HC, HX0⟩
      case round =>
        clear HC HX0 r3 h4 h5 h6
        obtain ⟨j, hj, rfl, HC, HX0⟩ := hrel
        obtain ⟨_, r3, _, _, hi⟩ := HC.out
        rw [HAM.out] at r3
        obtain ⟨am', e, _, A, cap, h4, h5, h6, h7⟩ := hi k _ HGE.out
        obtain rfl : am = am' := by rw [HAM.out] at e; injection e
        clear e hi
        by_cases hltj : j < x.code.length
        · obtain ⟨ad, rfl, b1, b2, b3, ⟨z, hz⟩, hf⟩ := h7 j hltj
          have HC2 := Lib.hid (fun v => HC.out.write (p := ad.add (j * 3)) (v := v) (by rw [addr_add_block]; exact b3) (fun am2 e2 => by rw [addr_add_block]; rw [HAM.out] at e2; injection e2 with e2; subst e2; exact b2))
          have HX2 := Lib.hid (fun (v : Int) => (show Below w2.heap.size w2 (wr.setCell (ad.add (j * 3)) (.int .i64 v)) from HX0.out.setCell (by rw [addr_add_block]; exact b1) _))
          clear h7 b1 b2 b3
          go_wp2_with fail
          go_roundw
          case rel => exact ⟨j + 1, by omega, by go_num, Lib.hid (HC2.out _), Lib.hid (HX2.out _)⟩
          case measure => simp [intOf]; omega
        · clear h7
          go_wp2_with fail
          go_roundw
          case rel => exact ⟨k + 1, by omega, by go_num, HC, HX0⟩
          case measure => simp [intOf]; omega
    · have HM := Lib.hid (HM0.out.keep HX0.out)
      have HB := Lib.hid (HB0.out.keep HX0.out)
      have HW := Lib.hid (HW0.out.trans (HX0.out.mono HW0.out.size))
      clear hi
      obtain ⟨q0, q1, q2, q3, q4, q5, q6⟩ := HM.out.box
      obtain ⟨p0, p1, p2, p3, p4, p5, p6⟩ := HB.out.box
      go_wp2_with (first | (go_at_call 9; (with_reducible refine (imgAwake_any _).mono ?_); rintro e w2 ⟨rfl, hb⟩; have HM := Lib.hid (HM.out.keep hb); have HB := Lib.hid (HB.out.keep hb); have HW := Lib.hid (HW.out.trans (hb.mono HW.out.size)); obtain ⟨q0, q1, q2, q3, q4, q5, q6⟩ := HM.out.box; obtain ⟨p0, p1, p2, p3, p4, p5, p6⟩ := HB.out.box; clear hb) | (go_at_call 15; (with_reducible refine (rsame_is HM HB HR).mono ?_); rintro e w2 ⟨rfl, hb⟩; have HM := Lib.hid (HM.out.keep hb); have HB := Lib.hid (HB.out.keep hb); have HW := Lib.hid (HW.out.trans (hb.mono HW.out.size)); obtain ⟨q0, q1, q2, q3, q4, q5, q6⟩ := HM.out.box; obtain ⟨p0, p1, p2, p3, p4, p5, p6⟩ := HB.out.box; clear hb))
      go_ret
      exact ⟨by simp, HW.out⟩
end Go.Proofs.Ytikljohgdgibnaa
