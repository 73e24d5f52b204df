/-
  What the program's own slotsNamed comes to.
-/
import Derived.Test.YtjgfoialajgfhaaSaneSlots
import Derived.Test.YtjgfoialajgfhaaSaneAlike
namespace Go.Proofs.Ytjgfoialajgfhaa
set_option maxRecDepth 100000
set_option linter.unusedVariables false
set_option linter.unusedSimpArgs false
open Go.ChangeShapes Go.WideShapes Go.ChangeAt Go.RowKit
set_option linter.unusedVariables false
set_option linter.unusedSimpArgs false

/-- May a class's slots stand where those of its Super are wanted? -/
def slotsB (m : Img) (i : Nat) (x : Cls) : Bool := decide ((aboveSlots m x).length ≤ x.slots.length) && slotsFrom m (i : Int) (aboveSlots m x) 0 x.slots
theorem slot_takes {m : Img} {c : Int} {ab : List Int} {k n : Nat} (h : takesB m c (n : Int) = false) : slotB m c ab k (n : Int) = false := by
  unfold takesB at h
  unfold slotB
  cases hf : m.methods[(n : Int).toNat]? with
  | none => rfl
  | some f =>
    rw [hf] at h
    dsimp only at h ⊢
    cases ha : f.args with
    | nil => rfl
    | cons t r => rw [ha] at h; dsimp only at h ⊢; rw [h]; rfl
theorem takes_some {m : Img} {c : Int} {n : Nat} (h : takesB m c (n : Int) = true) : ∃ f t r, m.methods[n]? = some f ∧ f.args = t :: r ∧ subB (supsOf m.classes) 3 c t.1 t.2 = true := by
  unfold takesB at h
  rw [Int.toNat_natCast] at h
  cases hf : m.methods[n]? with
  | none => rw [hf] at h; simp at h
  | some f =>
    rw [hf] at h
    dsimp only at h
    cases ha : f.args with
    | nil => rw [ha] at h; simp at h
    | cons t r => rw [ha] at h; exact ⟨f, t, r, rfl, ha, h⟩
theorem stakes_is {m : Img} {c : Int} {n : Nat} {h : Hnd} {w0 w : World} {r : Bool} (HI : Hid (ImgIn w0 w0.heap.size h m)) (HX : Hid (Below w0.heap.size w0 w)) (HN : Hid (m.classes.length ≤ 1000)) (HR : Hid (takesB m c (n : Int) = r)) :
    Calls Try.prog 49 #[imgV h m, .int .i64 (n : Int), .int .i64 c] w fun e w' => e = .returned (.bool r) ∧ Below w.heap.size w w' := by
  have H := stakes_any m c n h w (HI.out.now HX.out) HN.out
  rw [HR.out] at H
  exact H
theorem salike_is {x y : Mth} {hx hy : MHnd} {w0 w : World} {r : Bool} (HM : Hid (MthIn w0 w0.heap.size hx x)) (HM' : Hid (MthIn w0 w0.heap.size hy y)) (HX : Hid (Below w0.heap.size w0 w)) (HP : Hid (0 < x.args.length)) (HP' : Hid (0 < y.args.length)) (HR : Hid (alikeB x y = r)) :
    Calls Try.prog 50 #[mthV hx x, mthV hy y] w fun e w' => e = .returned (.bool r) ∧ Below w.heap.size w w' := by
  have H := salike_any x y hx hy w (HM.out.now HX.out) (HM'.out.now HX.out) HP.out HP'.out
  rw [HR.out] at H
  exact H

theorem sabove_at {m : Img} {i : Nat} {x : Cls} {h : Hnd} {w0 w : World} {ad : Addr} {AB : List Int} (HC : Hid (SlcIs ClsAt 3 w0 w0.heap.size h.A0 h.c0 m.classes)) (HX : Hid (Below w0.heap.size w0 w)) (HG : Hid (m.classes[i]? = some x)) (HS : Hid (x.sup < m.classes.length)) (HE : Hid (h.A0 = some ad)) (HA : Hid (aboveSlots m x = AB)) :
    Calls Try.prog 48 #[.slice (some ad) m.classes.length h.c0, .int .i64 (i : Int)] w (AboveOut w0 w AB) := by
  have H := sabove_any m i x h w0 w HC.out HX.out HG.out HS.out
  rw [HE.out, HA.out] at H
  exact H

set_option maxHeartbeats 6400000 in
theorem sslots_any (m : Img) (x : Cls) (i : Nat) (h : Hnd) (w : World) (H : ImgIn w w.heap.size h m) (hx : m.classes[i]? = some x) (hs0 : ∀ y ∈ m.classes, ∀ s ∈ y.slots, 0 ≤ s) (hsu : x.sup < m.classes.length) (hn : m.classes.length ≤ 1000)
    (hq : ∀ q ∈ aboveSlots m x, 0 ≤ q ∧ ∃ g, m.methods[q.toNat]? = some g ∧ 0 < g.args.length) :
    Calls Try.prog 33 #[imgV h m, .int .i64 (i : Int)] w fun e w' => e = .returned (.bool (slotsB m i x)) ∧ Below w.heap.size w w' := by
  obtain ⟨hil, hxe⟩ := List.getElem?_eq_some_iff.mp hx
  have HW := Lib.hid (below_box (w := w) (h := h) (m := m))
  have HBX := Lib.hid (img_box w h m)
  have HZ : Hid (w.heap.size < (w.alloc (imgO h m)).heap.size) := Lib.hid (by simp)
  have HI := Lib.hid (H.now HW.out)
  have HCL := Lib.hid (H.now HW.out).classes
  have HN := Lib.hid hn
  have HGX := Lib.hid hx
  have HXM := Lib.hid (List.mem_of_getElem? hx)
  have HS0 := Lib.hid hs0
  have HPQ := Lib.hid hq
  have HSU := Lib.hid hsu
  have l0 := H.classes.le
  have l0c := H.classes.cap
  have l3 := H.methods.le
  have l3c := H.methods.cap
  obtain ⟨AB, hAB⟩ : ∃ AB, aboveSlots m x = AB := ⟨_, rfl⟩
  have HAB := Lib.hid hAB
  clear H hn hx hxe hs0 hq hsu hAB
  go_enter Try.func33, Try.ntmps33
  go_upto_region 1 with fail
  generalize w.alloc (imgO h m) = w1 at *
  obtain ⟨q0, q1, q2, q3, q4, q5, q6⟩ := HBX.out
  obtain ⟨adc, e0, habc, hcl⟩ := HI.out.classes.row i x HGX.out
  obtain ⟨_, _, ⟨A2, k2, s2, hs2⟩, _⟩ := hcl
  have HE0 := Lib.hid e0
  have HSs := Lib.hid hs2
  have l5 := hs2.le
  have l5c := hs2.cap
  have HS2 : Hid (∀ W, Below w1.heap.size w1 W → W.cell? (off_ (adc.add (i * 3)) 2) = some (.slice A2 x.slots.length k2)) := Lib.hid (fun W hW => (hW.cell (p := off_ (adc.add (i * 3)) 2) (by show (adc.add _).block < _; rw [addr_add_block]; exact habc)).trans s2)
  rw [e0] at q0
  clear e0 hs2 habc
  have hXd : Below w1.heap.size w1 w1.drew := (Below.refl _ _).drew
  have HXd := Lib.hid hXd
  clear hXd
  go_region_held3 (fun w' => w'.cell? ⟨w.heap.size, 0, none⟩ = some (.slice (some adc) m.classes.length h.c0) ∧ w'.cell? (off_ (adc.add (i * 3)) 2) = some (.slice A2 x.slots.length k2)) (first | exact ⟨q0, s2⟩) (first | (go_at_call 48; (with_reducible refine (sabove_at HCL HXd HGX HSU HE0 HAB).mono ?_); rintro e w3 ⟨A6, k6, rfl, hAB, rfl⟩))
  have HSA := Lib.hid hAB
  have l6 := hAB.le
  have l6c := hAB.cap
  clear hAB
  have HX := HXd
  generalize w1.drew = w2 at *
  by_cases c3 : AB.length ≤ x.slots.length
  rotate_left
  · have ct3 : (x.slots.length : Int) < (AB.length : Int) := by omega
    have E2 := Lib.hid (show slotsB m i x = false by unfold slotsB; rw [HAB.out, decide_eq_false c3]; rfl)
    go_wp2_with fail
    go_ret
    exact ⟨by rw [E2.out]; rfl, HW.out.trans (HX.out.mono (Nat.le_of_lt HZ.out))⟩
  have ct3 : ¬ (x.slots.length : Int) < (AB.length : Int) := by omega
  have C3 := Lib.hid c3
  clear c3
  go_wp2_with fail
  go_loopw [26] (fun i' wr => ∃ k : Nat, k ≤ x.slots.length ∧ i' = .int .i64 k ∧ Hid (slotsFrom m (i : Int) AB 0 x.slots = slotsFrom m (i : Int) AB k (x.slots.drop k)) ∧ Hid (Below w1.heap.size w1 wr)) (fun i' _ => x.slots.length - (intOf i').toNat)
  case atStart => exact ⟨0, by omega, rfl, Lib.hid rfl, HX⟩
  case round =>
    clear HX q0 q1 q2 q3 q4 q5 q6 s2 HXd
    obtain ⟨k, hk, rfl, HK, HX⟩ := hrel
    obtain ⟨q0, q1, q2, q3, q4, q5, q6⟩ := HBX.out.keep HX.out HZ.out
    by_cases hlt : k < x.slots.length
    · obtain ⟨ads, e2, habs, hcs⟩ := HSs.out.row.at_ hlt
      have HKK := Lib.hid (HK.out.trans (slots_drop hlt))
      have hs0 := HS0.out x HXM.out x.slots[k] (List.getElem_mem hlt)
      rw [Nat.mul_one] at hcs
      rw [e2]
      have ks := (HX.out.cell (p := ads.add k) (by rw [addr_add_block]; exact habs)).trans hcs
      generalize x.slots[k] = s at *
      obtain ⟨n, rfl⟩ := Int.eq_ofNat_of_zero_le hs0
      clear e2 hcs habs hs0
      obtain ⟨d4, hd4⟩ : ∃ d, takesB m (i : Int) (n : Int) = d := ⟨_, rfl⟩
      have D4 := Lib.hid hd4
      clear hd4
      cases d4
      · have SL := Lib.hid (slot_takes (ab := AB) (k := k) D4.out)
        have E2 := Lib.hid (show slotsB m i x = false by unfold slotsB; rw [HAB.out, HKK.out, SL.out]; simp)
        go_wp2_with (go_at_call 49; (with_reducible refine (stakes_is HI HX HN D4).mono ?_); rintro e w3 ⟨rfl, hb⟩; have HX := Lib.hid (HX.out.trans (hb.mono HX.out.size)); obtain ⟨q0, q1, q2, q3, q4, q5, q6⟩ := HBX.out.keep HX.out HZ.out; clear hb)
        go_ret
        exact ⟨by rw [E2.out]; rfl, HW.out.trans (HX.out.mono (Nat.le_of_lt HZ.out))⟩
      · go_upto_region 9 with (go_at_call 49; (with_reducible refine (stakes_is HI HX HN D4).mono ?_); rintro e w3 ⟨rfl, hb⟩; have HX := Lib.hid (HX.out.trans (hb.mono HX.out.size)); obtain ⟨q0, q1, q2, q3, q4, q5, q6⟩ := HBX.out.keep HX.out HZ.out; clear hb)
        by_cases hka : k < AB.length
        · obtain ⟨f, tf, rf, hfm, hfa, hsub⟩ := takes_some D4.out
          obtain ⟨hnl, hfe⟩ := List.getElem?_eq_some_iff.mp hfm
          obtain ⟨adm, e3, habm, hcm⟩ := HI.out.methods.row n f hfm
          have HME := Lib.hid hfm
          have HFA := Lib.hid hfa
          have HSUB := Lib.hid hsub
          have hfp : 0 < f.args.length := by rw [hfa]; simp
          obtain ⟨hq0, gm, hgm, hgp⟩ := HPQ.out AB[k] (by rw [HAB.out]; exact List.getElem_mem hka)
          have HQK := Lib.hid (List.getElem?_eq_getElem hka)
          obtain ⟨adq, rfl, habq, hcq⟩ := HSA.out.row.at_ hka
          rw [Nat.mul_one] at hcq
          generalize AB[k] = qq at *
          obtain ⟨q, rfl⟩ := Int.eq_ofNat_of_zero_le hq0
          rw [Int.toNat_natCast] at hgm
          obtain ⟨hql, _⟩ := List.getElem?_eq_some_iff.mp hgm
          obtain ⟨adm2, e6, habg, hcg⟩ := HI.out.methods.row q gm hgm
          obtain rfl : adm = adm2 := by rw [e3] at e6; injection e6
          have HGE := Lib.hid hgm
          have SL0 : Hid (slotB m (i : Int) AB k (n : Int) = alikeB f gm) := Lib.hid (by
            rw [slot_above (c := (i : Int)) (ab := AB) (k := k) HME.out HFA.out HSUB.out HQK.out HGE.out]
            unfold alikeB
            rw [HFA.out]
            rfl)
          have HE3 := Lib.hid e3
          have HBQ : Hid ((adq.add k).block < w1.heap.size) := Lib.hid (by rw [addr_add_block]; exact habq)
          have HCQ : Hid (w1.cell? (adq.add k) = some (.int .i64 (q : Int))) := Lib.hid hcq
          have HPm : Hid ((adm.add (n * 8)).block < w1.heap.size) := Lib.hid (by rw [addr_add_block]; exact habm)
          have HPg : Hid ((adm.add (q * 8)).block < w1.heap.size) := Lib.hid (by rw [addr_add_block]; exact habg)
          rw [e3] at q3

          clear e3 e6 hfm hgm hcq habq habm habg hfe hsub hfa HFA HSUB HME HGE HQK hq0
          obtain ⟨fa, fl, ⟨fr0, fr1⟩, fc, fd, fp, fh⟩ := f
          obtain ⟨⟨A0f, j0, f0, hf0⟩, ⟨A1f, j1, f1, hf1⟩, f2, f3, ⟨A4f, j4, f4, hf4⟩, f5, f6, ⟨A7f, j7, f7, hf7⟩⟩ := hcm
          obtain ⟨ga, gl, ⟨gr0, gr1⟩, gc, gd, gp, gh⟩ := gm
          obtain ⟨⟨A0g, i0, g0, hg0⟩, ⟨A1g, i1, g1, hg1⟩, g2, g3, ⟨A4g, i4, g4, hg4⟩, g5, g6, ⟨A7g, i7, g7, hg7⟩⟩ := hcg
          have HMF : Hid (MthIn w1 w1.heap.size ⟨A0f, A1f, A4f, A7f, j0, j1, j4, j7⟩ ⟨fa, fl, (fr0, fr1), fc, fd, fp, fh⟩) := Lib.hid ⟨hf0, hf1, hf4, hf7⟩
          have HMG : Hid (MthIn w1 w1.heap.size ⟨A0g, A1g, A4g, A7g, i0, i1, i4, i7⟩ ⟨ga, gl, (gr0, gr1), gc, gd, gp, gh⟩) := Lib.hid ⟨hg0, hg1, hg4, hg7⟩
          dsimp only at f0 f1 f2 f3 f4 f5 f6 f7 g0 g1 g2 g3 g4 g5 g6 g7 hfp hgp
          have HPF : Hid (0 < (⟨fa, fl, (fr0, fr1), fc, fd, fp, fh⟩ : Mth).args.length) := Lib.hid hfp
          have HPG : Hid (0 < (⟨ga, gl, (gr0, gr1), gc, gd, gp, gh⟩ : Mth).args.length) := Lib.hid hgp
          have HF0 := Lib.hid (And.intro f0 (And.intro f1 (And.intro f2 (And.intro f3 (And.intro f4 (And.intro f5 (And.intro f6 f7)))))))
          have HG0 := Lib.hid (And.intro g0 (And.intro g1 (And.intro g2 (And.intro g3 (And.intro g4 (And.intro g5 (And.intro g6 g7)))))))
          clear f0 f1 f2 f3 f4 f5 f6 f7 g0 g1 g2 g3 g4 g5 g6 g7 hf0 hf1 hf4 hf7 hg0 hg1 hg4 hg7 hfp hgp
          have f0 := (HX.out.cell HPm.out).trans HF0.out.1
          have f1 := (HX.out.cell (p := off_ (adm.add (n * 8)) 1) HPm.out).trans HF0.out.2.1
          have f2 := (HX.out.cell (p := off_ (adm.add (n * 8)) 2) HPm.out).trans HF0.out.2.2.1
          have f3 := (HX.out.cell (p := off_ (adm.add (n * 8)) 3) HPm.out).trans HF0.out.2.2.2.1
          have f4 := (HX.out.cell (p := off_ (adm.add (n * 8)) 4) HPm.out).trans HF0.out.2.2.2.2.1
          have f5 := (HX.out.cell (p := off_ (adm.add (n * 8)) 5) HPm.out).trans HF0.out.2.2.2.2.2.1
          have f6 := (HX.out.cell (p := off_ (adm.add (n * 8)) 6) HPm.out).trans HF0.out.2.2.2.2.2.2.1
          have f7 := (HX.out.cell (p := off_ (adm.add (n * 8)) 7) HPm.out).trans HF0.out.2.2.2.2.2.2.2
          have g0 := (HX.out.cell HPg.out).trans HG0.out.1
          have g1 := (HX.out.cell (p := off_ (adm.add (q * 8)) 1) HPg.out).trans HG0.out.2.1
          have g2 := (HX.out.cell (p := off_ (adm.add (q * 8)) 2) HPg.out).trans HG0.out.2.2.1
          have g3 := (HX.out.cell (p := off_ (adm.add (q * 8)) 3) HPg.out).trans HG0.out.2.2.2.1
          have g4 := (HX.out.cell (p := off_ (adm.add (q * 8)) 4) HPg.out).trans HG0.out.2.2.2.2.1
          have g5 := (HX.out.cell (p := off_ (adm.add (q * 8)) 5) HPg.out).trans HG0.out.2.2.2.2.2.1
          have g6 := (HX.out.cell (p := off_ (adm.add (q * 8)) 6) HPg.out).trans HG0.out.2.2.2.2.2.2.1
          have g7 := (HX.out.cell (p := off_ (adm.add (q * 8)) 7) HPg.out).trans HG0.out.2.2.2.2.2.2.2
          have ksq := (HX.out.cell HBQ.out).trans HCQ.out
          have HXd := Lib.hid HX.out.drew
          have hnl' : (n : Int) < m.methods.length := by omega
          have hql' : (q : Int) < m.methods.length := by omega
          have hkai : (k : Int) < (AB.length : Int) := by omega
          obtain ⟨d5, hd5⟩ : ∃ d, alikeB ⟨fa, fl, (fr0, fr1), fc, fd, fp, fh⟩ ⟨ga, gl, (gr0, gr1), gc, gd, gp, gh⟩ = d := ⟨_, rfl⟩
          have D5 := Lib.hid hd5
          rw [hd5] at SL0
          clear hd5
          cases d5
          · have E2 := Lib.hid (show slotsB m i x = false by unfold slotsB; rw [HAB.out, HKK.out, SL0.out]; simp)
            go_region_held3 (fun w' => w'.cell? ⟨w.heap.size, 3, none⟩ = some (.slice (some adm) m.methods.length h.c3) ∧ w'.cell? (adq.add k) = some (.int .i64 (q : Int)) ∧ w'.cell? (adm.add (n * 8)) = some (.slice A0f fa.length j0) ∧ w'.cell? (off_ (adm.add (n * 8)) 1) = some (.slice A1f fl.length j1) ∧ w'.cell? (off_ (adm.add (n * 8)) 2) = some (.int .i64 fr0) ∧ w'.cell? (off_ (adm.add (n * 8)) 3) = some (.int .i64 fr1) ∧ w'.cell? (off_ (adm.add (n * 8)) 4) = some (.slice A4f fc.length j4) ∧ w'.cell? (off_ (adm.add (n * 8)) 5) = some (.int .i64 fd) ∧ w'.cell? (off_ (adm.add (n * 8)) 6) = some (.int .i64 fp) ∧ w'.cell? (off_ (adm.add (n * 8)) 7) = some (.slice A7f fh.length j7) ∧ w'.cell? (adm.add (q * 8)) = some (.slice A0g ga.length i0) ∧ w'.cell? (off_ (adm.add (q * 8)) 1) = some (.slice A1g gl.length i1) ∧ w'.cell? (off_ (adm.add (q * 8)) 2) = some (.int .i64 gr0) ∧ w'.cell? (off_ (adm.add (q * 8)) 3) = some (.int .i64 gr1) ∧ w'.cell? (off_ (adm.add (q * 8)) 4) = some (.slice A4g gc.length i4) ∧ w'.cell? (off_ (adm.add (q * 8)) 5) = some (.int .i64 gd) ∧ w'.cell? (off_ (adm.add (q * 8)) 6) = some (.int .i64 gp) ∧ w'.cell? (off_ (adm.add (q * 8)) 7) = some (.slice A7g gh.length i7)) (first | exact ⟨q3, ksq, f0, f1, f2, f3, f4, f5, f6, f7, g0, g1, g2, g3, g4, g5, g6, g7⟩) (first | (go_at_call 50; (with_reducible refine (salike_is HMF HMG HXd HPF HPG D5).mono ?_); rintro e w5 ⟨rfl, hb⟩; have HX := Lib.hid (HXd.out.trans (hb.mono HXd.out.size)); obtain ⟨q0, q1, q2, q3, q4, q5, q6⟩ := HBX.out.keep HX.out HZ.out; rw [HE3.out] at q3; have ksq := (HX.out.cell HBQ.out).trans HCQ.out; have f0 := (HX.out.cell HPm.out).trans HF0.out.1; have f1 := (HX.out.cell (p := off_ (adm.add (n * 8)) 1) HPm.out).trans HF0.out.2.1; have f2 := (HX.out.cell (p := off_ (adm.add (n * 8)) 2) HPm.out).trans HF0.out.2.2.1; have f3 := (HX.out.cell (p := off_ (adm.add (n * 8)) 3) HPm.out).trans HF0.out.2.2.2.1; have f4 := (HX.out.cell (p := off_ (adm.add (n * 8)) 4) HPm.out).trans HF0.out.2.2.2.2.1; have f5 := (HX.out.cell (p := off_ (adm.add (n * 8)) 5) HPm.out).trans HF0.out.2.2.2.2.2.1; have f6 := (HX.out.cell (p := off_ (adm.add (n * 8)) 6) HPm.out).trans HF0.out.2.2.2.2.2.2.1; have f7 := (HX.out.cell (p := off_ (adm.add (n * 8)) 7) HPm.out).trans HF0.out.2.2.2.2.2.2.2; have g0 := (HX.out.cell HPg.out).trans HG0.out.1; have g1 := (HX.out.cell (p := off_ (adm.add (q * 8)) 1) HPg.out).trans HG0.out.2.1; have g2 := (HX.out.cell (p := off_ (adm.add (q * 8)) 2) HPg.out).trans HG0.out.2.2.1; have g3 := (HX.out.cell (p := off_ (adm.add (q * 8)) 3) HPg.out).trans HG0.out.2.2.2.1; have g4 := (HX.out.cell (p := off_ (adm.add (q * 8)) 4) HPg.out).trans HG0.out.2.2.2.2.1; have g5 := (HX.out.cell (p := off_ (adm.add (q * 8)) 5) HPg.out).trans HG0.out.2.2.2.2.2.1; have g6 := (HX.out.cell (p := off_ (adm.add (q * 8)) 6) HPg.out).trans HG0.out.2.2.2.2.2.2.1; have g7 := (HX.out.cell (p := off_ (adm.add (q * 8)) 7) HPg.out).trans HG0.out.2.2.2.2.2.2.2; clear hb))
            go_wp2_with fail
            go_ret
            exact ⟨by rw [E2.out]; rfl, HW.out.trans (HX.out.mono (Nat.le_of_lt HZ.out))⟩
          · have HK2 := Lib.hid (HKK.out.trans (by rw [SL0.out, Bool.true_and]))
            go_region_held3 (fun w' => w'.cell? ⟨w.heap.size, 3, none⟩ = some (.slice (some adm) m.methods.length h.c3) ∧ w'.cell? (adq.add k) = some (.int .i64 (q : Int)) ∧ w'.cell? (adm.add (n * 8)) = some (.slice A0f fa.length j0) ∧ w'.cell? (off_ (adm.add (n * 8)) 1) = some (.slice A1f fl.length j1) ∧ w'.cell? (off_ (adm.add (n * 8)) 2) = some (.int .i64 fr0) ∧ w'.cell? (off_ (adm.add (n * 8)) 3) = some (.int .i64 fr1) ∧ w'.cell? (off_ (adm.add (n * 8)) 4) = some (.slice A4f fc.length j4) ∧ w'.cell? (off_ (adm.add (n * 8)) 5) = some (.int .i64 fd) ∧ w'.cell? (off_ (adm.add (n * 8)) 6) = some (.int .i64 fp) ∧ w'.cell? (off_ (adm.add (n * 8)) 7) = some (.slice A7f fh.length j7) ∧ w'.cell? (adm.add (q * 8)) = some (.slice A0g ga.length i0) ∧ w'.cell? (off_ (adm.add (q * 8)) 1) = some (.slice A1g gl.length i1) ∧ w'.cell? (off_ (adm.add (q * 8)) 2) = some (.int .i64 gr0) ∧ w'.cell? (off_ (adm.add (q * 8)) 3) = some (.int .i64 gr1) ∧ w'.cell? (off_ (adm.add (q * 8)) 4) = some (.slice A4g gc.length i4) ∧ w'.cell? (off_ (adm.add (q * 8)) 5) = some (.int .i64 gd) ∧ w'.cell? (off_ (adm.add (q * 8)) 6) = some (.int .i64 gp) ∧ w'.cell? (off_ (adm.add (q * 8)) 7) = some (.slice A7g gh.length i7)) (first | exact ⟨q3, ksq, f0, f1, f2, f3, f4, f5, f6, f7, g0, g1, g2, g3, g4, g5, g6, g7⟩) (first | (go_at_call 50; (with_reducible refine (salike_is HMF HMG HXd HPF HPG D5).mono ?_); rintro e w5 ⟨rfl, hb⟩; have HX := Lib.hid (HXd.out.trans (hb.mono HXd.out.size)); obtain ⟨q0, q1, q2, q3, q4, q5, q6⟩ := HBX.out.keep HX.out HZ.out; rw [HE3.out] at q3; have ksq := (HX.out.cell HBQ.out).trans HCQ.out; have f0 := (HX.out.cell HPm.out).trans HF0.out.1; have f1 := (HX.out.cell (p := off_ (adm.add (n * 8)) 1) HPm.out).trans HF0.out.2.1; have f2 := (HX.out.cell (p := off_ (adm.add (n * 8)) 2) HPm.out).trans HF0.out.2.2.1; have f3 := (HX.out.cell (p := off_ (adm.add (n * 8)) 3) HPm.out).trans HF0.out.2.2.2.1; have f4 := (HX.out.cell (p := off_ (adm.add (n * 8)) 4) HPm.out).trans HF0.out.2.2.2.2.1; have f5 := (HX.out.cell (p := off_ (adm.add (n * 8)) 5) HPm.out).trans HF0.out.2.2.2.2.2.1; have f6 := (HX.out.cell (p := off_ (adm.add (n * 8)) 6) HPm.out).trans HF0.out.2.2.2.2.2.2.1; have f7 := (HX.out.cell (p := off_ (adm.add (n * 8)) 7) HPm.out).trans HF0.out.2.2.2.2.2.2.2; have g0 := (HX.out.cell HPg.out).trans HG0.out.1; have g1 := (HX.out.cell (p := off_ (adm.add (q * 8)) 1) HPg.out).trans HG0.out.2.1; have g2 := (HX.out.cell (p := off_ (adm.add (q * 8)) 2) HPg.out).trans HG0.out.2.2.1; have g3 := (HX.out.cell (p := off_ (adm.add (q * 8)) 3) HPg.out).trans HG0.out.2.2.2.1; have g4 := (HX.out.cell (p := off_ (adm.add (q * 8)) 4) HPg.out).trans HG0.out.2.2.2.2.1; have g5 := (HX.out.cell (p := off_ (adm.add (q * 8)) 5) HPg.out).trans HG0.out.2.2.2.2.2.1; have g6 := (HX.out.cell (p := off_ (adm.add (q * 8)) 6) HPg.out).trans HG0.out.2.2.2.2.2.2.1; have g7 := (HX.out.cell (p := off_ (adm.add (q * 8)) 7) HPg.out).trans HG0.out.2.2.2.2.2.2.2; clear hb))
            go_wp2_with fail
            go_roundw
            case rel => exact ⟨k + 1, by omega, by go_num, HK2, HX⟩
            case measure => simp [intOf]; omega
        · have hd : decide ((k : Int) < (AB.length : Int)) = false := decide_eq_false (by omega)
          have hd' : decide (k < AB.length) = false := decide_eq_false hka
          obtain ⟨f, tf, rf, hfm, hfa, hsub⟩ := takes_some D4.out
          have HK2 : Hid (slotsFrom m (i : Int) AB 0 x.slots = slotsFrom m (i : Int) AB (k + 1) (x.slots.drop (k + 1))) := Lib.hid (HKK.out.trans (by rw [slot_free (c := (i : Int)) (ab := AB) (k := k) hfm hfa hsub (by omega), Bool.true_and]))
          clear hfm hfa hsub
          go_quiet (fail)
          go_wp2
          go_roundw
          case rel => exact ⟨k + 1, by omega, by go_num, HK2, Lib.hid (below_drewN' HX.out _)⟩
          case measure => simp [intOf]; omega
    · have E2 := Lib.hid (show slotsB m i x = true by unfold slotsB; rw [HAB.out, HK.out, List.drop_eq_nil_of_le (by omega), decide_eq_true C3.out]; rfl)
      go_wp2_with fail
      go_ret
      exact ⟨by rw [E2.out]; rfl, HW.out.trans (HX.out.mono (Nat.le_of_lt HZ.out))⟩
end Go.Proofs.Ytjgfoialajgfhaa
