/-
  What the program's own slotsAbove, takesClass, calledAlike and slotsNamed come to.
-/
import Derived.Test.YtjgfoialajgfhaaSaneCount
namespace Go.Proofs.Ytjgfoialajgfhaa
set_option maxRecDepth 100000
set_option linter.unusedVariables false
set_option linter.unusedSimpArgs false
open Go.ChangeShapes Go.WideShapes Go.ChangeAt Go.RowKit
set_option linter.unusedVariables false
set_option linter.unusedSimpArgs false

/-- The slots of the class above, as a slice that was there. -/
def AboveOut (w0 w : World) (l : List Int) (e : Ending) (w' : World) : Prop := ∃ A k, e = .returned (.slice A l.length k) ∧ SlcIs IntAt 1 w0 w0.heap.size A k l ∧ w = w'
theorem sabove_any (m : Img) (i : Nat) (x : Cls) (h : Hnd) (w0 w : World) (H : SlcIs ClsAt 3 w0 w0.heap.size h.A0 h.c0 m.classes) (hX : Below w0.heap.size w0 w) (hx : m.classes[i]? = some x) (hs : x.sup < m.classes.length) :
    Calls Try.prog 48 #[.slice h.A0 m.classes.length h.c0, .int .i64 (i : Int)] w (AboveOut w0 w (aboveSlots m x)) := by
  have hlc := H.le
  have hcm := H.cap
  obtain ⟨hil, hxe⟩ := List.getElem?_eq_some_iff.mp hx
  obtain ⟨ad, hA0, hab, hcl⟩ := H.row i x hx
  obtain ⟨s0, ⟨A1, k1, s1, hs1⟩, ⟨A2, k2, s2, hs2⟩, sr⟩ := hcl
  have r0 := (hX.cell (p := ad.add (i * 3)) (by rw [addr_add_block]; exact hab)).trans s0
  have HL := Lib.hid H
  have HX := Lib.hid hX
  clear hx hxe s0 s1 s2 hs1 hs2 H hX
  rw [hA0]
  by_cases h0 : 0 ≤ x.sup
  · obtain ⟨ny, hny⟩ := Int.eq_ofNat_of_zero_le h0
    have hnyl : ny < m.classes.length := by omega
    obtain ⟨ady, e0, haby, hcy⟩ := HL.out.row.at_ hnyl
    have HAY := Lib.hid (show aboveSlots m x = m.classes[ny].slots by unfold aboveSlots; rw [if_pos h0, hny, Int.toNat_natCast, List.getElem?_eq_getElem hnyl])
    generalize m.classes[ny] = y at *
    obtain ⟨_, _, ⟨A2y, k2y, sy, hsy⟩, _⟩ := hcy
    have sy := (HX.out.cell (p := off_ (ady.add (ny * 3)) 2) (by show (ady.add _).block < _; rw [addr_add_block]; exact haby)).trans sy
    rw [hA0] at e0
    obtain rfl : ad = ady := by injection e0
    rw [hny] at r0
    have HSY := Lib.hid hsy
    clear hsy e0 hA0 h0
    go_enter Try.func48, Try.ntmps48
    go_wp2
    go_ret
    exact ⟨A2y, k2y, by rw [HAY.out]; rfl, by rw [HAY.out]; exact HSY.out, rfl⟩
  · have HAY := Lib.hid (show aboveSlots m x = [] from if_neg h0)
    have h1 : x.sup < 0 := by omega
    clear hA0 h0
    go_enter Try.func48, Try.ntmps48
    go_wp2
    go_ret
    exact ⟨none, 0, by rw [HAY.out]; rfl, by rw [HAY.out]; exact ⟨Nat.le_refl _, by omega, RowOf.nil⟩, rfl⟩

/-- Is it a method with a first argument that fits a class? -/
def takesB (m : Img) (c s : Int) : Bool := match m.methods[s.toNat]? with
  | none => false
  | some f => match f.args with
    | [] => false
    | t :: _ => subB (supsOf m.classes) 3 c t.1 t.2
theorem takes_out {m : Img} {c : Int} {n : Nat} (h : m.methods.length ≤ n) : takesB m c (n : Int) = false := by
  unfold takesB
  rw [Int.toNat_natCast, List.getElem?_eq_none h]
theorem takes_nil {m : Img} {c : Int} {n : Nat} {f : Mth} (h : m.methods[n]? = some f) (hf : f.args = []) : takesB m c (n : Int) = false := by
  unfold takesB
  rw [Int.toNat_natCast, h]
  dsimp only
  rw [hf]
theorem takes_is {m : Img} {c : Int} {n : Nat} {f : Mth} {t : Int × Int} {r : List (Int × Int)} (h : m.methods[n]? = some f) (hf : f.args = t :: r) : takesB m c (n : Int) = subB (supsOf m.classes) 3 c t.1 t.2 := by
  unfold takesB
  rw [Int.toNat_natCast, h]
  dsimp only
  rw [hf]
theorem ksub_is {m : Img} {h : Hnd} {c t0 t1 : Int} {w0 w : World} {r : Bool} (HI : Hid (ImgIn w0 w0.heap.size h m)) (HX : Hid (Below w0.heap.size w0 w)) (HN : Hid (m.classes.length ≤ 1000)) (HR : Hid (subB (supsOf m.classes) 3 c t0 t1 = r)) :
    Calls Try.prog 60 #[.slice h.A0 m.classes.length h.c0, tyV 3 c, tyV t0 t1] w fun e w' => e = .returned (.bool r) ∧ Below w.heap.size w w' := by
  have H := ksub_any (supsOf m.classes) 3 c t0 t1 h.A0 h.c0 w.heap.size w (by rw [supsOf_len]; have := HN.out; omega) (Nat.le_refl _) (supers_of (HI.out.now HX.out).classes.row)
  rw [HR.out, supsOf_len] at H
  exact H

set_option maxHeartbeats 1600000 in
theorem stakes_any (m : Img) (c : Int) (n : Nat) (h : Hnd) (w : World) (H : ImgIn w w.heap.size h m) (hn : m.classes.length ≤ 1000) :
    Calls Try.prog 49 #[imgV h m, .int .i64 (n : Int), .int .i64 c] w fun e w' => e = .returned (.bool (takesB m c (n : Int))) ∧ Below w.heap.size w w' := by
  have HW := Lib.hid (below_box (w := w) (h := h) (m := m))
  have HBX := Lib.hid (img_box w h m)
  have HZ : Hid (w.heap.size < (w.alloc (imgO h m)).heap.size) := Lib.hid (by simp)
  have HI := Lib.hid (H.now HW.out)
  have HN := Lib.hid hn
  have l3 := H.methods.le
  have l3c := H.methods.cap
  clear H hn
  go_enter Try.func49, Try.ntmps49
  go_upto_region 1 with fail
  generalize w.alloc (imgO h m) = w1 at *
  obtain ⟨q0, q1, q2, q3, q4, q5, q6⟩ := HBX.out
  by_cases hnl : n < m.methods.length
  · obtain ⟨adm, e3, habm, hcm⟩ := HI.out.methods.row.at_ hnl
    have HME := Lib.hid (List.getElem?_eq_getElem hnl)
    have HE3 := Lib.hid e3
    generalize m.methods[n] = f at *
    obtain ⟨fa, fl, fr, fc, fd, fp, fh⟩ := f
    obtain ⟨⟨A0f, j0, f0, hf0⟩, _, _, _, _, _, _, _⟩ := hcm
    dsimp only at f0 hf0
    have HSfa := Lib.hid hf0
    have hj0 := hf0.le
    have hj0c := hf0.cap
    rw [e3] at q3
    clear e3 hf0
    by_cases hfa0 : fa.length = 0
    · have SL := Lib.hid (takes_nil (c := c) HME.out (List.eq_nil_of_length_eq_zero hfa0))
      have ht0 : ((fa.length : Int) == 0) = true := beq_iff_eq.mpr (by omega)
      clear hfa0
      go_wp2_with fail
      go_ret
      exact ⟨by rw [SL.out]; rfl, HW.out⟩
    · have hfp : 0 < fa.length := by omega
      have ht0 : ((fa.length : Int) == 0) = false := beq_eq_false_iff_ne.mpr (by omega)
      have HFT := Lib.hid (show fa = fa[0] :: fa.drop 1 from List.drop_eq_getElem_cons hfp)
      obtain ⟨adt, rfl, habt, r0, r1⟩ := HSfa.out.row.at_ hfp
      have HF0 : Hid (∀ W, Below w1.heap.size w1 W → W.cell? (adm.add (n * 8)) = some (.slice (some adt) fa.length j0)) := Lib.hid (fun W hW => (hW.cell (p := adm.add (n * 8)) (by rw [addr_add_block]; exact habm)).trans f0)
      clear hfa0
      generalize fa[0] = t at *
      obtain ⟨t0, t1⟩ := t
      rw [Nat.zero_mul, show adt.add 0 = adt by simp [Addr.add]] at r0 r1
      have HR2 : Hid (∀ W, Below w1.heap.size w1 W → W.cell? adt = some (.int .i64 t0) ∧ W.cell? (off_ adt 1) = some (.int .i64 t1)) := Lib.hid (fun W hW => TyAt.keeps (x := (t0, t1)) ⟨r0, r1⟩ habt (Nat.le_refl _) (fun _ hq => hW.cell hq))
      obtain ⟨r0, r1⟩ := HR2.out _ (Below.refl _ _)
      have HXd : Hid (Below w1.heap.size w1 w1.drew) := Lib.hid (Below.refl _ _).drew
      obtain ⟨d4, hd4⟩ : ∃ d, subB (supsOf m.classes) 3 c t0 t1 = d := ⟨_, rfl⟩
      have D4 := Lib.hid hd4
      have SL := Lib.hid ((takes_is (c := c) HME.out HFT.out).trans hd4)
      clear hd4 habt
      go_upto_region 3 with fail
      go_region_held3 (fun w' => w'.cell? ⟨w.heap.size, 0, none⟩ = some (.slice h.A0 m.classes.length h.c0) ∧ w'.cell? ⟨w.heap.size, 3, none⟩ = some (.slice (some adm) m.methods.length h.c3) ∧ w'.cell? (adm.add (n * 8)) = some (.slice (some adt) fa.length j0) ∧ w'.cell? adt = some (.int .i64 t0) ∧ w'.cell? (off_ adt 1) = some (.int .i64 t1)) (first | exact ⟨q0, q3, f0, r0, r1⟩) (first | (go_at_call 60; (with_reducible refine (ksub_is HI HXd HN D4).mono ?_); rintro e w3 ⟨rfl, hb⟩; have HX := Lib.hid (HXd.out.trans (hb.mono HXd.out.size)); obtain ⟨q0, q1, q2, q3, q4, q5, q6⟩ := HBX.out.keep HX.out HZ.out; rw [HE3.out] at q3; have f0 := HF0.out _ HX.out; obtain ⟨r0, r1⟩ := HR2.out _ HX.out; clear hb))
      go_wp2_with fail
      go_ret
      exact ⟨by rw [SL.out]; rfl, HW.out.trans (HX.out.mono (Nat.le_of_lt HZ.out))⟩
  · have SL := Lib.hid (takes_out (c := c) (m := m) (Nat.le_of_not_lt hnl))
    go_wp2_with fail
    go_ret
    exact ⟨by rw [SL.out]; rfl, HW.out⟩
end Go.Proofs.Ytjgfoialajgfhaa
