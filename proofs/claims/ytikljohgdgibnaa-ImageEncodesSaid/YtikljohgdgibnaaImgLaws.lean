/-
  Words for the statements on images, and their fixed fact (awake): it holds.
-/
import Derived.Test.YtikljohgdgibnaaImage
import Derived.Test.YtikljohgdgibnaaBoxed
import Derived.Test.YtikljohgdgibnaaSmall
import Derived.Test.YtikljohgdgibnaaRefSame2
namespace Go.Proofs.Ytikljohgdgibnaa
set_option maxRecDepth 100000
open Go.ChangeShapes Go.WideShapes Go.ChangeAt Go.RowKit
set_option linter.unusedVariables false

/-- The fixed image. -/
def awkM : Img := ⟨[], [], [-5], [⟨[], [], (5, 0), [(33, 0, 0)], 0, 0, [0]⟩], [0], 9, 0⟩
theorem awkM_fits : fitsB awkM = true := by decide
theorem awkM_ok : OkImg awkM := ⟨awkM_fits, by simp [awkM, OkL]⟩
theorem awkM_len : ¬ 8192 < (encImg awkM).length := by
  simp [encImg, awkM, plim, encNs, encTs, encM, encT, encI1, encL, zig, putI, argsI, ones, bytesOf_small]
def awkH (N : Nat) : Hnd := ⟨none, none, some ⟨N + 1 + 1 + 1 + 1, 0, none⟩, some ⟨N + 1 + 1, 0, none⟩, some ⟨N + 1 + 1 + 1, 0, none⟩, 0, 0, 1, 1, 1⟩
/-- The world in which the fixed image stands. -/
abbrev awkW (w : World) : World :=
  (((((w.alloc (.cells #[.int .i64 33, .int .i64 0, .int .i64 0] 47)).alloc (.cells #[.int .i64 0] 3)).alloc
    (.cells #[.slice none 0 0, .slice none 0 0, .int .i64 5, .int .i64 0, .slice (some ⟨w.heap.size, 0, none⟩) 1 1, .int .i64 0, .int .i64 0, .slice (some ⟨w.heap.size + 1, 0, none⟩) 1 1] 45)).alloc
    (.cells #[.int .i64 0] 3)).alloc (.cells #[.int .i32 (-5)] 21)).alloc
    (.cells #[.slice none 0 0, .slice none 0 0, .slice (some ⟨w.heap.size + 1 + 1 + 1 + 1, 0, none⟩) 1 1, .slice (some ⟨w.heap.size + 1 + 1, 0, none⟩) 1 1, .slice (some ⟨w.heap.size + 1 + 1 + 1, 0, none⟩) 1 1, .int .i64 9, .int .i64 0] 28)
theorem cells_step {w : World} {N : Nat} (hN : w.heap.size = N) (vs : List Value) (T : TypeId) :
    Cells (w.alloc (.cells vs.toArray T)) N vs ∧ (w.alloc (.cells vs.toArray T)).heap.size = N + 1 ∧ Below N w (w.alloc (.cells vs.toArray T)) := by
  subst hN
  exact ⟨cells_new w vs T, by simp, (Below.refl _ _).alloc (Nat.le_refl _) _⟩
theorem row_one {α : Type} {At : AtP α} {k : Nat} {w : World} {B g : Nat} {x : α} (h : At w B ⟨g, 0, none⟩ x) (hg : g < B) : RowOf At k w B (some ⟨g, 0, none⟩) [x] := fun i y hi => by
  match i, hi with
  | 0, hi =>
    simp at hi
    subst hi
    refine ⟨_, rfl, hg, ?_⟩
    rw [Nat.zero_mul, show (⟨g, 0, none⟩ : Addr).add 0 = ⟨g, 0, none⟩ by simp [Addr.add]]
    exact h
theorem slc_none {α : Type} {At : AtP α} {k : Nat} {w : World} {B : Nat} : SlcIs At k w B none 0 [] := ⟨Nat.le_refl _, by omega, RowOf.nil⟩
theorem awk_parts (w : World) : Below w.heap.size w (awkW w) ∧ Boxed (awkW w) (w.heap.size + 1 + 1 + 1 + 1 + 1) (awkH w.heap.size) awkM := by
  obtain ⟨c0, z0, b0⟩ := cells_step (w := w) rfl [.int .i64 33, .int .i64 0, .int .i64 0] 47
  obtain ⟨c1, z1, b1⟩ := cells_step z0 [.int .i64 0] 3
  obtain ⟨c2, z2, b2⟩ := cells_step z1 [.slice none 0 0, .slice none 0 0, .int .i64 5, .int .i64 0, .slice (some ⟨w.heap.size, 0, none⟩) 1 1, .int .i64 0, .int .i64 0, .slice (some ⟨w.heap.size + 1, 0, none⟩) 1 1] 45
  obtain ⟨c3, z3, b3⟩ := cells_step z2 [.int .i64 0] 3
  obtain ⟨c4, z4, b4⟩ := cells_step z3 [.int .i32 (-5)] 21
  obtain ⟨c5, z5, b5⟩ := cells_step z4 [.slice none 0 0, .slice none 0 0, .slice (some ⟨w.heap.size + 1 + 1 + 1 + 1, 0, none⟩) 1 1, .slice (some ⟨w.heap.size + 1 + 1, 0, none⟩) 1 1, .slice (some ⟨w.heap.size + 1 + 1 + 1, 0, none⟩) 1 1, .int .i64 9, .int .i64 0] 28
  have b4' := b4.trans (b5.mono (by omega))
  have b3' := b3.trans (b4'.mono (by omega))
  have b2' := b2.trans (b3'.mono (by omega))
  have b1' := b1.trans (b2'.mono (by omega))
  have c4 := c4.keep b5 (by omega)
  have c3 := c3.keep b4' (by omega)
  have c2 := c2.keep b3' (by omega)
  have c1 := c1.keep b2' (by omega)
  have c0 := c0.keep b1' (by omega)
  refine ⟨b0.trans (b1'.mono (by omega)), ⟨c5 0 _ rfl, c5 1 _ rfl, c5 2 _ rfl, c5 3 _ rfl, c5 4 _ rfl, c5 5 _ rfl, c5 6 _ rfl⟩, by show _ < (World.heap _).size; rw [show (awkW w).heap.size = _ from z5]; omega, ?_⟩
  rw [show (awkW w).heap.size = _ from z5]
  have hC : SlcIs CodeAt 3 (awkW w) (w.heap.size + 1 + 1 + 1 + 1 + 1 + 1) (some ⟨w.heap.size, 0, none⟩) 1 [(33, 0, 0)] := ⟨Nat.le_refl _, by decide, row_one ⟨c0 0 _ rfl, c0 1 _ rfl, c0 2 _ rfl⟩ (by omega)⟩
  have hP : SlcIs IntAt 1 (awkW w) (w.heap.size + 1 + 1 + 1 + 1 + 1 + 1) (some ⟨w.heap.size + 1, 0, none⟩) 1 [0] := ⟨Nat.le_refl _, by decide, row_one (c1 0 _ rfl) (by omega)⟩
  have hM : MthAt (awkW w) (w.heap.size + 1 + 1 + 1 + 1 + 1 + 1) ⟨w.heap.size + 1 + 1, 0, none⟩ ⟨[], [], (5, 0), [(33, 0, 0)], 0, 0, [0]⟩ :=
    ⟨⟨none, 0, c2 0 _ rfl, slc_none⟩, ⟨none, 0, c2 1 _ rfl, slc_none⟩, c2 2 _ rfl, c2 3 _ rfl, ⟨_, 1, c2 4 _ rfl, hC⟩, c2 5 _ rfl, c2 6 _ rfl, ⟨_, 1, c2 7 _ rfl, hP⟩⟩
  exact ⟨slc_none, slc_none, ⟨Nat.le_refl _, by show 1 ≤ 9223372036854775807; decide, row_one ⟨c4 0 _ rfl, by decide, by decide⟩ (by omega)⟩, ⟨Nat.le_refl _, by show 1 ≤ 9223372036854775807; decide, row_one hM (by omega)⟩, ⟨Nat.le_refl _, by show 1 ≤ 9223372036854775807; decide, row_one (c3 0 _ rfl) (by omega)⟩⟩

/-- Bytes in a row of the call's own, and no error. -/
def EncOk (L : List Int) (w : World) (e : Ending) (w' : World) : Prop :=
  ∃ g c, e = .returned (.tuple #[.slice (some ⟨g, 0, none⟩) L.length c, .int .i64 0]) ∧ w'.ownsRow w.heap.size 5 1 (.slice (some ⟨g, 0, none⟩) L.length c) L.length (L.map (Value.int .u8)) ∧ Lies w' w'.heap.size (some ⟨g, 0, none⟩) (L.map (Value.int .u8)) ∧ L.length ≤ c ∧ c ≤ 9223372036854775807 ∧ Below w.heap.size w w'
theorem encode_ok {w : World} {g : Nat} {h : Hnd} {m : Img} {L : List Int} (HM : Hid (Boxed w g h m)) (HR : Hid (encR m = (L, 0))) (HP : Hid (0 < L.length)) : Calls Try.prog 10 #[imgV h m] w (EncOk L w) := by
  refine (iencode_any m h w.heap.size w (Nat.le_refl _) HM.out.img).mono ?_
  rintro e w' ⟨v, he, ho, hb⟩
  rw [HR.out] at he ho
  obtain ⟨g, c, rfl, g1, g2, _, _, hL⟩ := own_bytes ho HP.out
  exact ⟨g, c, he, ho, hL, by assumption, by first | assumption | (unfold maxLen at *; omega), hb⟩
/-- An image by value, and no error. -/
def DecOk (M : Img) (w : World) (e : Ending) (w' : World) : Prop :=
  ∃ h, e = .returned (.tuple #[imgV h M, .int .i64 0]) ∧ ImgIn w' w'.heap.size h M ∧ Below w.heap.size w w'
theorem decode_own {w : World} {M : Img} {L : List Int} {g c : Nat} (HM : Hid (OkImg M)) (HE : Hid (encImg M = L)) (HL : Hid (¬ 8192 < L.length)) (HC : Hid (L.length ≤ c ∧ c ≤ 9223372036854775807)) (HLi : Hid (Lies w w.heap.size (some ⟨g, 0, none⟩) (L.map (Value.int .u8)))) :
    Calls Try.prog 14 #[.slice (some ⟨g, 0, none⟩) L.length c] w (DecOk M w) := by
  refine (idecode_any L (some ⟨g, 0, none⟩) c w.heap.size w (by have := HL.out; omega) HC.out.1 HC.out.2 (by rw [← HE.out]; exact encImg_range M) (fun h => by cases h) (Nat.le_refl _) HLi.out).mono ?_
  rintro e w' ⟨h, m, er, rfl, hi, hb, hd⟩
  rw [← HE.out] at hd
  obtain ⟨rfl, rfl⟩ := dec_own HM.out (by rw [HE.out]; exact HL.out) (img_ok hi) hd
  exact ⟨h, rfl, hi, hb⟩
/-- An image by value, and ErrImage. -/
def DecNo (w : World) (e : Ending) (w' : World) : Prop :=
  ∃ h m, e = .returned (.tuple #[imgV h m, .int .i64 2]) ∧ ImgIn w' w'.heap.size h m ∧ Below w.heap.size w w'
theorem plim_lies (w : World) : Lies (w.alloc plimO') (w.alloc plimO').heap.size (some ⟨w.heap.size, 0, none⟩) (plim.map (Value.int .u8)) := fun j u hj => ⟨_, rfl, by simp, plim_cells w j u hj⟩
theorem decode_plim (w : World) : Calls Try.prog 14 #[.slice (some ⟨w.heap.size, 0, none⟩) 4 4] (w.alloc plimO') (DecNo (w.alloc plimO')) := by
  refine (idecode_any plim (some ⟨w.heap.size, 0, none⟩) 4 (w.alloc plimO').heap.size (w.alloc plimO') (by decide) (by decide) (by decide) (by decide) (fun h => by cases h) (Nat.le_refl _) (plim_lies w)).mono ?_
  rintro e w' ⟨h, m, er, rfl, hi, hb, hd⟩
  obtain rfl := dec_plim hd
  exact ⟨h, m, rfl, hi, hb⟩
section
variable {w : World} {g g' : Nat} {h h' : Hnd} {a b : Img} {r : Bool}
theorem rsame_is (HA : Hid (Boxed w g h a)) (HB : Hid (Boxed w g' h' b)) (HR : Hid (decide (a = b) = r)) : Calls Try.prog 15 #[imgV h a, imgV h' b] w fun e w' => e = .returned (.bool r) ∧ Below w.heap.size w w' := by
  have H := rsame_any a b h h' w.heap.size w (Nat.le_refl _) HA.out.img HB.out.img
  rw [HR.out] at H
  exact H
theorem isame_is (HA : Hid (Boxed w g h a)) (HB : Hid (Boxed w g' h' b)) (HR : Hid (decide (a = b) = r)) : Calls Try.prog 17 #[imgV h a, imgV h' b] w fun e w' => e = .returned (.bool r) ∧ Below w.heap.size w w' := by
  have H := isame_any a b h h' w.heap.size w (Nat.le_refl _) HA.out.img HB.out.img
  rw [HR.out] at H
  exact H
theorem rfits_is (HA : Hid (Boxed w g h a)) (HR : Hid (fitsB a = r)) : Calls Try.prog 11 #[imgV h a] w fun e w' => e = .returned (.bool r) ∧ Below w.heap.size w w' := by
  have H := rfits_any a h w.heap.size w (Nat.le_refl _) HA.out.img
  rw [HR.out] at H
  exact H
theorem ifits_is (HA : Hid (Boxed w g h a)) (HR : Hid (fitsB a = r)) : Calls Try.prog 12 #[imgV h a] w fun e w' => e = .returned (.bool r) ∧ Below w.heap.size w w' := by
  have H := ifits_any a h w.heap.size w (Nat.le_refl _) HA.out.img
  rw [HR.out] at H
  exact H
theorem small_is (HA : Hid (Boxed w g h a)) : Calls Try.prog 8 #[imgV h a] w (SmallOut w) :=
  small_any a h w.heap.size w (Nat.le_refl _) HA.out.img
end

set_option maxHeartbeats 1600000 in
theorem imgAwake_any (w : World) : Calls Try.prog 9 #[] w fun e w' => e = .returned (.bool true) ∧ Below w.heap.size w w' := by
  obtain ⟨hb, hm⟩ := awk_parts w
  have HW := Lib.hid hb
  have HM := Lib.hid hm
  have hok := awkM_ok
  have hlen := awkM_len
  go_enter Try.func9, Try.ntmps9
  go_upto_region 2 with fail
  change Code.wp _ _ _ _ (awkW w)
  generalize awkW w = w1 at *
  generalize awkH w.heap.size = h0 at *
  generalize awkM = M at *
  generalize w.heap.size + 1 + 1 + 1 + 1 + 1 = g0 at *
  have HOK := Lib.hid hok
  have HR := Lib.hid (encR_ok hok.1 hlen)
  have HF := Lib.hid hok.1
  obtain ⟨L, hL⟩ : ∃ L, encImg M = L := ⟨_, rfl⟩
  rw [hL] at HR hlen
  have HLn := Lib.hid hlen
  have HP : Hid (0 < L.length) := Lib.hid (by rw [← hL]; have := encImg_pos M; omega)
  have HE := Lib.hid hL
  clear hb hm hok hlen hL
  obtain ⟨q0, q1, q2, q3, q4, q5, q6⟩ := HM.out.box
  go_upto_region 3 with (go_at_call 10; (with_reducible refine (encode_ok HM HR HP).mono ?_); rintro e w2 ⟨g, c, rfl, _, hl, hc, hcm, hb⟩; have HL := Lib.hid hl; have HC := Lib.hid (And.intro hc hcm); have HM := Lib.hid (HM.out.keep hb); have HW := Lib.hid (HW.out.trans (hb.mono HW.out.size)); clear hl hb hc hcm)
  obtain ⟨q0, q1, q2, q3, q4, q5, q6⟩ := HM.out.box
  go_upto_region 4 with (go_at_call 14; (with_reducible refine (decode_own HOK HE HLn HC HL).mono ?_); rintro e w3 ⟨h, rfl, hi, hb⟩; have HD := Lib.hid hi; have HM := Lib.hid (HM.out.keep hb); have HW := Lib.hid (HW.out.trans (hb.mono HW.out.size)); clear hi hb)
  have HX := Lib.hid (Boxed.new HD.out)
  have HM := Lib.hid (HM.out.keep (below_box (h := h) (m := M)))
  have HW := Lib.hid (HW.out.trans ((below_box (h := h) (m := M)).mono HW.out.size))
  generalize hg3 : w3.heap.size = g3 at *
  clear HD HL hg3
  generalize w3.alloc (imgO h M) = w4 at *
  have kc := plim_conv w4 w4.heap.size rfl
  obtain ⟨q0, q1, q2, q3, q4, q5, q6⟩ := HM.out.box
  obtain ⟨p0, p1, p2, p3, p4, p5, p6⟩ := HX.out.box
  have HPb : Hid (Below w4.heap.size w4 (w4.alloc plimO')) := Lib.hid ((Below.refl _ _).alloc (Nat.le_refl _) _)
  go_upto_region 5 with (go_at_call 14; (with_reducible refine (decode_plim _).mono ?_); rintro e w5 ⟨h', m', rfl, hi, hb⟩; have HD := Lib.hid hi; have hb := HPb.out.trans (hb.mono HPb.out.size); have HM := Lib.hid (HM.out.keep hb); have HX := Lib.hid (HX.out.keep hb); have HW := Lib.hid (HW.out.trans (hb.mono HW.out.size)); clear hi hb)
  clear kc HPb q0 q1 q2 q3 q4 q5 q6 p0 p1 p2 p3 p4 p5 p6
  have HM := Lib.hid (HM.out.keep (below_box (h := h') (m := m')))
  have HX := Lib.hid (HX.out.keep (below_box (h := h') (m := m')))
  have HW := Lib.hid (HW.out.trans ((below_box (h := h') (m := m')).mono HW.out.size))
  generalize hg5 : w5.heap.size = g5 at *
  clear HD hg5
  generalize w5.alloc (imgO h' m') = w6 at *
  obtain ⟨q0, q1, q2, q3, q4, q5, q6⟩ := HM.out.box
  obtain ⟨p0, p1, p2, p3, p4, p5, p6⟩ := HX.out.box
  go_wp2_with (first
    | (go_at_call 15; (with_reducible refine (rsame_is HX HM (Lib.hid (decide_eq_true rfl))).mono ?_); rintro e w7 ⟨rfl, hb⟩; have HM := Lib.hid (HM.out.keep hb); have HX := Lib.hid (HX.out.keep hb); have HW := Lib.hid (HW.out.trans (hb.mono HW.out.size)); obtain ⟨q0, q1, q2, q3, q4, q5, q6⟩ := HM.out.box; obtain ⟨p0, p1, p2, p3, p4, p5, p6⟩ := HX.out.box; clear hb)
    | (go_at_call 17; (with_reducible refine (isame_is HX HM (Lib.hid (decide_eq_true rfl))).mono ?_); rintro e w7 ⟨rfl, hb⟩; have HM := Lib.hid (HM.out.keep hb); have HX := Lib.hid (HX.out.keep hb); have HW := Lib.hid (HW.out.trans (hb.mono HW.out.size)); obtain ⟨q0, q1, q2, q3, q4, q5, q6⟩ := HM.out.box; obtain ⟨p0, p1, p2, p3, p4, p5, p6⟩ := HX.out.box; clear hb)
    | (go_at_call 12; (with_reducible refine (ifits_is HM HF).mono ?_); rintro e w7 ⟨rfl, hb⟩; have HM := Lib.hid (HM.out.keep hb); have HX := Lib.hid (HX.out.keep hb); have HW := Lib.hid (HW.out.trans (hb.mono HW.out.size)); obtain ⟨q0, q1, q2, q3, q4, q5, q6⟩ := HM.out.box; obtain ⟨p0, p1, p2, p3, p4, p5, p6⟩ := HX.out.box; clear hb))
  go_ret
  exact ⟨rfl, HW.out⟩
end Go.Proofs.Ytikljohgdgibnaa
