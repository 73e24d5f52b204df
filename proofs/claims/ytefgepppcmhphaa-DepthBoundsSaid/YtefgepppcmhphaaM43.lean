/-
  What depth.Frame and depth.Bound come to, as the laws want it.
  Which images the laws of the stack speak of (sane): as with the laws of a step.
  What the document's own answer for the cells of a frame (Frame) comes to.
-/
import Derived.Test.YtefgepppcmhphaaM24
import Derived.Test.YtefgepppcmhphaaM28
import Derived.Test.YtefgepppcmhphaaM42
import Derived.Test.YtefgepppcmhphaaM26
import Derived.Test.YtefgepppcmhphaaM36
import Derived.IntWalk
import Derived.RegionTactic
import Derived.ChangeAlike
import Derived.Deep.RegionHeld3
import Derived.Deep.QuietTactic
import Derived.BigQuiet
namespace Go.Proofs.Ytefgepppcmhphaa
set_option maxRecDepth 100000
set_option linter.unusedVariables false
set_option linter.unusedSimpArgs false
open Go.ChangeShapes Go.WideShapes Go.ChangeAt Go.RowKit

theorem dframe_any (m : Img) (maps : List (List Shp)) (f : Int) (A : Option Addr) (c : Nat) (h : Hnd) (w : World) (H : ImgIn w w.heap.size h m) (hs : saneB8 m = true) (hM : SlcIs (SlcAt ShpAt 2) 1 w w.heap.size A c maps) (hz : MapsTo 4000 maps) (_hl : maps.length = m.methods.length) :
    Calls Try.prog 11 #[imgV h m, .slice A maps.length c, .int .i64 f] w fun e w' => e = .returned (.int .i64 (frameOf m maps f)) ∧ Below w.heap.size w w' :=
  dframe_own m maps f A c h w H (saneB8_yes hs) hM hz
theorem dbound_any (m : Img) (maps : List (List Shp)) (A : Option Addr) (c : Nat) (h : Hnd) (w : World) (H : ImgIn w w.heap.size h m) (hs : saneB8 m = true) (hM : SlcIs (SlcAt ShpAt 2) 1 w w.heap.size A c maps) (hz : MapsTo 4000 maps) (_hl : maps.length = m.methods.length) :
    Calls Try.prog 9 #[imgV h m, .slice A maps.length c] w (DBoundOut m maps w) :=
  dbound_own m maps A c h w H hs hM hz
end Go.Proofs.Ytefgepppcmhphaa
namespace Go.Proofs.Ytefgepppcmhphaa
set_option maxRecDepth 100000
set_option linter.unusedVariables false
set_option linter.unusedSimpArgs false
open Go.ChangeShapes Go.WideShapes Go.ChangeAt Go.RowKit

set_option maxHeartbeats 1600000 in
theorem sane13_any (m : Img) (h : Hnd) (w : World) (H : ImgIn w w.heap.size h m) :
    Calls Try.prog 6 #[imgV h m] w fun e w' => e = .returned (.bool (saneB8 m)) ∧ Below w.heap.size w w' := by
  have HW := Lib.hid ((Below.refl w.heap.size w).alloc (Nat.le_refl _) (imgO h m))
  have HIM := Lib.hid (H.now HW.out)
  have HBX := Lib.hid (img_box w h m)
  have l0 := H.classes.le
  have l0c := H.classes.cap
  have l2 := H.ints.le
  have l2c := H.ints.cap
  have l3 := H.methods.le
  have l3c := H.methods.cap
  obtain ⟨r, hr⟩ : ∃ r, saneR m = r := ⟨_, rfl⟩
  have HR := Lib.hid hr
  have HE := Lib.hid (show saneB8 m = (decide (m.methods.length ≤ 12) && (decide (m.classes.length ≤ 8) && (decide (m.ints.length ≤ 16) && decide (r = 0)))) by rw [← hr]; rfl)
  clear H hr
  go_enter Try.func6, Try.ntmps6
  go_upto_region 1 with fail
  generalize w.alloc (imgO h m) = w1 at *
  obtain ⟨q0, q1, q2, q3, q4, q5, q6⟩ := HBX.out
  by_cases h3 : m.methods.length ≤ 12
  rotate_left
  · have i3 : ¬ (m.methods.length : Int) ≤ 12 := by omega
    go_wp2_with fail
    go_ret
    exact ⟨by rw [HE.out, decide_eq_false h3]; rfl, HW.out⟩
  have i3 : (m.methods.length : Int) ≤ 12 := by omega
  by_cases h0 : m.classes.length ≤ 8
  rotate_left
  · have i0 : ¬ (m.classes.length : Int) ≤ 8 := by omega
    go_wp2_with fail
    go_ret
    exact ⟨by rw [HE.out, decide_eq_false h0, Bool.false_and, Bool.and_false]; rfl, HW.out⟩
  have i0 : (m.classes.length : Int) ≤ 8 := by omega
  by_cases h2 : m.ints.length ≤ 16
  rotate_left
  · have i2 : ¬ (m.ints.length : Int) ≤ 16 := by omega
    go_wp2_with fail
    go_ret
    exact ⟨by rw [HE.out, decide_eq_false h2, Bool.false_and, Bool.and_false, Bool.and_false]; rfl, HW.out⟩
  have i2 : (m.ints.length : Int) ≤ 16 := by omega
  have HD := Lib.hid (show saneB8 m = decide (r = 0) by rw [HE.out, decide_eq_true h3, decide_eq_true h0, decide_eq_true h2, Bool.true_and, Bool.true_and, Bool.true_and])
  clear h3 h0 h2
  go_wp2_with (first | (go_at_call 17; (with_reducible refine (rsane_any m h w1 HIM.out).mono ?_); rintro e w' ⟨rfl, hb⟩; rw [HR.out]; have HX := Lib.hid (HW.out.trans (hb.mono HW.out.size)); clear hb))
  go_ret
  exact ⟨by rw [HD.out]; rfl, HX.out⟩
theorem sane13_is {m : Img} {h : Hnd} {w0 w : World} {r : Bool} (HI : Hid (ImgIn w0 w0.heap.size h m)) (HX : Hid (Below w0.heap.size w0 w)) (HR : Hid (saneB8 m = r)) :
    Calls Try.prog 6 #[imgV h m] w fun e w' => e = .returned (.bool r) ∧ Below w.heap.size w w' := by
  have H := sane13_any m h w (HI.out.now HX.out)
  rw [HR.out] at H
  exact H
end Go.Proofs.Ytefgepppcmhphaa
namespace Go.Proofs.Ytefgepppcmhphaa
set_option maxRecDepth 100000
set_option linter.unusedVariables false
set_option linter.unusedSimpArgs false
open Go.ChangeShapes Go.WideShapes Go.ChangeAt Go.RowKit
set_option linter.unusedVariables false
set_option linter.unusedSimpArgs false

set_option maxHeartbeats 3200000 in
theorem rframe_any (m : Img) (maps : List (List Shp)) (f : Int) (A : Option Addr) (c : Nat) (h : Hnd) (w : World) (H : ImgIn w w.heap.size h m) (hm : SaneI m) (hM : SlcIs (SlcAt ShpAt 2) 1 w w.heap.size A c maps) (hz : MapsTo 4000 maps) :
    Calls Try.prog 12 #[imgV h m, .slice A maps.length c, .int .i64 f] w fun e w' => e = .returned (.int .i64 (frameOf m maps f)) ∧ Below w.heap.size w w' := by
  have HW := Lib.hid (below_box (w := w) (h := h) (m := m))
  have HBX := Lib.hid (img_box w h m)
  have HI := Lib.hid (H.now HW.out)
  have HM0 := Lib.hid (slcUp RowAt.keeps hM HW.out)
  have HMZ := Lib.hid hz
  have HM := Lib.hid hm
  have hle := H.methods.le
  have hcap := H.methods.cap
  have hl1 := hM.le
  have hl2 := hM.cap
  clear H hM hz hm
  by_cases h0 : 0 ≤ f
  rotate_left
  · have hlt : f < 0 := by omega
    have e : frameOf m maps f = 0 := by unfold frameOf; rw [if_neg (by omega)]
    rw [e]
    clear e
    go_enter Try.func12, Try.ntmps12
    go_upto_region 1 with fail
    generalize w.alloc (imgO h m) = w1 at *
    obtain ⟨q0, q1, q2, q3, q4, q5, q6⟩ := HBX.out
    go_wp2_with fail
    go_ret
    exact ⟨rfl, HW.out⟩
  by_cases h1 : f < m.methods.length
  rotate_left
  · have hlt : ¬ f < 0 := by omega
    have hge : f ≥ (m.methods.length : Int) := by omega
    have e : frameOf m maps f = 0 := by unfold frameOf; rw [if_neg (by omega)]
    rw [e]
    clear e
    go_enter Try.func12, Try.ntmps12
    go_upto_region 1 with fail
    generalize w.alloc (imgO h m) = w1 at *
    obtain ⟨q0, q1, q2, q3, q4, q5, q6⟩ := HBX.out
    go_wp2_with fail
    go_ret
    exact ⟨rfl, HW.out⟩
  obtain ⟨k, rfl⟩ := Int.eq_ofNat_of_zero_le h0
  have hkm : k < m.methods.length := by omega
  have i0 : ¬ (k : Int) < 0 := by omega
  have i1 : ¬ (k : Int) ≥ (m.methods.length : Int) := by omega
  obtain ⟨ad, hx, eA, hab, hin, hc⟩ := img_mth HI.out hkm
  obtain ⟨S, hS⟩ : ∃ S, maps[k]?.getD [] = S := ⟨_, rfl⟩
  have hfr : frameOf m maps (k : Int) = 3 + m.methods[k].args.length + m.methods[k].locals.length + deepOf S := by
    unfold frameOf mthN
    rw [if_pos ⟨h0, h1⟩, Int.toNat_natCast, hS, List.getElem?_eq_getElem hkm]
    rfl
  have hall := (HM.out.method (List.getElem_mem hkm)).all
  have hd0 : deepOf S ≤ 4000 := by
    rw [← hS]
    cases hs : maps[k]? with
    | none => exact Nat.zero_le _
    | some S => exact deep_le (fun s hs' => (HMZ.out S (List.mem_of_getElem? hs)).2 s hs')
  obtain ⟨c0, c1, c2, c3, c4, c5, c6, c7⟩ := hc
  have ha1 := hin.args.cap
  have ha2 := hin.args.le
  have ha3 := hin.locals.cap
  have ha4 := hin.locals.le
  obtain ⟨A0, Ab, A2, A3, A4, k0, k1, k2, k3, k4⟩ := h
  dsimp only at eA hle hcap
  subst eA
  generalize m.methods[k] = x at *
  clear h0 h1 c2 c3 c4 c5 c6 c7 hin
  have HF := Lib.hid hfr
  have HSS := Lib.hid hS
  obtain ⟨b, hb⟩ : ∃ b, frameOf m maps (k : Int) = b := ⟨_, rfl⟩
  rw [hb] at HF ⊢
  clear hfr hS hb
  go_enter Try.func12, Try.ntmps12
  go_upto_region 1 with fail
  generalize w.alloc (imgO ⟨A0, Ab, A2, some ad, A4, k0, k1, k2, k3, k4⟩ m) = w1 at *
  obtain ⟨q0, q1, q2, q3, q4, q5, q6⟩ := HBX.out
  go_wp2_with fail
  go_loopw [7, 8] (fun d i wr => ∃ pc : Nat, pc ≤ S.length ∧ i = .int .i64 pc ∧ d = .int .i64 (deepOf (S.take pc) : Nat) ∧ wr = w1) (fun _ i _ => S.length - (intOf i).toNat)
  case atStart => exact ⟨0, Nat.zero_le _, rfl, rfl, rfl⟩
  case round =>
    obtain ⟨pc, hpc, rfl, rfl, hwr⟩ := hrel
    have hwr := hwr.symm
    subst hwr
    by_cases hk : k < maps.length
    rotate_left
    · have hS0 : S = [] := by rw [← HSS.out, List.getElem?_eq_none (by omega)]; rfl
      subst hS0
      have hki : ¬ (k : Int) < (maps.length : Int) := by omega
      have e0 : deepOf (([] : List Shp).take pc) = 0 := by rw [List.take_nil]; rfl
      rw [e0]
      clear e0
      have HF : Hid (b = 3 + (x.args.length : Int) + (x.locals.length : Int) + 0) := Lib.hid (by rw [HF.out]; rfl)
      go_wp2_with fail
      go_region
      go_wp2_with fail
      go_ret
      exact ⟨by rw [HF.out]; first | rfl | simp, HW.out.drew⟩
    have hki : (k : Int) < (maps.length : Int) := by omega
    obtain ⟨adM, rfl, habM, A1, cS, r0, hsr⟩ := HM0.out.row.at_ hk
    have hSe : maps[k] = S := by rw [← HSS.out, List.getElem?_eq_getElem hk]; rfl
    rw [hSe] at r0 hsr
    rw [Nat.mul_one] at r0
    have hs1 := hsr.le
    have hs2 := hsr.cap
    obtain ⟨D, hD⟩ : ∃ D, deepOf (S.take pc) = D := ⟨_, rfl⟩
    have hDl : D ≤ 4000 := by
      rw [← hD]
      refine deep_le (fun s hs' => (HMZ.out maps[k] (List.getElem_mem hk)).2 s ?_)
      rw [hSe]
      exact List.mem_of_mem_take hs'
    have HD := Lib.hid hD
    by_cases hp : pc < S.length
    · obtain ⟨adS, rfl, habS, s0, At, ct, s1, hst⟩ := hsr.row.at_ hp
      have HT : Hid (deepOf (S.take (pc + 1)) = deepOne D S[pc]) := Lib.hid (by rw [deep_take hp, hD])
      generalize S[pc] = s at *
      have ht1 := hst.le
      have ht2 := hst.cap
      rw [hD]
      clear hD hst s0 hSe hsr
      by_cases hg : D < s.stack.length
      · have hgi : (s.stack.length : Int) > (D : Int) := by omega
        have hmx : max (D : Int) (s.stack.length : Int) = (s.stack.length : Int) := by omega
        have HY : Hid (deepOf (S.take (pc + 1)) = s.stack.length) := Lib.hid (by rw [HT.out]; unfold deepOne; rw [if_pos hg])
        go_wp2_with fail
        go_roundw
        case rel => exact ⟨pc + 1, by omega, by go_num, by rw [HY.out], by first | rfl | trivial⟩
        case measure => simp [intOf]; omega
      · have hgi : ¬ (s.stack.length : Int) > (D : Int) := by omega
        have hmx : max (D : Int) (s.stack.length : Int) = (D : Int) := by omega
        have HY : Hid (deepOf (S.take (pc + 1)) = D) := Lib.hid (by rw [HT.out]; unfold deepOne; rw [if_neg hg])
        go_wp2_with fail
        go_roundw
        case rel => exact ⟨pc + 1, by omega, by go_num, by rw [HY.out], by first | rfl | trivial⟩
        case measure => simp [intOf]; omega
    · have hpi : ¬ (pc : Int) < (S.length : Int) := by omega
      have HF : Hid (b = 3 + (x.args.length : Int) + (x.locals.length : Int) + (D : Int)) := Lib.hid (by rw [HF.out, ← HD.out, List.take_of_length_le (by omega)])
      rw [hD]
      clear hD hSe hsr
      go_wp2_with fail
      go_region
      go_wp2_with fail
      go_ret
      exact ⟨by rw [HF.out]; first | rfl | simp, HW.out.drew⟩
theorem rframe_is {m : Img} {maps : List (List Shp)} {f r : Int} {A : Option Addr} {c n : Nat} {h : Hnd} {w0 w : World} (HI : Hid (ImgIn w0 w0.heap.size h m)) (HX : Hid (Below w0.heap.size w0 w)) (HM : Hid (SaneI m)) (HS : Hid (SlcIs (SlcAt ShpAt 2) 1 w w.heap.size A c maps)) (HZ : Hid (MapsTo 4000 maps)) (HN : Hid (maps.length = n)) (HR : Hid (frameOf m maps f = r)) :
    Calls Try.prog 12 #[imgV h m, .slice A n c, .int .i64 f] w fun e w' => e = .returned (.int .i64 r) ∧ Below w.heap.size w w' := by
  obtain rfl := HN.out
  have H := rframe_any m maps f A c h w (HI.out.now HX.out) HM.out HS.out HZ.out
  rw [HR.out] at H
  exact H
end Go.Proofs.Ytefgepppcmhphaa
