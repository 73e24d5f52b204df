/-
  What the document's own answer for whether an image fits (Fits) comes to.
-/
import Derived.Test.YtefgepppcmhphaaM10
import Derived.Test.YtefgepppcmhphaaM02
import Derived.Test.YtefgepppcmhphaaM11
import Derived.Deep.Cut
namespace Go.Proofs.Ytefgepppcmhphaa
set_option maxRecDepth 100000
set_option linter.unusedVariables false
set_option linter.unusedSimpArgs false
open Go.ChangeShapes Go.WideShapes Go.ChangeAt Go.RowKit
set_option linter.unusedVariables false

def clsB (c : Cls) : Bool := withinB c.sup (-1) 7 && (typesB c.fields 8 && listB c.slots 4 11)
def codeB (l : List (Int × Int × Int)) : Bool := l.all fun i => instrB i.1 i.2.1 i.2.2
def mthB (x : Mth) : Bool := typesB x.args 4 && (typesB x.locals 8 && (typB x.ret && (decide ((x.code.length : Int) ≤ 64) && (withinB x.depth 0 8 && (withinB x.pot 0 4096 && (listB x.phi 64 4096 && codeB x.code))))))
def headB (m : Img) : Bool := decide ((m.classes.length : Int) ≤ 8) && (decide ((m.ints.length : Int) ≤ 16) && (decide ((m.methods.length : Int) ≤ 12) && (typesB m.statics 8 && (listB m.entries 12 11 && (withinB m.stack 0 4096 && withinB m.heap 0 4096)))))
def fitsB (m : Img) : Bool := headB m && (m.classes.all clsB && m.methods.all mthB)

theorem rtypes_is {l : List (Int × Int)} {n : Int} {A : Option Addr} {cap B : Nat} {w0 w : World} {r : Bool} (HL : Hid (SlcIs TyAt 2 w0 B A cap l)) (HB : Hid (B ≤ w0.heap.size)) (HX : Hid (Below w0.heap.size w0 w)) (HR : Hid (typesB l n = r)) :
    Calls Try.prog 43 #[.slice A l.length cap, .int .i64 n] w fun e w' => e = .returned (.bool r) ∧ Below w.heap.size w w' := by
  have h := rtypes_any l n A cap B w (Nat.le_trans HB.out HX.out.size) (HL.out.below_to TyAt.keeps HX.out HB.out)
  rw [HR.out] at h
  exact h
theorem rlist_is {l : List Int} {n most : Int} {A : Option Addr} {cap B : Nat} {w0 w : World} {r : Bool} (HL : Hid (SlcIs IntAt 1 w0 B A cap l)) (HB : Hid (B ≤ w0.heap.size)) (HX : Hid (Below w0.heap.size w0 w)) (HR : Hid (listB l n most = r)) :
    Calls Try.prog 44 #[.slice A l.length cap, .int .i64 n, .int .i64 most] w fun e w' => e = .returned (.bool r) ∧ w = w' := by
  have h := rlist_any l n most A cap B w (Nat.le_trans HB.out HX.out.size) (HL.out.below_to IntAt.keeps HX.out HB.out)
  rw [HR.out] at h
  exact h
theorem rtyp_is {t : Int × Int} {w : World} {r : Bool} (HR : Hid (typB t = r)) : Calls Try.prog 46 #[tyV t.1 t.2] w fun e w' => e = .returned (.bool r) ∧ Below w.heap.size w w' := by
  have h := rtyp_any t w
  rw [HR.out] at h
  exact h
set_option maxRecDepth 100000 in
set_option maxHeartbeats 6400000 in
theorem rfits_any (m : Img) (h : Hnd) (B : Nat) (w : World) (hB : B ≤ w.heap.size) (H : ImgIn w B h m) :
    Calls Try.prog 27 #[imgV h m] w fun e w' => e = .returned (.bool (fitsB m)) ∧ Below w.heap.size w w' := by
  have HW := Lib.hid ((Below.refl w.heap.size w).alloc (Nat.le_refl _) (imgO h m))
  have HIM := Lib.hid (H.below_to HW.out hB)
  have HBX := Lib.hid (img_box w h m)
  have HB : Hid (B ≤ (w.alloc (imgO h m)).heap.size) := Lib.hid (Nat.le_trans hB HW.out.size)
  have HZ : Hid (w.heap.size < (w.alloc (imgO h m)).heap.size) := Lib.hid (by simp)
  have HZ' : Hid (w.heap.size ≤ (w.alloc (imgO h m)).heap.size) := Lib.hid (by simp)
  have HX : Hid (Below (w.alloc (imgO h m)).heap.size (w.alloc (imgO h m)) (w.alloc (imgO h m))) := Lib.hid (Below.refl _ _)
  have HS1 := Lib.hid HIM.out.statics
  have HS4 := Lib.hid HIM.out.entries
  have bounds : m.classes.length ≤ 9223372036854775807 ∧ m.ints.length ≤ 9223372036854775807 ∧ m.methods.length ≤ 9223372036854775807 := by
    have := HIM.out.classes.le; have := HIM.out.classes.cap; have := HIM.out.ints.le; have := HIM.out.ints.cap; have := HIM.out.methods.le; have := HIM.out.methods.cap
    omega
  obtain ⟨bb0, bb1, bb2⟩ := bounds
  obtain ⟨b4, h4⟩ : ∃ b, typesB m.statics 8 = b := ⟨_, rfl⟩
  have H4 := Lib.hid h4
  obtain ⟨b5, h5⟩ : ∃ b, listB m.entries 12 11 = b := ⟨_, rfl⟩
  have H5 := Lib.hid h5
  obtain ⟨b6, h6⟩ : ∃ b, withinB m.stack 0 4096 = b := ⟨_, rfl⟩
  have H6 := Lib.hid h6
  obtain ⟨b7, h7⟩ : ∃ b, withinB m.heap 0 4096 = b := ⟨_, rfl⟩
  have H7 := Lib.hid h7
  clear hB H h4 h5 h6 h7
  go_enter Try.func27, Try.ntmps27
  by_cases c0 : (8 : Int) < m.classes.length
  · have E2 := Lib.hid (show fitsB m = false by unfold fitsB headB; rw [decide_eq_false (by omega)]; rfl)
    go_wp2_with (first | (go_at_call 43; (with_reducible refine (rtypes_is HS1 HB HX H4).mono ?_); rintro e w' ⟨rfl, hb⟩; have HX := Lib.hid (HX.out.trans (hb.mono HX.out.size)); obtain ⟨q0, q1, q2, q3, q4, q5, q6⟩ := HBX.out.keep HX.out HZ.out; clear hb) | (go_at_call 44; (with_reducible refine (rlist_is HS4 HB HX H5).mono ?_); rintro e w' ⟨rfl, rfl⟩) | (go_at_call 45; (with_reducible refine (rwithin_is H6).mono ?_); rintro e w' ⟨rfl, rfl⟩) | (go_at_call 45; (with_reducible refine (rwithin_is H7).mono ?_); rintro e w' ⟨rfl, rfl⟩))
    go_ret
    exact ⟨by rw [E2.out]; rfl, HW.out.trans (HX.out.mono HZ'.out)⟩
  by_cases c1 : (16 : Int) < m.ints.length
  · have E2 := Lib.hid (show fitsB m = false by unfold fitsB headB; rw [decide_eq_true (by omega), decide_eq_false (p := (m.ints.length : Int) ≤ 16) (by omega)]; rfl)
    go_wp2_with (first | (go_at_call 43; (with_reducible refine (rtypes_is HS1 HB HX H4).mono ?_); rintro e w' ⟨rfl, hb⟩; have HX := Lib.hid (HX.out.trans (hb.mono HX.out.size)); obtain ⟨q0, q1, q2, q3, q4, q5, q6⟩ := HBX.out.keep HX.out HZ.out; clear hb) | (go_at_call 44; (with_reducible refine (rlist_is HS4 HB HX H5).mono ?_); rintro e w' ⟨rfl, rfl⟩) | (go_at_call 45; (with_reducible refine (rwithin_is H6).mono ?_); rintro e w' ⟨rfl, rfl⟩) | (go_at_call 45; (with_reducible refine (rwithin_is H7).mono ?_); rintro e w' ⟨rfl, rfl⟩))
    go_ret
    exact ⟨by rw [E2.out]; rfl, HW.out.trans (HX.out.mono HZ'.out)⟩
  by_cases c2 : (12 : Int) < m.methods.length
  · have E2 := Lib.hid (show fitsB m = false by unfold fitsB headB; rw [decide_eq_true (by omega), decide_eq_true (p := (m.ints.length : Int) ≤ 16) (by omega), decide_eq_false (p := (m.methods.length : Int) ≤ 12) (by omega)]; rfl)
    go_wp2_with (first | (go_at_call 43; (with_reducible refine (rtypes_is HS1 HB HX H4).mono ?_); rintro e w' ⟨rfl, hb⟩; have HX := Lib.hid (HX.out.trans (hb.mono HX.out.size)); obtain ⟨q0, q1, q2, q3, q4, q5, q6⟩ := HBX.out.keep HX.out HZ.out; clear hb) | (go_at_call 44; (with_reducible refine (rlist_is HS4 HB HX H5).mono ?_); rintro e w' ⟨rfl, rfl⟩) | (go_at_call 45; (with_reducible refine (rwithin_is H6).mono ?_); rintro e w' ⟨rfl, rfl⟩) | (go_at_call 45; (with_reducible refine (rwithin_is H7).mono ?_); rintro e w' ⟨rfl, rfl⟩))
    go_ret
    exact ⟨by rw [E2.out]; rfl, HW.out.trans (HX.out.mono HZ'.out)⟩
  cases b4
  · have E2 := Lib.hid (show fitsB m = false by unfold fitsB headB; simp [H4.out, H5.out, H6.out, H7.out])
    go_wp2_with (first | (go_at_call 43; (with_reducible refine (rtypes_is HS1 HB HX H4).mono ?_); rintro e w' ⟨rfl, hb⟩; have HX := Lib.hid (HX.out.trans (hb.mono HX.out.size)); obtain ⟨q0, q1, q2, q3, q4, q5, q6⟩ := HBX.out.keep HX.out HZ.out; clear hb) | (go_at_call 44; (with_reducible refine (rlist_is HS4 HB HX H5).mono ?_); rintro e w' ⟨rfl, rfl⟩) | (go_at_call 45; (with_reducible refine (rwithin_is H6).mono ?_); rintro e w' ⟨rfl, rfl⟩) | (go_at_call 45; (with_reducible refine (rwithin_is H7).mono ?_); rintro e w' ⟨rfl, rfl⟩))
    go_ret
    exact ⟨by rw [E2.out]; rfl, HW.out.trans (HX.out.mono HZ'.out)⟩
  · cases b5
    · have E2 := Lib.hid (show fitsB m = false by unfold fitsB headB; simp [H4.out, H5.out, H6.out, H7.out])
      go_wp2_with (first | (go_at_call 43; (with_reducible refine (rtypes_is HS1 HB HX H4).mono ?_); rintro e w' ⟨rfl, hb⟩; have HX := Lib.hid (HX.out.trans (hb.mono HX.out.size)); obtain ⟨q0, q1, q2, q3, q4, q5, q6⟩ := HBX.out.keep HX.out HZ.out; clear hb) | (go_at_call 44; (with_reducible refine (rlist_is HS4 HB HX H5).mono ?_); rintro e w' ⟨rfl, rfl⟩) | (go_at_call 45; (with_reducible refine (rwithin_is H6).mono ?_); rintro e w' ⟨rfl, rfl⟩) | (go_at_call 45; (with_reducible refine (rwithin_is H7).mono ?_); rintro e w' ⟨rfl, rfl⟩))
      go_ret
      exact ⟨by rw [E2.out]; rfl, HW.out.trans (HX.out.mono HZ'.out)⟩
    · cases b6
      · have E2 := Lib.hid (show fitsB m = false by unfold fitsB headB; simp [H4.out, H5.out, H6.out, H7.out])
        go_wp2_with (first | (go_at_call 43; (with_reducible refine (rtypes_is HS1 HB HX H4).mono ?_); rintro e w' ⟨rfl, hb⟩; have HX := Lib.hid (HX.out.trans (hb.mono HX.out.size)); obtain ⟨q0, q1, q2, q3, q4, q5, q6⟩ := HBX.out.keep HX.out HZ.out; clear hb) | (go_at_call 44; (with_reducible refine (rlist_is HS4 HB HX H5).mono ?_); rintro e w' ⟨rfl, rfl⟩) | (go_at_call 45; (with_reducible refine (rwithin_is H6).mono ?_); rintro e w' ⟨rfl, rfl⟩) | (go_at_call 45; (with_reducible refine (rwithin_is H7).mono ?_); rintro e w' ⟨rfl, rfl⟩))
        go_ret
        exact ⟨by rw [E2.out]; rfl, HW.out.trans (HX.out.mono HZ'.out)⟩
      · cases b7
        · have E2 := Lib.hid (show fitsB m = false by unfold fitsB headB; simp [H4.out, H5.out, H6.out, H7.out])
          go_wp2_with (first | (go_at_call 43; (with_reducible refine (rtypes_is HS1 HB HX H4).mono ?_); rintro e w' ⟨rfl, hb⟩; have HX := Lib.hid (HX.out.trans (hb.mono HX.out.size)); obtain ⟨q0, q1, q2, q3, q4, q5, q6⟩ := HBX.out.keep HX.out HZ.out; clear hb) | (go_at_call 44; (with_reducible refine (rlist_is HS4 HB HX H5).mono ?_); rintro e w' ⟨rfl, rfl⟩) | (go_at_call 45; (with_reducible refine (rwithin_is H6).mono ?_); rintro e w' ⟨rfl, rfl⟩) | (go_at_call 45; (with_reducible refine (rwithin_is H7).mono ?_); rintro e w' ⟨rfl, rfl⟩))
          go_ret
          exact ⟨by rw [E2.out]; rfl, HW.out.trans (HX.out.mono HZ'.out)⟩
        · have HHD := Lib.hid (show headB m = true by unfold headB; rw [decide_eq_true (by omega), decide_eq_true (p := (m.ints.length : Int) ≤ 16) (by omega), decide_eq_true (p := (m.methods.length : Int) ≤ 12) (by omega), H4.out, H5.out, H6.out, H7.out]; rfl)
          go_wp2_with (first | (go_at_call 43; (with_reducible refine (rtypes_is HS1 HB HX H4).mono ?_); rintro e w' ⟨rfl, hb⟩; have HX := Lib.hid (HX.out.trans (hb.mono HX.out.size)); obtain ⟨q0, q1, q2, q3, q4, q5, q6⟩ := HBX.out.keep HX.out HZ.out; clear hb) | (go_at_call 44; (with_reducible refine (rlist_is HS4 HB HX H5).mono ?_); rintro e w' ⟨rfl, rfl⟩) | (go_at_call 45; (with_reducible refine (rwithin_is H6).mono ?_); rintro e w' ⟨rfl, rfl⟩) | (go_at_call 45; (with_reducible refine (rwithin_is H7).mono ?_); rintro e w' ⟨rfl, rfl⟩))
          go_loopw [3] (fun i wr => ∃ k : Nat, k ≤ m.classes.length ∧ i = .int .i64 k ∧ Hid (∀ c ∈ m.classes.take k, clsB c = true) ∧ Hid (Below (w.alloc (imgO h m)).heap.size (w.alloc (imgO h m)) wr)) (fun i _ => m.classes.length - (intOf i).toNat)
          case atStart => exact ⟨0, by omega, rfl, Lib.hid (by simp), HX⟩
          case round =>
            clear HX q0 q1 q2 q3 q4 q5 q6
            obtain ⟨k, hk, rfl, HN, HX⟩ := hrel
            obtain ⟨q0, q1, q2, q3, q4, q5, q6⟩ := HBX.out.keep HX.out HZ.out
            have bc1 := HIM.out.classes.le
            have bc2 := HIM.out.classes.cap
            by_cases hlt : k < m.classes.length
            · obtain ⟨ad, e0, hab, hc⟩ := (HIM.out.classes.below_to ClsAt.keeps HX.out HB.out).row.at_ hlt
              rw [e0] at q0
              clear e0
              have HNOT := Lib.hid (fun g : clsB m.classes[k] = false => all_not hlt g)
              have HYES := Lib.hid (fun g : clsB m.classes[k] = true => all_take hlt HN.out g)
              generalize m.classes[k] = c at *
              obtain ⟨s0, ⟨A1, k1, s1, hs1⟩, ⟨A2, k2, s2, hs2⟩⟩ := hc
              obtain ⟨d1, hd1⟩ : ∃ b, withinB c.sup (-1) 7 = b := ⟨_, rfl⟩
              have D1 := Lib.hid hd1
              obtain ⟨d2, hd2⟩ : ∃ b, typesB c.fields 8 = b := ⟨_, rfl⟩
              have D2 := Lib.hid hd2
              obtain ⟨d3, hd3⟩ : ∃ b, listB c.slots 4 11 = b := ⟨_, rfl⟩
              have D3 := Lib.hid hd3
              have hA : Below wr.heap.size wr (wr.alloc (.cells #[.int .i64 c.sup, .slice A1 c.fields.length k1, .slice A2 c.slots.length k2] 92)) := (Below.refl _ _).alloc (Nat.le_refl _) _
              have hBr : B ≤ wr.heap.size := Nat.le_trans HB.out HX.out.size
              have HXc := Lib.hid (HX.out.trans (hA.mono HX.out.size))
              have HSf := Lib.hid (hs1.below_to TyAt.keeps hA hBr)
              have HSs := Lib.hid (hs2.below_to IntAt.keeps hA hBr)
              have HB2 := Lib.hid (Nat.le_trans hBr hA.size)
              have HBC := Lib.hid (cells_new wr [.int .i64 c.sup, .slice A1 c.fields.length k1, .slice A2 c.slots.length k2] 92)
              have HZ2 : Hid (wr.heap.size < (wr.alloc (.cells #[.int .i64 c.sup, .slice A1 c.fields.length k1, .slice A2 c.slots.length k2] 92)).heap.size) := Lib.hid (by simp)
              clear hd1 hd2 hd3 hA hBr hs1 hs2 hab
              go_upto_region 7 with fail
              generalize wr.alloc (.cells #[.int .i64 c.sup, .slice A1 c.fields.length k1, .slice A2 c.slots.length k2] 92) = w2 at *
              have HX2 : Hid (Below w2.heap.size w2 w2) := Lib.hid (Below.refl _ _)
              have r0 := HBC.out 0 _ rfl
              have r1 := HBC.out 1 _ rfl
              have r2 := HBC.out 2 _ rfl
              cases d1
              · have E2 := Lib.hid (show fitsB m = false by unfold fitsB; rw [HNOT.out (by unfold clsB; simp [D1.out, D2.out, D3.out])]; simp)
                go_wp2_with (first | (go_at_call 45; (with_reducible refine (rwithin_is D1).mono ?_); rintro e w' ⟨rfl, rfl⟩) | (go_at_call 43; (with_reducible refine (rtypes_is HSf HB2 HX2 D2).mono ?_); rintro e w' ⟨rfl, hb⟩; have HXc := Lib.hid (HXc.out.trans (hb.mono HXc.out.size)); have HX2 := Lib.hid (HX2.out.trans (hb.mono HX2.out.size)); have r0 := (HBC.out.keep HX2.out HZ2.out) 0 _ rfl; have r1 := (HBC.out.keep HX2.out HZ2.out) 1 _ rfl; have r2 := (HBC.out.keep HX2.out HZ2.out) 2 _ rfl; clear hb) | (go_at_call 44; (with_reducible refine (rlist_is HSs HB2 HX2 D3).mono ?_); rintro e w' ⟨rfl, rfl⟩))
                go_ret
                exact ⟨by rw [E2.out]; rfl, HW.out.trans (HXc.out.mono HZ'.out)⟩
              · cases d2
                · have E2 := Lib.hid (show fitsB m = false by unfold fitsB; rw [HNOT.out (by unfold clsB; simp [D1.out, D2.out, D3.out])]; simp)
                  go_wp2_with (first | (go_at_call 45; (with_reducible refine (rwithin_is D1).mono ?_); rintro e w' ⟨rfl, rfl⟩) | (go_at_call 43; (with_reducible refine (rtypes_is HSf HB2 HX2 D2).mono ?_); rintro e w' ⟨rfl, hb⟩; have HXc := Lib.hid (HXc.out.trans (hb.mono HXc.out.size)); have HX2 := Lib.hid (HX2.out.trans (hb.mono HX2.out.size)); have r0 := (HBC.out.keep HX2.out HZ2.out) 0 _ rfl; have r1 := (HBC.out.keep HX2.out HZ2.out) 1 _ rfl; have r2 := (HBC.out.keep HX2.out HZ2.out) 2 _ rfl; clear hb) | (go_at_call 44; (with_reducible refine (rlist_is HSs HB2 HX2 D3).mono ?_); rintro e w' ⟨rfl, rfl⟩))
                  go_ret
                  exact ⟨by rw [E2.out]; rfl, HW.out.trans (HXc.out.mono HZ'.out)⟩
                · cases d3
                  · have E2 := Lib.hid (show fitsB m = false by unfold fitsB; rw [HNOT.out (by unfold clsB; simp [D1.out, D2.out, D3.out])]; simp)
                    go_wp2_with (first | (go_at_call 45; (with_reducible refine (rwithin_is D1).mono ?_); rintro e w' ⟨rfl, rfl⟩) | (go_at_call 43; (with_reducible refine (rtypes_is HSf HB2 HX2 D2).mono ?_); rintro e w' ⟨rfl, hb⟩; have HXc := Lib.hid (HXc.out.trans (hb.mono HXc.out.size)); have HX2 := Lib.hid (HX2.out.trans (hb.mono HX2.out.size)); have r0 := (HBC.out.keep HX2.out HZ2.out) 0 _ rfl; have r1 := (HBC.out.keep HX2.out HZ2.out) 1 _ rfl; have r2 := (HBC.out.keep HX2.out HZ2.out) 2 _ rfl; clear hb) | (go_at_call 44; (with_reducible refine (rlist_is HSs HB2 HX2 D3).mono ?_); rintro e w' ⟨rfl, rfl⟩))
                    go_ret
                    exact ⟨by rw [E2.out]; rfl, HW.out.trans (HXc.out.mono HZ'.out)⟩
                  · have HOK := Lib.hid (HYES.out (by unfold clsB; rw [D1.out, D2.out, D3.out]; rfl))
                    go_wp2_with (first | (go_at_call 45; (with_reducible refine (rwithin_is D1).mono ?_); rintro e w' ⟨rfl, rfl⟩) | (go_at_call 43; (with_reducible refine (rtypes_is HSf HB2 HX2 D2).mono ?_); rintro e w' ⟨rfl, hb⟩; have HXc := Lib.hid (HXc.out.trans (hb.mono HXc.out.size)); have HX2 := Lib.hid (HX2.out.trans (hb.mono HX2.out.size)); have r0 := (HBC.out.keep HX2.out HZ2.out) 0 _ rfl; have r1 := (HBC.out.keep HX2.out HZ2.out) 1 _ rfl; have r2 := (HBC.out.keep HX2.out HZ2.out) 2 _ rfl; clear hb) | (go_at_call 44; (with_reducible refine (rlist_is HSs HB2 HX2 D3).mono ?_); rintro e w' ⟨rfl, rfl⟩))
                    go_roundw
                    case rel => exact ⟨k + 1, by omega, by go_num, HOK, HXc⟩
                    case measure => simp [intOf]; omega

            · have HCA := Lib.hid (all_end HN.out (show m.classes.length ≤ k by omega))
              clear HN
              go_wp2_with fail
              go_loopw [5] (fun i wr => ∃ k : Nat, k ≤ m.methods.length ∧ i = .int .i64 k ∧ Hid (∀ x ∈ m.methods.take k, mthB x = true) ∧ Hid (Below (w.alloc (imgO h m)).heap.size (w.alloc (imgO h m)) wr)) (fun i _ => m.methods.length - (intOf i).toNat)
              case atStart => exact ⟨0, by omega, rfl, Lib.hid (by simp), HX⟩
              case round =>
                clear HX q0 q1 q2 q3 q4 q5 q6 hlt hk
                obtain ⟨k, hk, rfl, HN, HX⟩ := hrel
                obtain ⟨q0, q1, q2, q3, q4, q5, q6⟩ := HBX.out.keep HX.out HZ.out
                have bc3 := HIM.out.methods.le
                have bc4 := HIM.out.methods.cap
                by_cases hlt : k < m.methods.length
                · obtain ⟨ad, e0, hab, hc⟩ := (HIM.out.methods.below_to MthAt.keeps HX.out HB.out).row.at_ hlt
                  rw [e0] at q3
                  clear e0
                  have HNOT := Lib.hid (fun g : mthB m.methods[k] = false => all_not hlt g)
                  have HYES := Lib.hid (fun g : mthB m.methods[k] = true => all_take hlt HN.out g)
                  generalize m.methods[k] = x at *
                  obtain ⟨⟨A0, k0, s0, hs0⟩, ⟨A1, k1, s1, hs1⟩, s2, s3, ⟨A4, k4, s4, hs4⟩, s5, s6, ⟨A7, k7, s7, hs7⟩⟩ := hc
                  obtain ⟨d1, hd1⟩ : ∃ b, typesB x.args 4 = b := ⟨_, rfl⟩
                  have D1 := Lib.hid hd1
                  obtain ⟨d2, hd2⟩ : ∃ b, typesB x.locals 8 = b := ⟨_, rfl⟩
                  have D2 := Lib.hid hd2
                  obtain ⟨d3, hd3⟩ : ∃ b, typB x.ret = b := ⟨_, rfl⟩
                  have D3 := Lib.hid hd3
                  obtain ⟨d5, hd5⟩ : ∃ b, withinB x.depth 0 8 = b := ⟨_, rfl⟩
                  have D5 := Lib.hid hd5
                  obtain ⟨d6, hd6⟩ : ∃ b, withinB x.pot 0 4096 = b := ⟨_, rfl⟩
                  have D6 := Lib.hid hd6
                  obtain ⟨d7, hd7⟩ : ∃ b, listB x.phi 64 4096 = b := ⟨_, rfl⟩
                  have D7 := Lib.hid hd7
                  have hA : Below wr.heap.size wr (wr.alloc (.cells #[.slice A0 x.args.length k0, .slice A1 x.locals.length k1, .int .i64 x.ret.1, .int .i64 x.ret.2, .slice A4 x.code.length k4, .int .i64 x.depth, .int .i64 x.pot, .slice A7 x.phi.length k7] 54)) := (Below.refl _ _).alloc (Nat.le_refl _) _
                  have hBr : B ≤ wr.heap.size := Nat.le_trans HB.out HX.out.size
                  have HXc := Lib.hid (HX.out.trans (hA.mono HX.out.size))
                  have HSa := Lib.hid (hs0.below_to TyAt.keeps hA hBr)
                  have HSl := Lib.hid (hs1.below_to TyAt.keeps hA hBr)
                  have hs4 := hs4.below_to CodeAt.keeps hA hBr
                  have HSp := Lib.hid (hs7.below_to IntAt.keeps hA hBr)
                  have HB2 := Lib.hid (Nat.le_trans hBr hA.size)
                  have HBC := Lib.hid (cells_new wr [.slice A0 x.args.length k0, .slice A1 x.locals.length k1, .int .i64 x.ret.1, .int .i64 x.ret.2, .slice A4 x.code.length k4, .int .i64 x.depth, .int .i64 x.pot, .slice A7 x.phi.length k7] 54)
                  have HZ2 : Hid (wr.heap.size < (wr.alloc (.cells #[.slice A0 x.args.length k0, .slice A1 x.locals.length k1, .int .i64 x.ret.1, .int .i64 x.ret.2, .slice A4 x.code.length k4, .int .i64 x.depth, .int .i64 x.pot, .slice A7 x.phi.length k7] 54)).heap.size) := Lib.hid (by simp)
                  clear hd1 hd2 hd3 hd5 hd6 hd7 hA hBr hs0 hs1 hs7 hab
                  go_upto_region 13 with fail
                  generalize wr.alloc (.cells #[.slice A0 x.args.length k0, .slice A1 x.locals.length k1, .int .i64 x.ret.1, .int .i64 x.ret.2, .slice A4 x.code.length k4, .int .i64 x.depth, .int .i64 x.pot, .slice A7 x.phi.length k7] 54) = w2 at *
                  have HX2 : Hid (Below w2.heap.size w2 w2) := Lib.hid (Below.refl _ _)
                  have HWX := HXc
                  have r0 := HBC.out 0 _ rfl
                  have r1 := HBC.out 1 _ rfl
                  have r2 := HBC.out 2 _ rfl
                  have r3 := HBC.out 3 _ rfl
                  have r4 := HBC.out 4 _ rfl
                  have r5 := HBC.out 5 _ rfl
                  have r6 := HBC.out 6 _ rfl
                  have r7 := HBC.out 7 _ rfl
                  cases d1
                  · have E2 := Lib.hid (show fitsB m = false by unfold fitsB; rw [HNOT.out (by unfold mthB; rw [D1.out]; rfl)]; simp)
                    go_wp2_with (first | (go_at_call 43; (with_reducible refine (rtypes_is HSa HB2 HX2 D1).mono ?_); rintro e w' ⟨rfl, hb⟩; have HXc := Lib.hid (HXc.out.trans (hb.mono HXc.out.size)); have HX2 := Lib.hid (HX2.out.trans (hb.mono HX2.out.size)); have r0 := (HBC.out.keep HX2.out HZ2.out) 0 _ rfl; have r1 := (HBC.out.keep HX2.out HZ2.out) 1 _ rfl; have r2 := (HBC.out.keep HX2.out HZ2.out) 2 _ rfl; have r3 := (HBC.out.keep HX2.out HZ2.out) 3 _ rfl; have r4 := (HBC.out.keep HX2.out HZ2.out) 4 _ rfl; have r5 := (HBC.out.keep HX2.out HZ2.out) 5 _ rfl; have r6 := (HBC.out.keep HX2.out HZ2.out) 6 _ rfl; have r7 := (HBC.out.keep HX2.out HZ2.out) 7 _ rfl; clear hb) | (go_at_call 43; (with_reducible refine (rtypes_is HSl HB2 HX2 D2).mono ?_); rintro e w' ⟨rfl, hb⟩; have HXc := Lib.hid (HXc.out.trans (hb.mono HXc.out.size)); have HX2 := Lib.hid (HX2.out.trans (hb.mono HX2.out.size)); have r0 := (HBC.out.keep HX2.out HZ2.out) 0 _ rfl; have r1 := (HBC.out.keep HX2.out HZ2.out) 1 _ rfl; have r2 := (HBC.out.keep HX2.out HZ2.out) 2 _ rfl; have r3 := (HBC.out.keep HX2.out HZ2.out) 3 _ rfl; have r4 := (HBC.out.keep HX2.out HZ2.out) 4 _ rfl; have r5 := (HBC.out.keep HX2.out HZ2.out) 5 _ rfl; have r6 := (HBC.out.keep HX2.out HZ2.out) 6 _ rfl; have r7 := (HBC.out.keep HX2.out HZ2.out) 7 _ rfl; clear hb) | (go_at_call 46; (with_reducible refine (rtyp_is D3).mono ?_); rintro e w' ⟨rfl, hb⟩; have HXc := Lib.hid (HXc.out.trans (hb.mono HXc.out.size)); have HX2 := Lib.hid (HX2.out.trans (hb.mono HX2.out.size)); have r0 := (HBC.out.keep HX2.out HZ2.out) 0 _ rfl; have r1 := (HBC.out.keep HX2.out HZ2.out) 1 _ rfl; have r2 := (HBC.out.keep HX2.out HZ2.out) 2 _ rfl; have r3 := (HBC.out.keep HX2.out HZ2.out) 3 _ rfl; have r4 := (HBC.out.keep HX2.out HZ2.out) 4 _ rfl; have r5 := (HBC.out.keep HX2.out HZ2.out) 5 _ rfl; have r6 := (HBC.out.keep HX2.out HZ2.out) 6 _ rfl; have r7 := (HBC.out.keep HX2.out HZ2.out) 7 _ rfl; clear hb) | (go_at_call 45; (with_reducible refine (rwithin_is D5).mono ?_); rintro e w' ⟨rfl, rfl⟩) | (go_at_call 45; (with_reducible refine (rwithin_is D6).mono ?_); rintro e w' ⟨rfl, rfl⟩) | (go_at_call 44; (with_reducible refine (rlist_is HSp HB2 HX2 D7).mono ?_); rintro e w' ⟨rfl, rfl⟩))
                    go_ret
                    exact ⟨by rw [E2.out]; rfl, HW.out.trans (HXc.out.mono HZ'.out)⟩
                  · cases d2
                    · have E2 := Lib.hid (show fitsB m = false by unfold fitsB; rw [HNOT.out (by unfold mthB; rw [D1.out, D2.out]; rfl)]; simp)
                      go_wp2_with (first | (go_at_call 43; (with_reducible refine (rtypes_is HSa HB2 HX2 D1).mono ?_); rintro e w' ⟨rfl, hb⟩; have HXc := Lib.hid (HXc.out.trans (hb.mono HXc.out.size)); have HX2 := Lib.hid (HX2.out.trans (hb.mono HX2.out.size)); have r0 := (HBC.out.keep HX2.out HZ2.out) 0 _ rfl; have r1 := (HBC.out.keep HX2.out HZ2.out) 1 _ rfl; have r2 := (HBC.out.keep HX2.out HZ2.out) 2 _ rfl; have r3 := (HBC.out.keep HX2.out HZ2.out) 3 _ rfl; have r4 := (HBC.out.keep HX2.out HZ2.out) 4 _ rfl; have r5 := (HBC.out.keep HX2.out HZ2.out) 5 _ rfl; have r6 := (HBC.out.keep HX2.out HZ2.out) 6 _ rfl; have r7 := (HBC.out.keep HX2.out HZ2.out) 7 _ rfl; clear hb) | (go_at_call 43; (with_reducible refine (rtypes_is HSl HB2 HX2 D2).mono ?_); rintro e w' ⟨rfl, hb⟩; have HXc := Lib.hid (HXc.out.trans (hb.mono HXc.out.size)); have HX2 := Lib.hid (HX2.out.trans (hb.mono HX2.out.size)); have r0 := (HBC.out.keep HX2.out HZ2.out) 0 _ rfl; have r1 := (HBC.out.keep HX2.out HZ2.out) 1 _ rfl; have r2 := (HBC.out.keep HX2.out HZ2.out) 2 _ rfl; have r3 := (HBC.out.keep HX2.out HZ2.out) 3 _ rfl; have r4 := (HBC.out.keep HX2.out HZ2.out) 4 _ rfl; have r5 := (HBC.out.keep HX2.out HZ2.out) 5 _ rfl; have r6 := (HBC.out.keep HX2.out HZ2.out) 6 _ rfl; have r7 := (HBC.out.keep HX2.out HZ2.out) 7 _ rfl; clear hb) | (go_at_call 46; (with_reducible refine (rtyp_is D3).mono ?_); rintro e w' ⟨rfl, hb⟩; have HXc := Lib.hid (HXc.out.trans (hb.mono HXc.out.size)); have HX2 := Lib.hid (HX2.out.trans (hb.mono HX2.out.size)); have r0 := (HBC.out.keep HX2.out HZ2.out) 0 _ rfl; have r1 := (HBC.out.keep HX2.out HZ2.out) 1 _ rfl; have r2 := (HBC.out.keep HX2.out HZ2.out) 2 _ rfl; have r3 := (HBC.out.keep HX2.out HZ2.out) 3 _ rfl; have r4 := (HBC.out.keep HX2.out HZ2.out) 4 _ rfl; have r5 := (HBC.out.keep HX2.out HZ2.out) 5 _ rfl; have r6 := (HBC.out.keep HX2.out HZ2.out) 6 _ rfl; have r7 := (HBC.out.keep HX2.out HZ2.out) 7 _ rfl; clear hb) | (go_at_call 45; (with_reducible refine (rwithin_is D5).mono ?_); rintro e w' ⟨rfl, rfl⟩) | (go_at_call 45; (with_reducible refine (rwithin_is D6).mono ?_); rintro e w' ⟨rfl, rfl⟩) | (go_at_call 44; (with_reducible refine (rlist_is HSp HB2 HX2 D7).mono ?_); rintro e w' ⟨rfl, rfl⟩))
                      go_ret
                      exact ⟨by rw [E2.out]; rfl, HW.out.trans (HXc.out.mono HZ'.out)⟩
                    · cases d3
                      · have E2 := Lib.hid (show fitsB m = false by unfold fitsB; rw [HNOT.out (by unfold mthB; rw [D1.out, D2.out, D3.out]; rfl)]; simp)
                        go_wp2_with (first | (go_at_call 43; (with_reducible refine (rtypes_is HSa HB2 HX2 D1).mono ?_); rintro e w' ⟨rfl, hb⟩; have HXc := Lib.hid (HXc.out.trans (hb.mono HXc.out.size)); have HX2 := Lib.hid (HX2.out.trans (hb.mono HX2.out.size)); have r0 := (HBC.out.keep HX2.out HZ2.out) 0 _ rfl; have r1 := (HBC.out.keep HX2.out HZ2.out) 1 _ rfl; have r2 := (HBC.out.keep HX2.out HZ2.out) 2 _ rfl; have r3 := (HBC.out.keep HX2.out HZ2.out) 3 _ rfl; have r4 := (HBC.out.keep HX2.out HZ2.out) 4 _ rfl; have r5 := (HBC.out.keep HX2.out HZ2.out) 5 _ rfl; have r6 := (HBC.out.keep HX2.out HZ2.out) 6 _ rfl; have r7 := (HBC.out.keep HX2.out HZ2.out) 7 _ rfl; clear hb) | (go_at_call 43; (with_reducible refine (rtypes_is HSl HB2 HX2 D2).mono ?_); rintro e w' ⟨rfl, hb⟩; have HXc := Lib.hid (HXc.out.trans (hb.mono HXc.out.size)); have HX2 := Lib.hid (HX2.out.trans (hb.mono HX2.out.size)); have r0 := (HBC.out.keep HX2.out HZ2.out) 0 _ rfl; have r1 := (HBC.out.keep HX2.out HZ2.out) 1 _ rfl; have r2 := (HBC.out.keep HX2.out HZ2.out) 2 _ rfl; have r3 := (HBC.out.keep HX2.out HZ2.out) 3 _ rfl; have r4 := (HBC.out.keep HX2.out HZ2.out) 4 _ rfl; have r5 := (HBC.out.keep HX2.out HZ2.out) 5 _ rfl; have r6 := (HBC.out.keep HX2.out HZ2.out) 6 _ rfl; have r7 := (HBC.out.keep HX2.out HZ2.out) 7 _ rfl; clear hb) | (go_at_call 46; (with_reducible refine (rtyp_is D3).mono ?_); rintro e w' ⟨rfl, hb⟩; have HXc := Lib.hid (HXc.out.trans (hb.mono HXc.out.size)); have HX2 := Lib.hid (HX2.out.trans (hb.mono HX2.out.size)); have r0 := (HBC.out.keep HX2.out HZ2.out) 0 _ rfl; have r1 := (HBC.out.keep HX2.out HZ2.out) 1 _ rfl; have r2 := (HBC.out.keep HX2.out HZ2.out) 2 _ rfl; have r3 := (HBC.out.keep HX2.out HZ2.out) 3 _ rfl; have r4 := (HBC.out.keep HX2.out HZ2.out) 4 _ rfl; have r5 := (HBC.out.keep HX2.out HZ2.out) 5 _ rfl; have r6 := (HBC.out.keep HX2.out HZ2.out) 6 _ rfl; have r7 := (HBC.out.keep HX2.out HZ2.out) 7 _ rfl; clear hb) | (go_at_call 45; (with_reducible refine (rwithin_is D5).mono ?_); rintro e w' ⟨rfl, rfl⟩) | (go_at_call 45; (with_reducible refine (rwithin_is D6).mono ?_); rintro e w' ⟨rfl, rfl⟩) | (go_at_call 44; (with_reducible refine (rlist_is HSp HB2 HX2 D7).mono ?_); rintro e w' ⟨rfl, rfl⟩))
                        go_ret
                        exact ⟨by rw [E2.out]; rfl, HW.out.trans (HXc.out.mono HZ'.out)⟩
                      · by_cases c4 : (64 : Int) < x.code.length
                        · have E2 := Lib.hid (show fitsB m = false by unfold fitsB; rw [HNOT.out (by unfold mthB; rw [D1.out, D2.out, D3.out, decide_eq_false (p := (x.code.length : Int) ≤ 64) (by omega)]; rfl)]; simp)
                          go_wp2_with (first | (go_at_call 43; (with_reducible refine (rtypes_is HSa HB2 HX2 D1).mono ?_); rintro e w' ⟨rfl, hb⟩; have HXc := Lib.hid (HXc.out.trans (hb.mono HXc.out.size)); have HX2 := Lib.hid (HX2.out.trans (hb.mono HX2.out.size)); have r0 := (HBC.out.keep HX2.out HZ2.out) 0 _ rfl; have r1 := (HBC.out.keep HX2.out HZ2.out) 1 _ rfl; have r2 := (HBC.out.keep HX2.out HZ2.out) 2 _ rfl; have r3 := (HBC.out.keep HX2.out HZ2.out) 3 _ rfl; have r4 := (HBC.out.keep HX2.out HZ2.out) 4 _ rfl; have r5 := (HBC.out.keep HX2.out HZ2.out) 5 _ rfl; have r6 := (HBC.out.keep HX2.out HZ2.out) 6 _ rfl; have r7 := (HBC.out.keep HX2.out HZ2.out) 7 _ rfl; clear hb) | (go_at_call 43; (with_reducible refine (rtypes_is HSl HB2 HX2 D2).mono ?_); rintro e w' ⟨rfl, hb⟩; have HXc := Lib.hid (HXc.out.trans (hb.mono HXc.out.size)); have HX2 := Lib.hid (HX2.out.trans (hb.mono HX2.out.size)); have r0 := (HBC.out.keep HX2.out HZ2.out) 0 _ rfl; have r1 := (HBC.out.keep HX2.out HZ2.out) 1 _ rfl; have r2 := (HBC.out.keep HX2.out HZ2.out) 2 _ rfl; have r3 := (HBC.out.keep HX2.out HZ2.out) 3 _ rfl; have r4 := (HBC.out.keep HX2.out HZ2.out) 4 _ rfl; have r5 := (HBC.out.keep HX2.out HZ2.out) 5 _ rfl; have r6 := (HBC.out.keep HX2.out HZ2.out) 6 _ rfl; have r7 := (HBC.out.keep HX2.out HZ2.out) 7 _ rfl; clear hb) | (go_at_call 46; (with_reducible refine (rtyp_is D3).mono ?_); rintro e w' ⟨rfl, hb⟩; have HXc := Lib.hid (HXc.out.trans (hb.mono HXc.out.size)); have HX2 := Lib.hid (HX2.out.trans (hb.mono HX2.out.size)); have r0 := (HBC.out.keep HX2.out HZ2.out) 0 _ rfl; have r1 := (HBC.out.keep HX2.out HZ2.out) 1 _ rfl; have r2 := (HBC.out.keep HX2.out HZ2.out) 2 _ rfl; have r3 := (HBC.out.keep HX2.out HZ2.out) 3 _ rfl; have r4 := (HBC.out.keep HX2.out HZ2.out) 4 _ rfl; have r5 := (HBC.out.keep HX2.out HZ2.out) 5 _ rfl; have r6 := (HBC.out.keep HX2.out HZ2.out) 6 _ rfl; have r7 := (HBC.out.keep HX2.out HZ2.out) 7 _ rfl; clear hb) | (go_at_call 45; (with_reducible refine (rwithin_is D5).mono ?_); rintro e w' ⟨rfl, rfl⟩) | (go_at_call 45; (with_reducible refine (rwithin_is D6).mono ?_); rintro e w' ⟨rfl, rfl⟩) | (go_at_call 44; (with_reducible refine (rlist_is HSp HB2 HX2 D7).mono ?_); rintro e w' ⟨rfl, rfl⟩))
                          go_ret
                          exact ⟨by rw [E2.out]; rfl, HW.out.trans (HXc.out.mono HZ'.out)⟩
                        cases d5
                        · have E2 := Lib.hid (show fitsB m = false by unfold fitsB; rw [HNOT.out (by unfold mthB; rw [D1.out, D2.out, D3.out, decide_eq_true (p := (x.code.length : Int) ≤ 64) (by omega), D5.out]; rfl)]; simp)
                          go_wp2_with (first | (go_at_call 43; (with_reducible refine (rtypes_is HSa HB2 HX2 D1).mono ?_); rintro e w' ⟨rfl, hb⟩; have HXc := Lib.hid (HXc.out.trans (hb.mono HXc.out.size)); have HX2 := Lib.hid (HX2.out.trans (hb.mono HX2.out.size)); have r0 := (HBC.out.keep HX2.out HZ2.out) 0 _ rfl; have r1 := (HBC.out.keep HX2.out HZ2.out) 1 _ rfl; have r2 := (HBC.out.keep HX2.out HZ2.out) 2 _ rfl; have r3 := (HBC.out.keep HX2.out HZ2.out) 3 _ rfl; have r4 := (HBC.out.keep HX2.out HZ2.out) 4 _ rfl; have r5 := (HBC.out.keep HX2.out HZ2.out) 5 _ rfl; have r6 := (HBC.out.keep HX2.out HZ2.out) 6 _ rfl; have r7 := (HBC.out.keep HX2.out HZ2.out) 7 _ rfl; clear hb) | (go_at_call 43; (with_reducible refine (rtypes_is HSl HB2 HX2 D2).mono ?_); rintro e w' ⟨rfl, hb⟩; have HXc := Lib.hid (HXc.out.trans (hb.mono HXc.out.size)); have HX2 := Lib.hid (HX2.out.trans (hb.mono HX2.out.size)); have r0 := (HBC.out.keep HX2.out HZ2.out) 0 _ rfl; have r1 := (HBC.out.keep HX2.out HZ2.out) 1 _ rfl; have r2 := (HBC.out.keep HX2.out HZ2.out) 2 _ rfl; have r3 := (HBC.out.keep HX2.out HZ2.out) 3 _ rfl; have r4 := (HBC.out.keep HX2.out HZ2.out) 4 _ rfl; have r5 := (HBC.out.keep HX2.out HZ2.out) 5 _ rfl; have r6 := (HBC.out.keep HX2.out HZ2.out) 6 _ rfl; have r7 := (HBC.out.keep HX2.out HZ2.out) 7 _ rfl; clear hb) | (go_at_call 46; (with_reducible refine (rtyp_is D3).mono ?_); rintro e w' ⟨rfl, hb⟩; have HXc := Lib.hid (HXc.out.trans (hb.mono HXc.out.size)); have HX2 := Lib.hid (HX2.out.trans (hb.mono HX2.out.size)); have r0 := (HBC.out.keep HX2.out HZ2.out) 0 _ rfl; have r1 := (HBC.out.keep HX2.out HZ2.out) 1 _ rfl; have r2 := (HBC.out.keep HX2.out HZ2.out) 2 _ rfl; have r3 := (HBC.out.keep HX2.out HZ2.out) 3 _ rfl; have r4 := (HBC.out.keep HX2.out HZ2.out) 4 _ rfl; have r5 := (HBC.out.keep HX2.out HZ2.out) 5 _ rfl; have r6 := (HBC.out.keep HX2.out HZ2.out) 6 _ rfl; have r7 := (HBC.out.keep HX2.out HZ2.out) 7 _ rfl; clear hb) | (go_at_call 45; (with_reducible refine (rwithin_is D5).mono ?_); rintro e w' ⟨rfl, rfl⟩) | (go_at_call 45; (with_reducible refine (rwithin_is D6).mono ?_); rintro e w' ⟨rfl, rfl⟩) | (go_at_call 44; (with_reducible refine (rlist_is HSp HB2 HX2 D7).mono ?_); rintro e w' ⟨rfl, rfl⟩))
                          go_ret
                          exact ⟨by rw [E2.out]; rfl, HW.out.trans (HXc.out.mono HZ'.out)⟩
                        · cases d6
                          · have E2 := Lib.hid (show fitsB m = false by unfold fitsB; rw [HNOT.out (by unfold mthB; rw [D1.out, D2.out, D3.out, decide_eq_true (p := (x.code.length : Int) ≤ 64) (by omega), D5.out, D6.out]; rfl)]; simp)
                            go_wp2_with (first | (go_at_call 43; (with_reducible refine (rtypes_is HSa HB2 HX2 D1).mono ?_); rintro e w' ⟨rfl, hb⟩; have HXc := Lib.hid (HXc.out.trans (hb.mono HXc.out.size)); have HX2 := Lib.hid (HX2.out.trans (hb.mono HX2.out.size)); have r0 := (HBC.out.keep HX2.out HZ2.out) 0 _ rfl; have r1 := (HBC.out.keep HX2.out HZ2.out) 1 _ rfl; have r2 := (HBC.out.keep HX2.out HZ2.out) 2 _ rfl; have r3 := (HBC.out.keep HX2.out HZ2.out) 3 _ rfl; have r4 := (HBC.out.keep HX2.out HZ2.out) 4 _ rfl; have r5 := (HBC.out.keep HX2.out HZ2.out) 5 _ rfl; have r6 := (HBC.out.keep HX2.out HZ2.out) 6 _ rfl; have r7 := (HBC.out.keep HX2.out HZ2.out) 7 _ rfl; clear hb) | (go_at_call 43; (with_reducible refine (rtypes_is HSl HB2 HX2 D2).mono ?_); rintro e w' ⟨rfl, hb⟩; have HXc := Lib.hid (HXc.out.trans (hb.mono HXc.out.size)); have HX2 := Lib.hid (HX2.out.trans (hb.mono HX2.out.size)); have r0 := (HBC.out.keep HX2.out HZ2.out) 0 _ rfl; have r1 := (HBC.out.keep HX2.out HZ2.out) 1 _ rfl; have r2 := (HBC.out.keep HX2.out HZ2.out) 2 _ rfl; have r3 := (HBC.out.keep HX2.out HZ2.out) 3 _ rfl; have r4 := (HBC.out.keep HX2.out HZ2.out) 4 _ rfl; have r5 := (HBC.out.keep HX2.out HZ2.out) 5 _ rfl; have r6 := (HBC.out.keep HX2.out HZ2.out) 6 _ rfl; have r7 := (HBC.out.keep HX2.out HZ2.out) 7 _ rfl; clear hb) | (go_at_call 46; (with_reducible refine (rtyp_is D3).mono ?_); rintro e w' ⟨rfl, hb⟩; have HXc := Lib.hid (HXc.out.trans (hb.mono HXc.out.size)); have HX2 := Lib.hid (HX2.out.trans (hb.mono HX2.out.size)); have r0 := (HBC.out.keep HX2.out HZ2.out) 0 _ rfl; have r1 := (HBC.out.keep HX2.out HZ2.out) 1 _ rfl; have r2 := (HBC.out.keep HX2.out HZ2.out) 2 _ rfl; have r3 := (HBC.out.keep HX2.out HZ2.out) 3 _ rfl; have r4 := (HBC.out.keep HX2.out HZ2.out) 4 _ rfl; have r5 := (HBC.out.keep HX2.out HZ2.out) 5 _ rfl; have r6 := (HBC.out.keep HX2.out HZ2.out) 6 _ rfl; have r7 := (HBC.out.keep HX2.out HZ2.out) 7 _ rfl; clear hb) | (go_at_call 45; (with_reducible refine (rwithin_is D5).mono ?_); rintro e w' ⟨rfl, rfl⟩) | (go_at_call 45; (with_reducible refine (rwithin_is D6).mono ?_); rintro e w' ⟨rfl, rfl⟩) | (go_at_call 44; (with_reducible refine (rlist_is HSp HB2 HX2 D7).mono ?_); rintro e w' ⟨rfl, rfl⟩))
                            go_ret
                            exact ⟨by rw [E2.out]; rfl, HW.out.trans (HXc.out.mono HZ'.out)⟩
                          · cases d7
                            · have E2 := Lib.hid (show fitsB m = false by unfold fitsB; rw [HNOT.out (by unfold mthB; rw [D1.out, D2.out, D3.out, decide_eq_true (p := (x.code.length : Int) ≤ 64) (by omega), D5.out, D6.out, D7.out]; rfl)]; simp)
                              go_wp2_with (first | (go_at_call 43; (with_reducible refine (rtypes_is HSa HB2 HX2 D1).mono ?_); rintro e w' ⟨rfl, hb⟩; have HXc := Lib.hid (HXc.out.trans (hb.mono HXc.out.size)); have HX2 := Lib.hid (HX2.out.trans (hb.mono HX2.out.size)); have r0 := (HBC.out.keep HX2.out HZ2.out) 0 _ rfl; have r1 := (HBC.out.keep HX2.out HZ2.out) 1 _ rfl; have r2 := (HBC.out.keep HX2.out HZ2.out) 2 _ rfl; have r3 := (HBC.out.keep HX2.out HZ2.out) 3 _ rfl; have r4 := (HBC.out.keep HX2.out HZ2.out) 4 _ rfl; have r5 := (HBC.out.keep HX2.out HZ2.out) 5 _ rfl; have r6 := (HBC.out.keep HX2.out HZ2.out) 6 _ rfl; have r7 := (HBC.out.keep HX2.out HZ2.out) 7 _ rfl; clear hb) | (go_at_call 43; (with_reducible refine (rtypes_is HSl HB2 HX2 D2).mono ?_); rintro e w' ⟨rfl, hb⟩; have HXc := Lib.hid (HXc.out.trans (hb.mono HXc.out.size)); have HX2 := Lib.hid (HX2.out.trans (hb.mono HX2.out.size)); have r0 := (HBC.out.keep HX2.out HZ2.out) 0 _ rfl; have r1 := (HBC.out.keep HX2.out HZ2.out) 1 _ rfl; have r2 := (HBC.out.keep HX2.out HZ2.out) 2 _ rfl; have r3 := (HBC.out.keep HX2.out HZ2.out) 3 _ rfl; have r4 := (HBC.out.keep HX2.out HZ2.out) 4 _ rfl; have r5 := (HBC.out.keep HX2.out HZ2.out) 5 _ rfl; have r6 := (HBC.out.keep HX2.out HZ2.out) 6 _ rfl; have r7 := (HBC.out.keep HX2.out HZ2.out) 7 _ rfl; clear hb) | (go_at_call 46; (with_reducible refine (rtyp_is D3).mono ?_); rintro e w' ⟨rfl, hb⟩; have HXc := Lib.hid (HXc.out.trans (hb.mono HXc.out.size)); have HX2 := Lib.hid (HX2.out.trans (hb.mono HX2.out.size)); have r0 := (HBC.out.keep HX2.out HZ2.out) 0 _ rfl; have r1 := (HBC.out.keep HX2.out HZ2.out) 1 _ rfl; have r2 := (HBC.out.keep HX2.out HZ2.out) 2 _ rfl; have r3 := (HBC.out.keep HX2.out HZ2.out) 3 _ rfl; have r4 := (HBC.out.keep HX2.out HZ2.out) 4 _ rfl; have r5 := (HBC.out.keep HX2.out HZ2.out) 5 _ rfl; have r6 := (HBC.out.keep HX2.out HZ2.out) 6 _ rfl; have r7 := (HBC.out.keep HX2.out HZ2.out) 7 _ rfl; clear hb) | (go_at_call 45; (with_reducible refine (rwithin_is D5).mono ?_); rintro e w' ⟨rfl, rfl⟩) | (go_at_call 45; (with_reducible refine (rwithin_is D6).mono ?_); rintro e w' ⟨rfl, rfl⟩) | (go_at_call 44; (with_reducible refine (rlist_is HSp HB2 HX2 D7).mono ?_); rintro e w' ⟨rfl, rfl⟩))
                              go_ret
                              exact ⟨by rw [E2.out]; rfl, HW.out.trans (HXc.out.mono HZ'.out)⟩
                            · have HE4 := Lib.hid hs4
                              go_wp2_with (first | (go_at_call 43; (with_reducible refine (rtypes_is HSa HB2 HX2 D1).mono ?_); rintro e w' ⟨rfl, hb⟩; have HXc := Lib.hid (HXc.out.trans (hb.mono HXc.out.size)); have HX2 := Lib.hid (HX2.out.trans (hb.mono HX2.out.size)); have r0 := (HBC.out.keep HX2.out HZ2.out) 0 _ rfl; have r1 := (HBC.out.keep HX2.out HZ2.out) 1 _ rfl; have r2 := (HBC.out.keep HX2.out HZ2.out) 2 _ rfl; have r3 := (HBC.out.keep HX2.out HZ2.out) 3 _ rfl; have r4 := (HBC.out.keep HX2.out HZ2.out) 4 _ rfl; have r5 := (HBC.out.keep HX2.out HZ2.out) 5 _ rfl; have r6 := (HBC.out.keep HX2.out HZ2.out) 6 _ rfl; have r7 := (HBC.out.keep HX2.out HZ2.out) 7 _ rfl; clear hb) | (go_at_call 43; (with_reducible refine (rtypes_is HSl HB2 HX2 D2).mono ?_); rintro e w' ⟨rfl, hb⟩; have HXc := Lib.hid (HXc.out.trans (hb.mono HXc.out.size)); have HX2 := Lib.hid (HX2.out.trans (hb.mono HX2.out.size)); have r0 := (HBC.out.keep HX2.out HZ2.out) 0 _ rfl; have r1 := (HBC.out.keep HX2.out HZ2.out) 1 _ rfl; have r2 := (HBC.out.keep HX2.out HZ2.out) 2 _ rfl; have r3 := (HBC.out.keep HX2.out HZ2.out) 3 _ rfl; have r4 := (HBC.out.keep HX2.out HZ2.out) 4 _ rfl; have r5 := (HBC.out.keep HX2.out HZ2.out) 5 _ rfl; have r6 := (HBC.out.keep HX2.out HZ2.out) 6 _ rfl; have r7 := (HBC.out.keep HX2.out HZ2.out) 7 _ rfl; clear hb) | (go_at_call 46; (with_reducible refine (rtyp_is D3).mono ?_); rintro e w' ⟨rfl, hb⟩; have HXc := Lib.hid (HXc.out.trans (hb.mono HXc.out.size)); have HX2 := Lib.hid (HX2.out.trans (hb.mono HX2.out.size)); have r0 := (HBC.out.keep HX2.out HZ2.out) 0 _ rfl; have r1 := (HBC.out.keep HX2.out HZ2.out) 1 _ rfl; have r2 := (HBC.out.keep HX2.out HZ2.out) 2 _ rfl; have r3 := (HBC.out.keep HX2.out HZ2.out) 3 _ rfl; have r4 := (HBC.out.keep HX2.out HZ2.out) 4 _ rfl; have r5 := (HBC.out.keep HX2.out HZ2.out) 5 _ rfl; have r6 := (HBC.out.keep HX2.out HZ2.out) 6 _ rfl; have r7 := (HBC.out.keep HX2.out HZ2.out) 7 _ rfl; clear hb) | (go_at_call 45; (with_reducible refine (rwithin_is D5).mono ?_); rintro e w' ⟨rfl, rfl⟩) | (go_at_call 45; (with_reducible refine (rwithin_is D6).mono ?_); rintro e w' ⟨rfl, rfl⟩) | (go_at_call 44; (with_reducible refine (rlist_is HSp HB2 HX2 D7).mono ?_); rintro e w' ⟨rfl, rfl⟩))
                              go_loopw [7] (fun i wr => ∃ j : Nat, j ≤ x.code.length ∧ i = .int .i64 j ∧ Hid (∀ i ∈ x.code.take j, instrB i.1 i.2.1 i.2.2 = true) ∧ Hid (Below w2.heap.size w2 wr)) (fun i _ => x.code.length - (intOf i).toNat)
                              case atStart => exact ⟨0, by omega, rfl, Lib.hid (by simp), HX2⟩
                              case round =>
                                clear HX2 HXc r0 r1 r2 r3 r4 r5 r6 r7
                                obtain ⟨j, hj, rfl, HM, HX3⟩ := hrel
                                have r0 := (HBC.out.keep HX3.out HZ2.out) 0 _ rfl
                                have r1 := (HBC.out.keep HX3.out HZ2.out) 1 _ rfl
                                have r2 := (HBC.out.keep HX3.out HZ2.out) 2 _ rfl
                                have r3 := (HBC.out.keep HX3.out HZ2.out) 3 _ rfl
                                have r4 := (HBC.out.keep HX3.out HZ2.out) 4 _ rfl
                                have r5 := (HBC.out.keep HX3.out HZ2.out) 5 _ rfl
                                have r6 := (HBC.out.keep HX3.out HZ2.out) 6 _ rfl
                                have r7 := (HBC.out.keep HX3.out HZ2.out) 7 _ rfl
                                have bk1 := HE4.out.le
                                have bk2 := HE4.out.cap
                                by_cases hltj : j < x.code.length
                                · obtain ⟨ad4, e4, hab4, t0, t1, t2⟩ := (HE4.out.below_to CodeAt.keeps HX3.out HB2.out).row.at_ hltj
                                  rw [e4] at r4
                                  clear e4 hab4
                                  have HCN := Lib.hid (fun g : (fun i : Int × Int × Int => instrB i.1 i.2.1 i.2.2) x.code[j] = false => (all_not hltj g : codeB x.code = false))
                                  have HCY := Lib.hid (fun g : (fun i : Int × Int × Int => instrB i.1 i.2.1 i.2.2) x.code[j] = true => all_take hltj HM.out g)
                                  generalize x.code[j] = ins at *
                                  obtain ⟨op, a, b⟩ := ins
                                  dsimp only at t0 t1 t2
                                  obtain ⟨g, hg⟩ : ∃ g, instrB op a b = g := ⟨_, rfl⟩
                                  have G := Lib.hid hg
                                  clear hg
                                  cases g
                                  · have E2 := Lib.hid (show fitsB m = false by unfold fitsB; rw [HNOT.out (by unfold mthB; rw [show codeB x.code = false from HCN.out G.out]; simp)]; simp)
                                    go_wp2_with (first | (go_at_call 47; (with_reducible refine (rinstr_any op a b _).mono ?_); rintro e w' ⟨he, hb⟩; rw [G.out] at he; subst he; have HX3 := Lib.hid (HX3.out.trans (hb.mono HX3.out.size)); clear hb))
                                    go_ret
                                    exact ⟨by rw [E2.out]; rfl, HW.out.trans ((HWX.out.trans (HX3.out.mono HWX.out.size)).mono HZ'.out)⟩
                                  · have HOK := Lib.hid (HCY.out G.out)
                                    go_wp2_with (first | (go_at_call 47; (with_reducible refine (rinstr_any op a b _).mono ?_); rintro e w' ⟨he, hb⟩; rw [G.out] at he; subst he; have HX3 := Lib.hid (HX3.out.trans (hb.mono HX3.out.size)); clear hb))
                                    go_roundw
                                    case rel => exact ⟨j + 1, by omega, by go_num, HOK, HX3⟩
                                    case measure => simp [intOf]; omega
                                · have HCA := Lib.hid (show codeB x.code = true from all_end HM.out (by omega))
                                  have HOK := Lib.hid (HYES.out (by unfold mthB; rw [D1.out, D2.out, D3.out, D5.out, D6.out, D7.out, HCA.out, decide_eq_true (p := (x.code.length : Int) ≤ 64) (by omega)]; rfl))
                                  have HXD := Lib.hid (HWX.out.trans (HX3.out.mono HWX.out.size))
                                  go_wp2_with fail
                                  go_roundw
                                  case rel => exact ⟨k + 1, by omega, by go_num, HOK, HXD⟩
                                  case measure => simp [intOf]; omega

                · have HMA := Lib.hid (all_end HN.out (show m.methods.length ≤ k by omega))
                  have E2 := Lib.hid (show fitsB m = true by unfold fitsB; rw [HHD.out, HCA.out, HMA.out]; rfl)
                  go_wp2_with fail
                  go_ret
                  exact ⟨by rw [E2.out]; rfl, HW.out.trans (HX.out.mono HZ'.out)⟩
end Go.Proofs.Ytefgepppcmhphaa
