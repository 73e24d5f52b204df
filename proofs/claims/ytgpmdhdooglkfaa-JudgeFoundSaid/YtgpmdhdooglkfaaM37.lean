/-
  What flow.takes comes to: the instructions that name nothing.
-/
import Derived.Test.YtgpmdhdooglkfaaM36
import Derived.RegionTactic
import Derived.ChangeAlike
import Derived.Deep.RegionHeld3
import Derived.Deep.QuietTactic
import Derived.BigQuiet
namespace Go.Proofs.Ytgpmdhdooglkfaa
set_option maxRecDepth 100000
set_option linter.unusedVariables false
set_option linter.unusedSimpArgs false
open Go.ChangeShapes Go.WideShapes Go.ChangeAt Go.RowKit

theorem ftk_5 (m : Img) (x : Mth) (f : Nat) (a b : Int) (h : Hnd) (w : World) (H : ImgIn w w.heap.size h m) :
    Calls Try.prog 57 #[imgV h m, insV 5 a b, .int .i64 f] w (SomeTypes (wantsOf m x 5 a b) w) := by
  have e1 : wantsOf m x 5 a b = [(6, 0)] := by simp [wantsOf]
  rw [e1]
  clear e1
  have HL : Hid (mkOf a [6] = [(6, 0)]) := Lib.hid (by simp [mkOf, mkOne])
  obtain ⟨hw, hp⟩ := take_parts h m 5 a b w
  have HW := Lib.hid hw
  have HP := Lib.hid hp
  have HI := Lib.hid (H.now hw)
  clear hw hp H
  go_enter Try.func57, Try.ntmps57
  go_upto_region 1 with fail
  change Code.wp _ _ _ _ (twoW h m 5 a b w)
  go_upto_region 2 with (go_at_call 74; (refine (maker_is (h := h) (m := m) (w := w)).mono ?_); rintro e w2 ⟨rfl, rfl⟩)
  generalize takeW h m 5 a b w = w2 at *
  have HX : Hid (Below w2.heap.size w2 w2) := Lib.hid (Below.refl _ _)
  have HN := Lib.hid HP.out.fnlt
  have HC := Lib.hid HP.out.fn
  obtain ⟨q0, q1, q2, q3, q4, q5, q6⟩ := HP.out.img
  have o0 := HP.out.ins 0 _ rfl
  have o1 := HP.out.ins 1 _ rfl
  have o2 := HP.out.ins 2 _ rfl
  go_wp2_with (go_at_call 90; (with_reducible refine (fmk1_is HL HN HC HX).mono ?_); rintro e w3 ⟨v3, rfl, ho3, hb3⟩; have HO3 := Lib.hid ho3; have HX3 := Lib.hid hb3; clear ho3 hb3)
  go_ret
  exact OwnFromW.some_ (w0 := w2) ⟨_, rfl, HO3.out, HX3.out⟩ HW.out

theorem ftk_6 (m : Img) (x : Mth) (f : Nat) (a b : Int) (h : Hnd) (w : World) (H : ImgIn w w.heap.size h m) :
    Calls Try.prog 57 #[imgV h m, insV 6 a b, .int .i64 f] w (SomeTypes (wantsOf m x 6 a b) w) := by
  have e1 : wantsOf m x 6 a b = [(6, 0)] := by simp [wantsOf]
  rw [e1]
  clear e1
  have HL : Hid (mkOf a [6] = [(6, 0)]) := Lib.hid (by simp [mkOf, mkOne])
  obtain ⟨hw, hp⟩ := take_parts h m 6 a b w
  have HW := Lib.hid hw
  have HP := Lib.hid hp
  have HI := Lib.hid (H.now hw)
  clear hw hp H
  go_enter Try.func57, Try.ntmps57
  go_upto_region 1 with fail
  change Code.wp _ _ _ _ (twoW h m 6 a b w)
  go_upto_region 2 with (go_at_call 74; (refine (maker_is (h := h) (m := m) (w := w)).mono ?_); rintro e w2 ⟨rfl, rfl⟩)
  generalize takeW h m 6 a b w = w2 at *
  have HX : Hid (Below w2.heap.size w2 w2) := Lib.hid (Below.refl _ _)
  have HN := Lib.hid HP.out.fnlt
  have HC := Lib.hid HP.out.fn
  obtain ⟨q0, q1, q2, q3, q4, q5, q6⟩ := HP.out.img
  have o0 := HP.out.ins 0 _ rfl
  have o1 := HP.out.ins 1 _ rfl
  have o2 := HP.out.ins 2 _ rfl
  go_wp2_with (go_at_call 90; (with_reducible refine (fmk1_is HL HN HC HX).mono ?_); rintro e w3 ⟨v3, rfl, ho3, hb3⟩; have HO3 := Lib.hid ho3; have HX3 := Lib.hid hb3; clear ho3 hb3)
  go_ret
  exact OwnFromW.some_ (w0 := w2) ⟨_, rfl, HO3.out, HX3.out⟩ HW.out

theorem ftk_19 (m : Img) (x : Mth) (f : Nat) (a b : Int) (h : Hnd) (w : World) (H : ImgIn w w.heap.size h m) :
    Calls Try.prog 57 #[imgV h m, insV 19 a b, .int .i64 f] w (SomeTypes (wantsOf m x 19 a b) w) := by
  have e1 : wantsOf m x 19 a b = [(1, 0)] := by simp [wantsOf]
  rw [e1]
  clear e1
  have HL : Hid (mkOf a [1] = [(1, 0)]) := Lib.hid (by simp [mkOf, mkOne])
  obtain ⟨hw, hp⟩ := take_parts h m 19 a b w
  have HW := Lib.hid hw
  have HP := Lib.hid hp
  have HI := Lib.hid (H.now hw)
  clear hw hp H
  go_enter Try.func57, Try.ntmps57
  go_upto_region 1 with fail
  change Code.wp _ _ _ _ (twoW h m 19 a b w)
  go_upto_region 2 with (go_at_call 74; (refine (maker_is (h := h) (m := m) (w := w)).mono ?_); rintro e w2 ⟨rfl, rfl⟩)
  generalize takeW h m 19 a b w = w2 at *
  have HX : Hid (Below w2.heap.size w2 w2) := Lib.hid (Below.refl _ _)
  have HN := Lib.hid HP.out.fnlt
  have HC := Lib.hid HP.out.fn
  obtain ⟨q0, q1, q2, q3, q4, q5, q6⟩ := HP.out.img
  have o0 := HP.out.ins 0 _ rfl
  have o1 := HP.out.ins 1 _ rfl
  have o2 := HP.out.ins 2 _ rfl
  go_wp2_with (go_at_call 90; (with_reducible refine (fmk1_is HL HN HC HX).mono ?_); rintro e w3 ⟨v3, rfl, ho3, hb3⟩; have HO3 := Lib.hid ho3; have HX3 := Lib.hid hb3; clear ho3 hb3)
  go_ret
  exact OwnFromW.some_ (w0 := w2) ⟨_, rfl, HO3.out, HX3.out⟩ HW.out

theorem ftk_23 (m : Img) (x : Mth) (f : Nat) (a b : Int) (h : Hnd) (w : World) (H : ImgIn w w.heap.size h m) :
    Calls Try.prog 57 #[imgV h m, insV 23 a b, .int .i64 f] w (SomeTypes (wantsOf m x 23 a b) w) := by
  have e1 : wantsOf m x 23 a b = [(1, 0)] := by simp [wantsOf]
  rw [e1]
  clear e1
  have HL : Hid (mkOf a [1] = [(1, 0)]) := Lib.hid (by simp [mkOf, mkOne])
  obtain ⟨hw, hp⟩ := take_parts h m 23 a b w
  have HW := Lib.hid hw
  have HP := Lib.hid hp
  have HI := Lib.hid (H.now hw)
  clear hw hp H
  go_enter Try.func57, Try.ntmps57
  go_upto_region 1 with fail
  change Code.wp _ _ _ _ (twoW h m 23 a b w)
  go_upto_region 2 with (go_at_call 74; (refine (maker_is (h := h) (m := m) (w := w)).mono ?_); rintro e w2 ⟨rfl, rfl⟩)
  generalize takeW h m 23 a b w = w2 at *
  have HX : Hid (Below w2.heap.size w2 w2) := Lib.hid (Below.refl _ _)
  have HN := Lib.hid HP.out.fnlt
  have HC := Lib.hid HP.out.fn
  obtain ⟨q0, q1, q2, q3, q4, q5, q6⟩ := HP.out.img
  have o0 := HP.out.ins 0 _ rfl
  have o1 := HP.out.ins 1 _ rfl
  have o2 := HP.out.ins 2 _ rfl
  go_wp2_with (go_at_call 90; (with_reducible refine (fmk1_is HL HN HC HX).mono ?_); rintro e w3 ⟨v3, rfl, ho3, hb3⟩; have HO3 := Lib.hid ho3; have HX3 := Lib.hid hb3; clear ho3 hb3)
  go_ret
  exact OwnFromW.some_ (w0 := w2) ⟨_, rfl, HO3.out, HX3.out⟩ HW.out

theorem ftk_20 (m : Img) (x : Mth) (f : Nat) (a b : Int) (h : Hnd) (w : World) (H : ImgIn w w.heap.size h m) :
    Calls Try.prog 57 #[imgV h m, insV 20 a b, .int .i64 f] w (SomeTypes (wantsOf m x 20 a b) w) := by
  have e1 : wantsOf m x 20 a b = [(7, 0)] := by simp [wantsOf]
  rw [e1]
  clear e1
  have HL : Hid (mkOf a [7] = [(7, 0)]) := Lib.hid (by simp [mkOf, mkOne])
  obtain ⟨hw, hp⟩ := take_parts h m 20 a b w
  have HW := Lib.hid hw
  have HP := Lib.hid hp
  have HI := Lib.hid (H.now hw)
  clear hw hp H
  go_enter Try.func57, Try.ntmps57
  go_upto_region 1 with fail
  change Code.wp _ _ _ _ (twoW h m 20 a b w)
  go_upto_region 2 with (go_at_call 74; (refine (maker_is (h := h) (m := m) (w := w)).mono ?_); rintro e w2 ⟨rfl, rfl⟩)
  generalize takeW h m 20 a b w = w2 at *
  have HX : Hid (Below w2.heap.size w2 w2) := Lib.hid (Below.refl _ _)
  have HN := Lib.hid HP.out.fnlt
  have HC := Lib.hid HP.out.fn
  obtain ⟨q0, q1, q2, q3, q4, q5, q6⟩ := HP.out.img
  have o0 := HP.out.ins 0 _ rfl
  have o1 := HP.out.ins 1 _ rfl
  have o2 := HP.out.ins 2 _ rfl
  go_wp2_with (go_at_call 90; (with_reducible refine (fmk1_is HL HN HC HX).mono ?_); rintro e w3 ⟨v3, rfl, ho3, hb3⟩; have HO3 := Lib.hid ho3; have HX3 := Lib.hid hb3; clear ho3 hb3)
  go_ret
  exact OwnFromW.some_ (w0 := w2) ⟨_, rfl, HO3.out, HX3.out⟩ HW.out

theorem ftk_21 (m : Img) (x : Mth) (f : Nat) (a b : Int) (h : Hnd) (w : World) (H : ImgIn w w.heap.size h m) :
    Calls Try.prog 57 #[imgV h m, insV 21 a b, .int .i64 f] w (SomeTypes (wantsOf m x 21 a b) w) := by
  have e1 : wantsOf m x 21 a b = [(7, 0), (7, 0)] := by simp [wantsOf]
  rw [e1]
  clear e1
  have HL : Hid (mkOf a [7, 7] = [(7, 0), (7, 0)]) := Lib.hid (by simp [mkOf, mkOne])
  obtain ⟨hw, hp⟩ := take_parts h m 21 a b w
  have HW := Lib.hid hw
  have HP := Lib.hid hp
  have HI := Lib.hid (H.now hw)
  clear hw hp H
  go_enter Try.func57, Try.ntmps57
  go_upto_region 1 with fail
  change Code.wp _ _ _ _ (twoW h m 21 a b w)
  go_upto_region 2 with (go_at_call 74; (refine (maker_is (h := h) (m := m) (w := w)).mono ?_); rintro e w2 ⟨rfl, rfl⟩)
  generalize takeW h m 21 a b w = w2 at *
  have HX : Hid (Below w2.heap.size w2 w2) := Lib.hid (Below.refl _ _)
  have HN := Lib.hid HP.out.fnlt
  have HC := Lib.hid HP.out.fn
  obtain ⟨q0, q1, q2, q3, q4, q5, q6⟩ := HP.out.img
  have o0 := HP.out.ins 0 _ rfl
  have o1 := HP.out.ins 1 _ rfl
  have o2 := HP.out.ins 2 _ rfl
  go_wp2_with (go_at_call 90; (with_reducible refine (fmk2_is HL HN HC HX).mono ?_); rintro e w3 ⟨v3, rfl, ho3, hb3⟩; have HO3 := Lib.hid ho3; have HX3 := Lib.hid hb3; clear ho3 hb3)
  go_ret
  exact OwnFromW.some_ (w0 := w2) ⟨_, rfl, HO3.out, HX3.out⟩ HW.out

theorem ftk_24 (m : Img) (x : Mth) (f : Nat) (a b : Int) (h : Hnd) (w : World) (H : ImgIn w w.heap.size h m) :
    Calls Try.prog 57 #[imgV h m, insV 24 a b, .int .i64 f] w (SomeTypes (wantsOf m x 24 a b) w) := by
  have e1 : wantsOf m x 24 a b = [(2, 0), (1, 0)] := by simp [wantsOf]
  rw [e1]
  clear e1
  have HL : Hid (mkOf a [2, 1] = [(2, 0), (1, 0)]) := Lib.hid (by simp [mkOf, mkOne])
  obtain ⟨hw, hp⟩ := take_parts h m 24 a b w
  have HW := Lib.hid hw
  have HP := Lib.hid hp
  have HI := Lib.hid (H.now hw)
  clear hw hp H
  go_enter Try.func57, Try.ntmps57
  go_upto_region 1 with fail
  change Code.wp _ _ _ _ (twoW h m 24 a b w)
  go_upto_region 2 with (go_at_call 74; (refine (maker_is (h := h) (m := m) (w := w)).mono ?_); rintro e w2 ⟨rfl, rfl⟩)
  generalize takeW h m 24 a b w = w2 at *
  have HX : Hid (Below w2.heap.size w2 w2) := Lib.hid (Below.refl _ _)
  have HN := Lib.hid HP.out.fnlt
  have HC := Lib.hid HP.out.fn
  obtain ⟨q0, q1, q2, q3, q4, q5, q6⟩ := HP.out.img
  have o0 := HP.out.ins 0 _ rfl
  have o1 := HP.out.ins 1 _ rfl
  have o2 := HP.out.ins 2 _ rfl
  go_wp2_with (go_at_call 90; (with_reducible refine (fmk2_is HL HN HC HX).mono ?_); rintro e w3 ⟨v3, rfl, ho3, hb3⟩; have HO3 := Lib.hid ho3; have HX3 := Lib.hid hb3; clear ho3 hb3)
  go_ret
  exact OwnFromW.some_ (w0 := w2) ⟨_, rfl, HO3.out, HX3.out⟩ HW.out

theorem ftk_25 (m : Img) (x : Mth) (f : Nat) (a b : Int) (h : Hnd) (w : World) (H : ImgIn w w.heap.size h m) :
    Calls Try.prog 57 #[imgV h m, insV 25 a b, .int .i64 f] w (SomeTypes (wantsOf m x 25 a b) w) := by
  have e1 : wantsOf m x 25 a b = [(2, 0), (1, 0), (1, 0)] := by simp [wantsOf]
  rw [e1]
  clear e1
  have HL : Hid (mkOf a [2, 1, 1] = [(2, 0), (1, 0), (1, 0)]) := Lib.hid (by simp [mkOf, mkOne])
  obtain ⟨hw, hp⟩ := take_parts h m 25 a b w
  have HW := Lib.hid hw
  have HP := Lib.hid hp
  have HI := Lib.hid (H.now hw)
  clear hw hp H
  go_enter Try.func57, Try.ntmps57
  go_upto_region 1 with fail
  change Code.wp _ _ _ _ (twoW h m 25 a b w)
  go_upto_region 2 with (go_at_call 74; (refine (maker_is (h := h) (m := m) (w := w)).mono ?_); rintro e w2 ⟨rfl, rfl⟩)
  generalize takeW h m 25 a b w = w2 at *
  have HX : Hid (Below w2.heap.size w2 w2) := Lib.hid (Below.refl _ _)
  have HN := Lib.hid HP.out.fnlt
  have HC := Lib.hid HP.out.fn
  obtain ⟨q0, q1, q2, q3, q4, q5, q6⟩ := HP.out.img
  have o0 := HP.out.ins 0 _ rfl
  have o1 := HP.out.ins 1 _ rfl
  have o2 := HP.out.ins 2 _ rfl
  go_wp2_with (go_at_call 90; (with_reducible refine (fmk3_is HL HN HC HX).mono ?_); rintro e w3 ⟨v3, rfl, ho3, hb3⟩; have HO3 := Lib.hid ho3; have HX3 := Lib.hid hb3; clear ho3 hb3)
  go_ret
  exact OwnFromW.some_ (w0 := w2) ⟨_, rfl, HO3.out, HX3.out⟩ HW.out

theorem ftk_26 (m : Img) (x : Mth) (f : Nat) (a b : Int) (h : Hnd) (w : World) (H : ImgIn w w.heap.size h m) :
    Calls Try.prog 57 #[imgV h m, insV 26 a b, .int .i64 f] w (SomeTypes (wantsOf m x 26 a b) w) := by
  have e1 : wantsOf m x 26 a b = [(2, 0)] := by simp [wantsOf]
  rw [e1]
  clear e1
  have HL : Hid (mkOf a [2] = [(2, 0)]) := Lib.hid (by simp [mkOf, mkOne])
  obtain ⟨hw, hp⟩ := take_parts h m 26 a b w
  have HW := Lib.hid hw
  have HP := Lib.hid hp
  have HI := Lib.hid (H.now hw)
  clear hw hp H
  go_enter Try.func57, Try.ntmps57
  go_upto_region 1 with fail
  change Code.wp _ _ _ _ (twoW h m 26 a b w)
  go_upto_region 2 with (go_at_call 74; (refine (maker_is (h := h) (m := m) (w := w)).mono ?_); rintro e w2 ⟨rfl, rfl⟩)
  generalize takeW h m 26 a b w = w2 at *
  have HX : Hid (Below w2.heap.size w2 w2) := Lib.hid (Below.refl _ _)
  have HN := Lib.hid HP.out.fnlt
  have HC := Lib.hid HP.out.fn
  obtain ⟨q0, q1, q2, q3, q4, q5, q6⟩ := HP.out.img
  have o0 := HP.out.ins 0 _ rfl
  have o1 := HP.out.ins 1 _ rfl
  have o2 := HP.out.ins 2 _ rfl
  go_wp2_with (go_at_call 90; (with_reducible refine (fmk1_is HL HN HC HX).mono ?_); rintro e w3 ⟨v3, rfl, ho3, hb3⟩; have HO3 := Lib.hid ho3; have HX3 := Lib.hid hb3; clear ho3 hb3)
  go_ret
  exact OwnFromW.some_ (w0 := w2) ⟨_, rfl, HO3.out, HX3.out⟩ HW.out

theorem ftk_27 (m : Img) (x : Mth) (f : Nat) (a b : Int) (h : Hnd) (w : World) (H : ImgIn w w.heap.size h m) :
    Calls Try.prog 57 #[imgV h m, insV 27 a b, .int .i64 f] w (SomeTypes (wantsOf m x 27 a b) w) := by
  have e1 : wantsOf m x 27 a b = [(3, a)] := by simp [wantsOf]
  rw [e1]
  clear e1
  have HL : Hid (mkOf a [3] = [(3, a)]) := Lib.hid (by simp [mkOf, mkOne])
  obtain ⟨hw, hp⟩ := take_parts h m 27 a b w
  have HW := Lib.hid hw
  have HP := Lib.hid hp
  have HI := Lib.hid (H.now hw)
  clear hw hp H
  go_enter Try.func57, Try.ntmps57
  go_upto_region 1 with fail
  change Code.wp _ _ _ _ (twoW h m 27 a b w)
  go_upto_region 2 with (go_at_call 74; (refine (maker_is (h := h) (m := m) (w := w)).mono ?_); rintro e w2 ⟨rfl, rfl⟩)
  generalize takeW h m 27 a b w = w2 at *
  have HX : Hid (Below w2.heap.size w2 w2) := Lib.hid (Below.refl _ _)
  have HN := Lib.hid HP.out.fnlt
  have HC := Lib.hid HP.out.fn
  obtain ⟨q0, q1, q2, q3, q4, q5, q6⟩ := HP.out.img
  have o0 := HP.out.ins 0 _ rfl
  have o1 := HP.out.ins 1 _ rfl
  have o2 := HP.out.ins 2 _ rfl
  go_wp2_with (go_at_call 90; (with_reducible refine (fmk1_is HL HN HC HX).mono ?_); rintro e w3 ⟨v3, rfl, ho3, hb3⟩; have HO3 := Lib.hid ho3; have HX3 := Lib.hid hb3; clear ho3 hb3)
  go_ret
  exact OwnFromW.some_ (w0 := w2) ⟨_, rfl, HO3.out, HX3.out⟩ HW.out

theorem ftk_34 (m : Img) (x : Mth) (f : Nat) (a b : Int) (h : Hnd) (w : World) (H : ImgIn w w.heap.size h m) :
    Calls Try.prog 57 #[imgV h m, insV 34 a b, .int .i64 f] w (SomeTypes (wantsOf m x 34 a b) w) := by
  have e1 : wantsOf m x 34 a b = [(8, 0)] := by simp [wantsOf]
  rw [e1]
  clear e1
  have HL : Hid (mkOf a [8] = [(8, 0)]) := Lib.hid (by simp [mkOf, mkOne])
  obtain ⟨hw, hp⟩ := take_parts h m 34 a b w
  have HW := Lib.hid hw
  have HP := Lib.hid hp
  have HI := Lib.hid (H.now hw)
  clear hw hp H
  go_enter Try.func57, Try.ntmps57
  go_upto_region 1 with fail
  change Code.wp _ _ _ _ (twoW h m 34 a b w)
  go_upto_region 2 with (go_at_call 74; (refine (maker_is (h := h) (m := m) (w := w)).mono ?_); rintro e w2 ⟨rfl, rfl⟩)
  generalize takeW h m 34 a b w = w2 at *
  have HX : Hid (Below w2.heap.size w2 w2) := Lib.hid (Below.refl _ _)
  have HN := Lib.hid HP.out.fnlt
  have HC := Lib.hid HP.out.fn
  obtain ⟨q0, q1, q2, q3, q4, q5, q6⟩ := HP.out.img
  have o0 := HP.out.ins 0 _ rfl
  have o1 := HP.out.ins 1 _ rfl
  have o2 := HP.out.ins 2 _ rfl
  go_wp2_with (go_at_call 90; (with_reducible refine (fmk1_is HL HN HC HX).mono ?_); rintro e w3 ⟨v3, rfl, ho3, hb3⟩; have HO3 := Lib.hid ho3; have HX3 := Lib.hid hb3; clear ho3 hb3)
  go_ret
  exact OwnFromW.some_ (w0 := w2) ⟨_, rfl, HO3.out, HX3.out⟩ HW.out

theorem ftk_math (m : Img) (x : Mth) (f : Nat) (op a b : Int) (h7 : 7 ≤ op) (h17 : op ≤ 17) (h : Hnd) (w : World) (H : ImgIn w w.heap.size h m) :
    Calls Try.prog 57 #[imgV h m, insV op a b, .int .i64 f] w (SomeTypes (wantsOf m x op a b) w) := by
  have hop : 7 ≤ op ∧ op ≤ 17 := ⟨h7, h17⟩
  have n4 : ¬ op = 4 := by omega
  have n5 : ¬ op = 5 := by omega
  have n6 : ¬ op = 6 := by omega
  have n19 : ¬ op = 19 := by omega
  have n20 : ¬ op = 20 := by omega
  have n21 : ¬ op = 21 := by omega
  have n23 : ¬ op = 23 := by omega
  have n24 : ¬ op = 24 := by omega
  have n25 : ¬ op = 25 := by omega
  have n26 : ¬ op = 26 := by omega
  have n27 : ¬ op = 27 := by omega
  have n28 : ¬ op = 28 := by omega
  have n30 : ¬ op = 30 := by omega
  have n31 : ¬ op = 31 := by omega
  have n32 : ¬ op = 32 := by omega
  have n33 : ¬ op = 33 := by omega
  have n34 : ¬ op = 34 := by omega
  have e1 : wantsOf m x op a b = [(1, 0), (1, 0)] := by simp [wantsOf, n4, n5, n6, n19, n20, n21, n23, n24, n25, n26, n27, n28, n30, n31, n32, n33, n34, hop]
  rw [e1]
  clear e1 hop
  have HL : Hid (mkOf a [1, 1] = [(1, 0), (1, 0)]) := Lib.hid (by simp [mkOf, mkOne])
  obtain ⟨hw, hp⟩ := take_parts h m op a b w
  have HW := Lib.hid hw
  have HP := Lib.hid hp
  have HI := Lib.hid (H.now hw)
  clear hw hp H
  go_enter Try.func57, Try.ntmps57
  go_upto_region 1 with fail
  change Code.wp _ _ _ _ (twoW h m op a b w)
  go_upto_region 2 with (go_at_call 74; (refine (maker_is (h := h) (m := m) (w := w)).mono ?_); rintro e w2 ⟨rfl, rfl⟩)
  generalize takeW h m op a b w = w2 at *
  have HX : Hid (Below w2.heap.size w2 w2) := Lib.hid (Below.refl _ _)
  have HN := Lib.hid HP.out.fnlt
  have HC := Lib.hid HP.out.fn
  obtain ⟨q0, q1, q2, q3, q4, q5, q6⟩ := HP.out.img
  have o0 := HP.out.ins 0 _ rfl
  have o1 := HP.out.ins 1 _ rfl
  have o2 := HP.out.ins 2 _ rfl
  go_wp2_with (first | (go_at_call 82; (with_reducible refine (is_yes op h7 h17 _).mono ?_); rintro e w9 ⟨rfl, rfl⟩) | (go_at_call 90; (with_reducible refine (fmk2_is HL HN HC HX).mono ?_); rintro e w3 ⟨v3, rfl, ho3, hb3⟩; have HO3 := Lib.hid ho3; have HX3 := Lib.hid hb3; clear ho3 hb3))
  go_ret
  exact OwnFromW.some_ (w0 := w2) ⟨_, rfl, HO3.out, HX3.out⟩ HW.out

theorem ftk_none (m : Img) (x : Mth) (f : Nat) (op a b : Int) (hno : op < 7 ∨ 17 < op) (n4 : ¬ op = 4) (n5 : ¬ op = 5) (n6 : ¬ op = 6) (n19 : ¬ op = 19) (n20 : ¬ op = 20) (n21 : ¬ op = 21) (n23 : ¬ op = 23) (n24 : ¬ op = 24) (n25 : ¬ op = 25) (n26 : ¬ op = 26) (n27 : ¬ op = 27) (n28 : ¬ op = 28) (n30 : ¬ op = 30) (n31 : ¬ op = 31) (n32 : ¬ op = 32) (n33 : ¬ op = 33) (n34 : ¬ op = 34) (h : Hnd) (w : World) (H : ImgIn w w.heap.size h m) :
    Calls Try.prog 57 #[imgV h m, insV op a b, .int .i64 f] w (SomeTypes (wantsOf m x op a b) w) := by
  have hop : ¬ (7 ≤ op ∧ op ≤ 17) := by omega
  have e1 : wantsOf m x op a b = [] := by simp [wantsOf, n4, n5, n6, n19, n20, n21, n23, n24, n25, n26, n27, n28, n30, n31, n32, n33, n34]; omega
  rw [e1]
  clear e1 hop
  have HNO := Lib.hid hno
  clear hno
  obtain ⟨hw, hp⟩ := take_parts h m op a b w
  have HW := Lib.hid hw
  have HP := Lib.hid hp
  have HI := Lib.hid (H.now hw)
  clear hw hp H
  go_enter Try.func57, Try.ntmps57
  go_upto_region 1 with fail
  change Code.wp _ _ _ _ (twoW h m op a b w)
  go_upto_region 2 with (go_at_call 74; (refine (maker_is (h := h) (m := m) (w := w)).mono ?_); rintro e w2 ⟨rfl, rfl⟩)
  generalize takeW h m op a b w = w2 at *
  have HX : Hid (Below w2.heap.size w2 w2) := Lib.hid (Below.refl _ _)
  have HN := Lib.hid HP.out.fnlt
  have HC := Lib.hid HP.out.fn
  obtain ⟨q0, q1, q2, q3, q4, q5, q6⟩ := HP.out.img
  have o0 := HP.out.ins 0 _ rfl
  have o1 := HP.out.ins 1 _ rfl
  have o2 := HP.out.ins 2 _ rfl
  go_wp2_with (go_at_call 82; (with_reducible refine (is_no op HNO.out _).mono ?_); rintro e w9 ⟨rfl, rfl⟩)
  go_ret
  exact ⟨none, 0, rfl, slc_none, HW.out⟩

end Go.Proofs.Ytgpmdhdooglkfaa
