/-
  What flow.gives comes to: the instructions that name nothing.
-/
import Derived.Test.YtgpmdhdooglkfaaM36
import Derived.RegionTactic
import Derived.ChangeAlike
import Derived.Deep.RegionHeld3
import Derived.Deep.QuietTactic
import Derived.BigQuiet
namespace Go.Proofs.Ytgpmdhdooglkfaa
set_option maxRecDepth 100000
set_option linter.unusedVariables false
set_option linter.unusedSimpArgs false
open Go.ChangeShapes Go.WideShapes Go.ChangeAt Go.RowKit

theorem fgv_1 (m : Img) (x : Mth) (f : Nat) (a b : Int) (tk : List (Int × Int)) (A : Option Addr) (c : Nat) (h : Hnd) (w : World) (H : ImgIn w w.heap.size h m) :
    Calls Try.prog 61 #[imgV h m, insV 1 a b, .int .i64 f, .slice A tk.length c] w (SomeTypes (givesP m x 1 a b tk) w) := by
  have e1 : givesP m x 1 a b tk = [(1, 0)] := by simp [givesP, giveOf]
  rw [e1]
  clear e1
  have HL : Hid (mkOf a [1] = [(1, 0)]) := Lib.hid (by simp [mkOf, mkOne])
  obtain ⟨hw, hp⟩ := take_parts h m 1 a b w
  have HW := Lib.hid hw
  have HP := Lib.hid hp
  have HI := Lib.hid (H.now hw)
  clear hw hp H
  go_enter Try.func61, Try.ntmps61
  go_upto_region 1 with fail
  change Code.wp _ _ _ _ (twoW h m 1 a b w)
  go_upto_region 2 with (go_at_call 74; (refine (maker_is (h := h) (m := m) (w := w)).mono ?_); rintro e w2 ⟨rfl, rfl⟩)
  generalize takeW h m 1 a b w = w2 at *
  have HX : Hid (Below w2.heap.size w2 w2) := Lib.hid (Below.refl _ _)
  have HN := Lib.hid HP.out.fnlt
  have HC := Lib.hid HP.out.fn
  obtain ⟨q0, q1, q2, q3, q4, q5, q6⟩ := HP.out.img
  have o0 := HP.out.ins 0 _ rfl
  have o1 := HP.out.ins 1 _ rfl
  have o2 := HP.out.ins 2 _ rfl
  go_wp2_with (go_at_call 90; (with_reducible refine (fmk1_is HL HN HC HX).mono ?_); rintro e w3 ⟨v3, rfl, ho3, hb3⟩; have HO3 := Lib.hid ho3; have HX3 := Lib.hid hb3; clear ho3 hb3)
  go_ret
  exact OwnFromW.some_ (w0 := w2) ⟨_, rfl, HO3.out, HX3.out⟩ HW.out

theorem fgv_20 (m : Img) (x : Mth) (f : Nat) (a b : Int) (tk : List (Int × Int)) (A : Option Addr) (c : Nat) (h : Hnd) (w : World) (H : ImgIn w w.heap.size h m) :
    Calls Try.prog 61 #[imgV h m, insV 20 a b, .int .i64 f, .slice A tk.length c] w (SomeTypes (givesP m x 20 a b tk) w) := by
  have e1 : givesP m x 20 a b tk = [(1, 0)] := by simp [givesP, giveOf]
  rw [e1]
  clear e1
  have HL : Hid (mkOf a [1] = [(1, 0)]) := Lib.hid (by simp [mkOf, mkOne])
  obtain ⟨hw, hp⟩ := take_parts h m 20 a b w
  have HW := Lib.hid hw
  have HP := Lib.hid hp
  have HI := Lib.hid (H.now hw)
  clear hw hp H
  go_enter Try.func61, Try.ntmps61
  go_upto_region 1 with fail
  change Code.wp _ _ _ _ (twoW h m 20 a b w)
  go_upto_region 2 with (go_at_call 74; (refine (maker_is (h := h) (m := m) (w := w)).mono ?_); rintro e w2 ⟨rfl, rfl⟩)
  generalize takeW h m 20 a b w = w2 at *
  have HX : Hid (Below w2.heap.size w2 w2) := Lib.hid (Below.refl _ _)
  have HN := Lib.hid HP.out.fnlt
  have HC := Lib.hid HP.out.fn
  obtain ⟨q0, q1, q2, q3, q4, q5, q6⟩ := HP.out.img
  have o0 := HP.out.ins 0 _ rfl
  have o1 := HP.out.ins 1 _ rfl
  have o2 := HP.out.ins 2 _ rfl
  go_wp2_with (go_at_call 90; (with_reducible refine (fmk1_is HL HN HC HX).mono ?_); rintro e w3 ⟨v3, rfl, ho3, hb3⟩; have HO3 := Lib.hid ho3; have HX3 := Lib.hid hb3; clear ho3 hb3)
  go_ret
  exact OwnFromW.some_ (w0 := w2) ⟨_, rfl, HO3.out, HX3.out⟩ HW.out

theorem fgv_21 (m : Img) (x : Mth) (f : Nat) (a b : Int) (tk : List (Int × Int)) (A : Option Addr) (c : Nat) (h : Hnd) (w : World) (H : ImgIn w w.heap.size h m) :
    Calls Try.prog 61 #[imgV h m, insV 21 a b, .int .i64 f, .slice A tk.length c] w (SomeTypes (givesP m x 21 a b tk) w) := by
  have e1 : givesP m x 21 a b tk = [(1, 0)] := by simp [givesP, giveOf]
  rw [e1]
  clear e1
  have HL : Hid (mkOf a [1] = [(1, 0)]) := Lib.hid (by simp [mkOf, mkOne])
  obtain ⟨hw, hp⟩ := take_parts h m 21 a b w
  have HW := Lib.hid hw
  have HP := Lib.hid hp
  have HI := Lib.hid (H.now hw)
  clear hw hp H
  go_enter Try.func61, Try.ntmps61
  go_upto_region 1 with fail
  change Code.wp _ _ _ _ (twoW h m 21 a b w)
  go_upto_region 2 with (go_at_call 74; (refine (maker_is (h := h) (m := m) (w := w)).mono ?_); rintro e w2 ⟨rfl, rfl⟩)
  generalize takeW h m 21 a b w = w2 at *
  have HX : Hid (Below w2.heap.size w2 w2) := Lib.hid (Below.refl _ _)
  have HN := Lib.hid HP.out.fnlt
  have HC := Lib.hid HP.out.fn
  obtain ⟨q0, q1, q2, q3, q4, q5, q6⟩ := HP.out.img
  have o0 := HP.out.ins 0 _ rfl
  have o1 := HP.out.ins 1 _ rfl
  have o2 := HP.out.ins 2 _ rfl
  go_wp2_with (go_at_call 90; (with_reducible refine (fmk1_is HL HN HC HX).mono ?_); rintro e w3 ⟨v3, rfl, ho3, hb3⟩; have HO3 := Lib.hid ho3; have HX3 := Lib.hid hb3; clear ho3 hb3)
  go_ret
  exact OwnFromW.some_ (w0 := w2) ⟨_, rfl, HO3.out, HX3.out⟩ HW.out

theorem fgv_24 (m : Img) (x : Mth) (f : Nat) (a b : Int) (tk : List (Int × Int)) (A : Option Addr) (c : Nat) (h : Hnd) (w : World) (H : ImgIn w w.heap.size h m) :
    Calls Try.prog 61 #[imgV h m, insV 24 a b, .int .i64 f, .slice A tk.length c] w (SomeTypes (givesP m x 24 a b tk) w) := by
  have e1 : givesP m x 24 a b tk = [(1, 0)] := by simp [givesP, giveOf]
  rw [e1]
  clear e1
  have HL : Hid (mkOf a [1] = [(1, 0)]) := Lib.hid (by simp [mkOf, mkOne])
  obtain ⟨hw, hp⟩ := take_parts h m 24 a b w
  have HW := Lib.hid hw
  have HP := Lib.hid hp
  have HI := Lib.hid (H.now hw)
  clear hw hp H
  go_enter Try.func61, Try.ntmps61
  go_upto_region 1 with fail
  change Code.wp _ _ _ _ (twoW h m 24 a b w)
  go_upto_region 2 with (go_at_call 74; (refine (maker_is (h := h) (m := m) (w := w)).mono ?_); rintro e w2 ⟨rfl, rfl⟩)
  generalize takeW h m 24 a b w = w2 at *
  have HX : Hid (Below w2.heap.size w2 w2) := Lib.hid (Below.refl _ _)
  have HN := Lib.hid HP.out.fnlt
  have HC := Lib.hid HP.out.fn
  obtain ⟨q0, q1, q2, q3, q4, q5, q6⟩ := HP.out.img
  have o0 := HP.out.ins 0 _ rfl
  have o1 := HP.out.ins 1 _ rfl
  have o2 := HP.out.ins 2 _ rfl
  go_wp2_with (go_at_call 90; (with_reducible refine (fmk1_is HL HN HC HX).mono ?_); rintro e w3 ⟨v3, rfl, ho3, hb3⟩; have HO3 := Lib.hid ho3; have HX3 := Lib.hid hb3; clear ho3 hb3)
  go_ret
  exact OwnFromW.some_ (w0 := w2) ⟨_, rfl, HO3.out, HX3.out⟩ HW.out

theorem fgv_26 (m : Img) (x : Mth) (f : Nat) (a b : Int) (tk : List (Int × Int)) (A : Option Addr) (c : Nat) (h : Hnd) (w : World) (H : ImgIn w w.heap.size h m) :
    Calls Try.prog 61 #[imgV h m, insV 26 a b, .int .i64 f, .slice A tk.length c] w (SomeTypes (givesP m x 26 a b tk) w) := by
  have e1 : givesP m x 26 a b tk = [(1, 0)] := by simp [givesP, giveOf]
  rw [e1]
  clear e1
  have HL : Hid (mkOf a [1] = [(1, 0)]) := Lib.hid (by simp [mkOf, mkOne])
  obtain ⟨hw, hp⟩ := take_parts h m 26 a b w
  have HW := Lib.hid hw
  have HP := Lib.hid hp
  have HI := Lib.hid (H.now hw)
  clear hw hp H
  go_enter Try.func61, Try.ntmps61
  go_upto_region 1 with fail
  change Code.wp _ _ _ _ (twoW h m 26 a b w)
  go_upto_region 2 with (go_at_call 74; (refine (maker_is (h := h) (m := m) (w := w)).mono ?_); rintro e w2 ⟨rfl, rfl⟩)
  generalize takeW h m 26 a b w = w2 at *
  have HX : Hid (Below w2.heap.size w2 w2) := Lib.hid (Below.refl _ _)
  have HN := Lib.hid HP.out.fnlt
  have HC := Lib.hid HP.out.fn
  obtain ⟨q0, q1, q2, q3, q4, q5, q6⟩ := HP.out.img
  have o0 := HP.out.ins 0 _ rfl
  have o1 := HP.out.ins 1 _ rfl
  have o2 := HP.out.ins 2 _ rfl
  go_wp2_with (go_at_call 90; (with_reducible refine (fmk1_is HL HN HC HX).mono ?_); rintro e w3 ⟨v3, rfl, ho3, hb3⟩; have HO3 := Lib.hid ho3; have HX3 := Lib.hid hb3; clear ho3 hb3)
  go_ret
  exact OwnFromW.some_ (w0 := w2) ⟨_, rfl, HO3.out, HX3.out⟩ HW.out

theorem fgv_2 (m : Img) (x : Mth) (f : Nat) (a b : Int) (tk : List (Int × Int)) (A : Option Addr) (c : Nat) (h : Hnd) (w : World) (H : ImgIn w w.heap.size h m) :
    Calls Try.prog 61 #[imgV h m, insV 2 a b, .int .i64 f, .slice A tk.length c] w (SomeTypes (givesP m x 2 a b tk) w) := by
  have e1 : givesP m x 2 a b tk = [(4, 0)] := by simp [givesP, giveOf]
  rw [e1]
  clear e1
  have HL : Hid (mkOf a [4] = [(4, 0)]) := Lib.hid (by simp [mkOf, mkOne])
  obtain ⟨hw, hp⟩ := take_parts h m 2 a b w
  have HW := Lib.hid hw
  have HP := Lib.hid hp
  have HI := Lib.hid (H.now hw)
  clear hw hp H
  go_enter Try.func61, Try.ntmps61
  go_upto_region 1 with fail
  change Code.wp _ _ _ _ (twoW h m 2 a b w)
  go_upto_region 2 with (go_at_call 74; (refine (maker_is (h := h) (m := m) (w := w)).mono ?_); rintro e w2 ⟨rfl, rfl⟩)
  generalize takeW h m 2 a b w = w2 at *
  have HX : Hid (Below w2.heap.size w2 w2) := Lib.hid (Below.refl _ _)
  have HN := Lib.hid HP.out.fnlt
  have HC := Lib.hid HP.out.fn
  obtain ⟨q0, q1, q2, q3, q4, q5, q6⟩ := HP.out.img
  have o0 := HP.out.ins 0 _ rfl
  have o1 := HP.out.ins 1 _ rfl
  have o2 := HP.out.ins 2 _ rfl
  go_wp2_with (go_at_call 90; (with_reducible refine (fmk1_is HL HN HC HX).mono ?_); rintro e w3 ⟨v3, rfl, ho3, hb3⟩; have HO3 := Lib.hid ho3; have HX3 := Lib.hid hb3; clear ho3 hb3)
  go_ret
  exact OwnFromW.some_ (w0 := w2) ⟨_, rfl, HO3.out, HX3.out⟩ HW.out

theorem fgv_22 (m : Img) (x : Mth) (f : Nat) (a b : Int) (tk : List (Int × Int)) (A : Option Addr) (c : Nat) (h : Hnd) (w : World) (H : ImgIn w w.heap.size h m) :
    Calls Try.prog 61 #[imgV h m, insV 22 a b, .int .i64 f, .slice A tk.length c] w (SomeTypes (givesP m x 22 a b tk) w) := by
  have e1 : givesP m x 22 a b tk = [(3, a)] := by simp [givesP, giveOf]
  rw [e1]
  clear e1
  have HL : Hid (mkOf a [3] = [(3, a)]) := Lib.hid (by simp [mkOf, mkOne])
  obtain ⟨hw, hp⟩ := take_parts h m 22 a b w
  have HW := Lib.hid hw
  have HP := Lib.hid hp
  have HI := Lib.hid (H.now hw)
  clear hw hp H
  go_enter Try.func61, Try.ntmps61
  go_upto_region 1 with fail
  change Code.wp _ _ _ _ (twoW h m 22 a b w)
  go_upto_region 2 with (go_at_call 74; (refine (maker_is (h := h) (m := m) (w := w)).mono ?_); rintro e w2 ⟨rfl, rfl⟩)
  generalize takeW h m 22 a b w = w2 at *
  have HX : Hid (Below w2.heap.size w2 w2) := Lib.hid (Below.refl _ _)
  have HN := Lib.hid HP.out.fnlt
  have HC := Lib.hid HP.out.fn
  obtain ⟨q0, q1, q2, q3, q4, q5, q6⟩ := HP.out.img
  have o0 := HP.out.ins 0 _ rfl
  have o1 := HP.out.ins 1 _ rfl
  have o2 := HP.out.ins 2 _ rfl
  go_wp2_with (go_at_call 90; (with_reducible refine (fmk1_is HL HN HC HX).mono ?_); rintro e w3 ⟨v3, rfl, ho3, hb3⟩; have HO3 := Lib.hid ho3; have HX3 := Lib.hid hb3; clear ho3 hb3)
  go_ret
  exact OwnFromW.some_ (w0 := w2) ⟨_, rfl, HO3.out, HX3.out⟩ HW.out

theorem fgv_34 (m : Img) (x : Mth) (f : Nat) (a b : Int) (tk : List (Int × Int)) (A : Option Addr) (c : Nat) (h : Hnd) (w : World) (H : ImgIn w w.heap.size h m) :
    Calls Try.prog 61 #[imgV h m, insV 34 a b, .int .i64 f, .slice A tk.length c] w (SomeTypes (givesP m x 34 a b tk) w) := by
  have e1 : givesP m x 34 a b tk = [(3, a)] := by simp [givesP, giveOf]
  rw [e1]
  clear e1
  have HL : Hid (mkOf a [3] = [(3, a)]) := Lib.hid (by simp [mkOf, mkOne])
  obtain ⟨hw, hp⟩ := take_parts h m 34 a b w
  have HW := Lib.hid hw
  have HP := Lib.hid hp
  have HI := Lib.hid (H.now hw)
  clear hw hp H
  go_enter Try.func61, Try.ntmps61
  go_upto_region 1 with fail
  change Code.wp _ _ _ _ (twoW h m 34 a b w)
  go_upto_region 2 with (go_at_call 74; (refine (maker_is (h := h) (m := m) (w := w)).mono ?_); rintro e w2 ⟨rfl, rfl⟩)
  generalize takeW h m 34 a b w = w2 at *
  have HX : Hid (Below w2.heap.size w2 w2) := Lib.hid (Below.refl _ _)
  have HN := Lib.hid HP.out.fnlt
  have HC := Lib.hid HP.out.fn
  obtain ⟨q0, q1, q2, q3, q4, q5, q6⟩ := HP.out.img
  have o0 := HP.out.ins 0 _ rfl
  have o1 := HP.out.ins 1 _ rfl
  have o2 := HP.out.ins 2 _ rfl
  go_wp2_with (go_at_call 90; (with_reducible refine (fmk1_is HL HN HC HX).mono ?_); rintro e w3 ⟨v3, rfl, ho3, hb3⟩; have HO3 := Lib.hid ho3; have HX3 := Lib.hid hb3; clear ho3 hb3)
  go_ret
  exact OwnFromW.some_ (w0 := w2) ⟨_, rfl, HO3.out, HX3.out⟩ HW.out

theorem fgv_23 (m : Img) (x : Mth) (f : Nat) (a b : Int) (tk : List (Int × Int)) (A : Option Addr) (c : Nat) (h : Hnd) (w : World) (H : ImgIn w w.heap.size h m) :
    Calls Try.prog 61 #[imgV h m, insV 23 a b, .int .i64 f, .slice A tk.length c] w (SomeTypes (givesP m x 23 a b tk) w) := by
  have e1 : givesP m x 23 a b tk = [(2, 0)] := by simp [givesP, giveOf]
  rw [e1]
  clear e1
  have HL : Hid (mkOf a [2] = [(2, 0)]) := Lib.hid (by simp [mkOf, mkOne])
  obtain ⟨hw, hp⟩ := take_parts h m 23 a b w
  have HW := Lib.hid hw
  have HP := Lib.hid hp
  have HI := Lib.hid (H.now hw)
  clear hw hp H
  go_enter Try.func61, Try.ntmps61
  go_upto_region 1 with fail
  change Code.wp _ _ _ _ (twoW h m 23 a b w)
  go_upto_region 2 with (go_at_call 74; (refine (maker_is (h := h) (m := m) (w := w)).mono ?_); rintro e w2 ⟨rfl, rfl⟩)
  generalize takeW h m 23 a b w = w2 at *
  have HX : Hid (Below w2.heap.size w2 w2) := Lib.hid (Below.refl _ _)
  have HN := Lib.hid HP.out.fnlt
  have HC := Lib.hid HP.out.fn
  obtain ⟨q0, q1, q2, q3, q4, q5, q6⟩ := HP.out.img
  have o0 := HP.out.ins 0 _ rfl
  have o1 := HP.out.ins 1 _ rfl
  have o2 := HP.out.ins 2 _ rfl
  go_wp2_with (go_at_call 90; (with_reducible refine (fmk1_is HL HN HC HX).mono ?_); rintro e w3 ⟨v3, rfl, ho3, hb3⟩; have HO3 := Lib.hid ho3; have HX3 := Lib.hid hb3; clear ho3 hb3)
  go_ret
  exact OwnFromW.some_ (w0 := w2) ⟨_, rfl, HO3.out, HX3.out⟩ HW.out

theorem fgv_math (m : Img) (x : Mth) (f : Nat) (op a b : Int) (h7 : 7 ≤ op) (h17 : op ≤ 17) (tk : List (Int × Int)) (A : Option Addr) (c : Nat) (h : Hnd) (w : World) (H : ImgIn w w.heap.size h m) :
    Calls Try.prog 61 #[imgV h m, insV op a b, .int .i64 f, .slice A tk.length c] w (SomeTypes (givesP m x op a b tk) w) := by
  have hop : 7 ≤ op ∧ op ≤ 17 := ⟨h7, h17⟩
  have n1 : ¬ op = 1 := by omega
  have n2 : ¬ op = 2 := by omega
  have n3 : ¬ op = 3 := by omega
  have n6 : ¬ op = 6 := by omega
  have n20 : ¬ op = 20 := by omega
  have n21 : ¬ op = 21 := by omega
  have n22 : ¬ op = 22 := by omega
  have n23 : ¬ op = 23 := by omega
  have n24 : ¬ op = 24 := by omega
  have n26 : ¬ op = 26 := by omega
  have n27 : ¬ op = 27 := by omega
  have n29 : ¬ op = 29 := by omega
  have n31 : ¬ op = 31 := by omega
  have n32 : ¬ op = 32 := by omega
  have n34 : ¬ op = 34 := by omega
  have e1 : givesP m x op a b tk = [(1, 0)] := by simp [givesP, giveOf, n1, n2, n3, n6, n20, n21, n22, n23, n24, n26, n27, n29, n31, n32, n34, hop]
  rw [e1]
  clear e1 hop
  have HL : Hid (mkOf a [1] = [(1, 0)]) := Lib.hid (by simp [mkOf, mkOne])
  obtain ⟨hw, hp⟩ := take_parts h m op a b w
  have HW := Lib.hid hw
  have HP := Lib.hid hp
  have HI := Lib.hid (H.now hw)
  clear hw hp H
  go_enter Try.func61, Try.ntmps61
  go_upto_region 1 with fail
  change Code.wp _ _ _ _ (twoW h m op a b w)
  go_upto_region 2 with (go_at_call 74; (refine (maker_is (h := h) (m := m) (w := w)).mono ?_); rintro e w2 ⟨rfl, rfl⟩)
  generalize takeW h m op a b w = w2 at *
  have HX : Hid (Below w2.heap.size w2 w2) := Lib.hid (Below.refl _ _)
  have HN := Lib.hid HP.out.fnlt
  have HC := Lib.hid HP.out.fn
  obtain ⟨q0, q1, q2, q3, q4, q5, q6⟩ := HP.out.img
  have o0 := HP.out.ins 0 _ rfl
  have o1 := HP.out.ins 1 _ rfl
  have o2 := HP.out.ins 2 _ rfl
  go_wp2_with (first | (go_at_call 82; (with_reducible refine (is_yes op h7 h17 _).mono ?_); rintro e w9 ⟨rfl, rfl⟩) | (go_at_call 90; (with_reducible refine (fmk1_is HL HN HC HX).mono ?_); rintro e w3 ⟨v3, rfl, ho3, hb3⟩; have HO3 := Lib.hid ho3; have HX3 := Lib.hid hb3; clear ho3 hb3))
  go_ret
  exact OwnFromW.some_ (w0 := w2) ⟨_, rfl, HO3.out, HX3.out⟩ HW.out

theorem fgv_none (m : Img) (x : Mth) (f : Nat) (op a b : Int) (hno : op < 7 ∨ 17 < op) (n1 : ¬ op = 1) (n2 : ¬ op = 2) (n3 : ¬ op = 3) (n6 : ¬ op = 6) (n20 : ¬ op = 20) (n21 : ¬ op = 21) (n22 : ¬ op = 22) (n23 : ¬ op = 23) (n24 : ¬ op = 24) (n26 : ¬ op = 26) (n27 : ¬ op = 27) (n29 : ¬ op = 29) (n31 : ¬ op = 31) (n32 : ¬ op = 32) (n34 : ¬ op = 34) (tk : List (Int × Int)) (A : Option Addr) (c : Nat) (h : Hnd) (w : World) (H : ImgIn w w.heap.size h m) :
    Calls Try.prog 61 #[imgV h m, insV op a b, .int .i64 f, .slice A tk.length c] w (SomeTypes (givesP m x op a b tk) w) := by
  have hop : ¬ (7 ≤ op ∧ op ≤ 17) := by omega
  have e1 : givesP m x op a b tk = [] := by simp [givesP, giveOf, n1, n2, n3, n6, n20, n21, n22, n23, n24, n26, n27, n29, n31, n32, n34]; omega
  rw [e1]
  clear e1 hop
  have HNO := Lib.hid hno
  clear hno
  obtain ⟨hw, hp⟩ := take_parts h m op a b w
  have HW := Lib.hid hw
  have HP := Lib.hid hp
  have HI := Lib.hid (H.now hw)
  clear hw hp H
  go_enter Try.func61, Try.ntmps61
  go_upto_region 1 with fail
  change Code.wp _ _ _ _ (twoW h m op a b w)
  go_upto_region 2 with (go_at_call 74; (refine (maker_is (h := h) (m := m) (w := w)).mono ?_); rintro e w2 ⟨rfl, rfl⟩)
  generalize takeW h m op a b w = w2 at *
  have HX : Hid (Below w2.heap.size w2 w2) := Lib.hid (Below.refl _ _)
  have HN := Lib.hid HP.out.fnlt
  have HC := Lib.hid HP.out.fn
  obtain ⟨q0, q1, q2, q3, q4, q5, q6⟩ := HP.out.img
  have o0 := HP.out.ins 0 _ rfl
  have o1 := HP.out.ins 1 _ rfl
  have o2 := HP.out.ins 2 _ rfl
  go_wp2_with (go_at_call 82; (with_reducible refine (is_no op HNO.out _).mono ?_); rintro e w9 ⟨rfl, rfl⟩)
  go_ret
  exact ⟨none, 0, rfl, slc_none, HW.out⟩

end Go.Proofs.Ytgpmdhdooglkfaa
