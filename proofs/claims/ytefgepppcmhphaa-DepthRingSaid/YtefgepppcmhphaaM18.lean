/-
  What the document's own answer for what an instruction takes and gives (Rule) comes to: the instructions that name nothing.
-/
import Derived.Test.YtefgepppcmhphaaM17
import Derived.RegionTactic
import Derived.ChangeAlike
import Derived.Deep.RegionHeld3
import Derived.Deep.QuietTactic
import Derived.BigQuiet
namespace Go.Proofs.Ytefgepppcmhphaa
set_option maxRecDepth 100000
set_option linter.unusedVariables false
set_option linter.unusedSimpArgs false
open Go.ChangeShapes Go.WideShapes Go.ChangeAt Go.RowKit


theorem rule_1 (m : Img) (x : Mth) (f : Nat) (a b : Int) (h : Hnd) (w : World) :
    Calls Try.prog 52 #[imgV h m, .int .i64 f, insV 1 a b] w (TwoTypes (takeOf m x 1 a b) (giveOf m x 1 a b) w) := by
  have e1 : takeOf m x 1 a b = [] := by simp [takeOf]
  have e2 : giveOf m x 1 a b = [(1, 0)] := by simp [giveOf]
  rw [e1, e2]
  clear e1 e2
  obtain ⟨hw, hp⟩ := rule_parts h m 1 a b w
  have HW := Lib.hid hw
  have HP := Lib.hid hp
  clear hw hp
  go_enter Try.func52, Try.ntmps52
  go_upto_region 3 with fail
  change Code.wp _ _ _ _ (ruleW h m 1 a b w)
  generalize ruleW h m 1 a b w = w1 at *
  have o0 := HP.out.ins 0 _ rfl
  have hz := HP.out.size
  have t10 := HP.out.t1 0 _ rfl
  have t11 := HP.out.t1 1 _ rfl
  go_wp2_with fail
  go_region
  all_goals
    go_wp2_with fail
    go_ret2
    refine ⟨_, _, _, _, rfl, ?_, ?_, ?_⟩
    · exact slc_none
    · exact new_t1 (by simp; omega) (by go_simp) (by go_simp)
    · exact HW.out.trans (by repeat (first | exact Below.refl _ _ | refine Below.alloc ?_ (by first | omega | (simp; omega)) _ | refine Below.drew ?_))

theorem rule_2 (m : Img) (x : Mth) (f : Nat) (a b : Int) (h : Hnd) (w : World) :
    Calls Try.prog 52 #[imgV h m, .int .i64 f, insV 2 a b] w (TwoTypes (takeOf m x 2 a b) (giveOf m x 2 a b) w) := by
  have e1 : takeOf m x 2 a b = [] := by simp [takeOf]
  have e2 : giveOf m x 2 a b = [(4, 0)] := by simp [giveOf]
  rw [e1, e2]
  clear e1 e2
  obtain ⟨hw, hp⟩ := rule_parts h m 2 a b w
  have HW := Lib.hid hw
  have HP := Lib.hid hp
  clear hw hp
  go_enter Try.func52, Try.ntmps52
  go_upto_region 3 with fail
  change Code.wp _ _ _ _ (ruleW h m 2 a b w)
  generalize ruleW h m 2 a b w = w1 at *
  have o0 := HP.out.ins 0 _ rfl
  have hz := HP.out.size
  have t40 := HP.out.t4 0 _ rfl
  have t41 := HP.out.t4 1 _ rfl
  go_wp2_with fail
  go_region
  all_goals
    go_wp2_with fail
    go_ret2
    refine ⟨_, _, _, _, rfl, ?_, ?_, ?_⟩
    · exact slc_none
    · exact new_t1 (by simp; omega) (by go_simp) (by go_simp)
    · exact HW.out.trans (by repeat (first | exact Below.refl _ _ | refine Below.alloc ?_ (by first | omega | (simp; omega)) _ | refine Below.drew ?_))

theorem rule_5 (m : Img) (x : Mth) (f : Nat) (a b : Int) (h : Hnd) (w : World) :
    Calls Try.prog 52 #[imgV h m, .int .i64 f, insV 5 a b] w (TwoTypes (takeOf m x 5 a b) (giveOf m x 5 a b) w) := by
  have e1 : takeOf m x 5 a b = [(0, 0)] := by simp [takeOf]
  have e2 : giveOf m x 5 a b = [] := by simp [giveOf]
  rw [e1, e2]
  clear e1 e2
  obtain ⟨hw, hp⟩ := rule_parts h m 5 a b w
  have HW := Lib.hid hw
  have HP := Lib.hid hp
  clear hw hp
  go_enter Try.func52, Try.ntmps52
  go_upto_region 3 with fail
  change Code.wp _ _ _ _ (ruleW h m 5 a b w)
  generalize ruleW h m 5 a b w = w1 at *
  have o0 := HP.out.ins 0 _ rfl
  have hz := HP.out.size
  have t00 := HP.out.t0 0 _ rfl
  have t01 := HP.out.t0 1 _ rfl
  go_wp2_with fail
  go_ret2
  refine ⟨_, _, _, _, rfl, ?_, ?_, ?_⟩
  · exact new_t1 (by simp; omega) (by go_simp) (by go_simp)
  · exact slc_none
  · exact HW.out.trans (by repeat (first | exact Below.refl _ _ | refine Below.alloc ?_ (by first | omega | (simp; omega)) _ | refine Below.drew ?_))

theorem rule_6 (m : Img) (x : Mth) (f : Nat) (a b : Int) (h : Hnd) (w : World) :
    Calls Try.prog 52 #[imgV h m, .int .i64 f, insV 6 a b] w (TwoTypes (takeOf m x 6 a b) (giveOf m x 6 a b) w) := by
  have e1 : takeOf m x 6 a b = [] := by simp [takeOf]
  have e2 : giveOf m x 6 a b = [] := by simp [giveOf]
  rw [e1, e2]
  clear e1 e2
  obtain ⟨hw, hp⟩ := rule_parts h m 6 a b w
  have HW := Lib.hid hw
  have HP := Lib.hid hp
  clear hw hp
  go_enter Try.func52, Try.ntmps52
  go_upto_region 3 with fail
  change Code.wp _ _ _ _ (ruleW h m 6 a b w)
  generalize ruleW h m 6 a b w = w1 at *
  have o0 := HP.out.ins 0 _ rfl
  have hz := HP.out.size
  go_wp2_with fail
  go_ret2
  refine ⟨_, _, _, _, rfl, ?_, ?_, ?_⟩
  · exact slc_none
  · exact slc_none
  · exact HW.out.trans (by repeat (first | exact Below.refl _ _ | refine Below.alloc ?_ (by first | omega | (simp; omega)) _ | refine Below.drew ?_))

theorem rule_18 (m : Img) (x : Mth) (f : Nat) (a b : Int) (h : Hnd) (w : World) :
    Calls Try.prog 52 #[imgV h m, .int .i64 f, insV 18 a b] w (TwoTypes (takeOf m x 18 a b) (giveOf m x 18 a b) w) := by
  have e1 : takeOf m x 18 a b = [] := by simp [takeOf]
  have e2 : giveOf m x 18 a b = [] := by simp [giveOf]
  rw [e1, e2]
  clear e1 e2
  obtain ⟨hw, hp⟩ := rule_parts h m 18 a b w
  have HW := Lib.hid hw
  have HP := Lib.hid hp
  clear hw hp
  go_enter Try.func52, Try.ntmps52
  go_upto_region 3 with fail
  change Code.wp _ _ _ _ (ruleW h m 18 a b w)
  generalize ruleW h m 18 a b w = w1 at *
  have o0 := HP.out.ins 0 _ rfl
  have hz := HP.out.size
  go_wp2_with fail
  go_ret2
  refine ⟨_, _, _, _, rfl, ?_, ?_, ?_⟩
  · exact slc_none
  · exact slc_none
  · exact HW.out.trans (by repeat (first | exact Below.refl _ _ | refine Below.alloc ?_ (by first | omega | (simp; omega)) _ | refine Below.drew ?_))

theorem rule_19 (m : Img) (x : Mth) (f : Nat) (a b : Int) (h : Hnd) (w : World) :
    Calls Try.prog 52 #[imgV h m, .int .i64 f, insV 19 a b] w (TwoTypes (takeOf m x 19 a b) (giveOf m x 19 a b) w) := by
  have e1 : takeOf m x 19 a b = [(1, 0)] := by simp [takeOf]
  have e2 : giveOf m x 19 a b = [] := by simp [giveOf]
  rw [e1, e2]
  clear e1 e2
  obtain ⟨hw, hp⟩ := rule_parts h m 19 a b w
  have HW := Lib.hid hw
  have HP := Lib.hid hp
  clear hw hp
  go_enter Try.func52, Try.ntmps52
  go_upto_region 3 with fail
  change Code.wp _ _ _ _ (ruleW h m 19 a b w)
  generalize ruleW h m 19 a b w = w1 at *
  have o0 := HP.out.ins 0 _ rfl
  have hz := HP.out.size
  have t10 := HP.out.t1 0 _ rfl
  have t11 := HP.out.t1 1 _ rfl
  go_wp2_with fail
  go_ret2
  refine ⟨_, _, _, _, rfl, ?_, ?_, ?_⟩
  · exact new_t1 (by simp; omega) (by go_simp) (by go_simp)
  · exact slc_none
  · exact HW.out.trans (by repeat (first | exact Below.refl _ _ | refine Below.alloc ?_ (by first | omega | (simp; omega)) _ | refine Below.drew ?_))

theorem rule_20 (m : Img) (x : Mth) (f : Nat) (a b : Int) (h : Hnd) (w : World) :
    Calls Try.prog 52 #[imgV h m, .int .i64 f, insV 20 a b] w (TwoTypes (takeOf m x 20 a b) (giveOf m x 20 a b) w) := by
  have e1 : takeOf m x 20 a b = [(4, 0)] := by simp [takeOf]
  have e2 : giveOf m x 20 a b = [(1, 0)] := by simp [giveOf]
  rw [e1, e2]
  clear e1 e2
  obtain ⟨hw, hp⟩ := rule_parts h m 20 a b w
  have HW := Lib.hid hw
  have HP := Lib.hid hp
  clear hw hp
  go_enter Try.func52, Try.ntmps52
  go_upto_region 3 with fail
  change Code.wp _ _ _ _ (ruleW h m 20 a b w)
  generalize ruleW h m 20 a b w = w1 at *
  have o0 := HP.out.ins 0 _ rfl
  have hz := HP.out.size
  have t10 := HP.out.t1 0 _ rfl
  have t11 := HP.out.t1 1 _ rfl
  have t40 := HP.out.t4 0 _ rfl
  have t41 := HP.out.t4 1 _ rfl
  go_wp2_with fail
  go_region
  all_goals
    go_wp2_with fail
    go_ret2
    refine ⟨_, _, _, _, rfl, ?_, ?_, ?_⟩
    · exact new_t1 (by simp; omega) (by go_simp) (by go_simp)
    · exact new_t1 (by simp; omega) (by go_simp) (by go_simp)
    · exact HW.out.trans (by repeat (first | exact Below.refl _ _ | refine Below.alloc ?_ (by first | omega | (simp; omega)) _ | refine Below.drew ?_))

theorem rule_21 (m : Img) (x : Mth) (f : Nat) (a b : Int) (h : Hnd) (w : World) :
    Calls Try.prog 52 #[imgV h m, .int .i64 f, insV 21 a b] w (TwoTypes (takeOf m x 21 a b) (giveOf m x 21 a b) w) := by
  have e1 : takeOf m x 21 a b = [(4, 0), (4, 0)] := by simp [takeOf]
  have e2 : giveOf m x 21 a b = [(1, 0)] := by simp [giveOf]
  rw [e1, e2]
  clear e1 e2
  obtain ⟨hw, hp⟩ := rule_parts h m 21 a b w
  have HW := Lib.hid hw
  have HP := Lib.hid hp
  clear hw hp
  go_enter Try.func52, Try.ntmps52
  go_upto_region 3 with fail
  change Code.wp _ _ _ _ (ruleW h m 21 a b w)
  generalize ruleW h m 21 a b w = w1 at *
  have o0 := HP.out.ins 0 _ rfl
  have hz := HP.out.size
  have t10 := HP.out.t1 0 _ rfl
  have t11 := HP.out.t1 1 _ rfl
  have t40 := HP.out.t4 0 _ rfl
  have t41 := HP.out.t4 1 _ rfl
  go_wp2_with fail
  go_region
  all_goals
    go_wp2_with fail
    go_ret2
    refine ⟨_, _, _, _, rfl, ?_, ?_, ?_⟩
    · exact new_t2 (by simp; omega) (by go_simp) (by go_simp) (by go_simp) (by go_simp)
    · exact new_t1 (by simp; omega) (by go_simp) (by go_simp)
    · exact HW.out.trans (by repeat (first | exact Below.refl _ _ | refine Below.alloc ?_ (by first | omega | (simp; omega)) _ | refine Below.drew ?_))

theorem rule_22 (m : Img) (x : Mth) (f : Nat) (a b : Int) (h : Hnd) (w : World) :
    Calls Try.prog 52 #[imgV h m, .int .i64 f, insV 22 a b] w (TwoTypes (takeOf m x 22 a b) (giveOf m x 22 a b) w) := by
  have e1 : takeOf m x 22 a b = [] := by simp [takeOf]
  have e2 : giveOf m x 22 a b = [(3, a)] := by simp [giveOf]
  rw [e1, e2]
  clear e1 e2
  obtain ⟨hw, hp⟩ := rule_parts h m 22 a b w
  have HW := Lib.hid hw
  have HP := Lib.hid hp
  clear hw hp
  go_enter Try.func52, Try.ntmps52
  go_upto_region 3 with fail
  change Code.wp _ _ _ _ (ruleW h m 22 a b w)
  generalize ruleW h m 22 a b w = w1 at *
  have o0 := HP.out.ins 0 _ rfl
  have hz := HP.out.size
  have t30 := HP.out.t3 0 _ rfl
  have t31 := HP.out.t3 1 _ rfl
  go_wp2_with fail
  go_region
  all_goals
    go_wp2_with fail
    go_ret2
    refine ⟨_, _, _, _, rfl, ?_, ?_, ?_⟩
    · exact slc_none
    · exact new_t1 (by simp; omega) (by go_simp) (by go_simp)
    · exact HW.out.trans (by repeat (first | exact Below.refl _ _ | refine Below.alloc ?_ (by first | omega | (simp; omega)) _ | refine Below.drew ?_))

theorem rule_23 (m : Img) (x : Mth) (f : Nat) (a b : Int) (h : Hnd) (w : World) :
    Calls Try.prog 52 #[imgV h m, .int .i64 f, insV 23 a b] w (TwoTypes (takeOf m x 23 a b) (giveOf m x 23 a b) w) := by
  have e1 : takeOf m x 23 a b = [(1, 0)] := by simp [takeOf]
  have e2 : giveOf m x 23 a b = [(2, 0)] := by simp [giveOf]
  rw [e1, e2]
  clear e1 e2
  obtain ⟨hw, hp⟩ := rule_parts h m 23 a b w
  have HW := Lib.hid hw
  have HP := Lib.hid hp
  clear hw hp
  go_enter Try.func52, Try.ntmps52
  go_upto_region 3 with fail
  change Code.wp _ _ _ _ (ruleW h m 23 a b w)
  generalize ruleW h m 23 a b w = w1 at *
  have o0 := HP.out.ins 0 _ rfl
  have hz := HP.out.size
  have t10 := HP.out.t1 0 _ rfl
  have t11 := HP.out.t1 1 _ rfl
  have t20 := HP.out.t2 0 _ rfl
  have t21 := HP.out.t2 1 _ rfl
  go_wp2_with fail
  go_region
  all_goals
    go_wp2_with fail
    go_ret2
    refine ⟨_, _, _, _, rfl, ?_, ?_, ?_⟩
    · exact new_t1 (by simp; omega) (by go_simp) (by go_simp)
    · exact new_t1 (by simp; omega) (by go_simp) (by go_simp)
    · exact HW.out.trans (by repeat (first | exact Below.refl _ _ | refine Below.alloc ?_ (by first | omega | (simp; omega)) _ | refine Below.drew ?_))

theorem rule_24 (m : Img) (x : Mth) (f : Nat) (a b : Int) (h : Hnd) (w : World) :
    Calls Try.prog 52 #[imgV h m, .int .i64 f, insV 24 a b] w (TwoTypes (takeOf m x 24 a b) (giveOf m x 24 a b) w) := by
  have e1 : takeOf m x 24 a b = [(2, 0), (1, 0)] := by simp [takeOf]
  have e2 : giveOf m x 24 a b = [(1, 0)] := by simp [giveOf]
  rw [e1, e2]
  clear e1 e2
  obtain ⟨hw, hp⟩ := rule_parts h m 24 a b w
  have HW := Lib.hid hw
  have HP := Lib.hid hp
  clear hw hp
  go_enter Try.func52, Try.ntmps52
  go_upto_region 3 with fail
  change Code.wp _ _ _ _ (ruleW h m 24 a b w)
  generalize ruleW h m 24 a b w = w1 at *
  have o0 := HP.out.ins 0 _ rfl
  have hz := HP.out.size
  have t10 := HP.out.t1 0 _ rfl
  have t11 := HP.out.t1 1 _ rfl
  have t20 := HP.out.t2 0 _ rfl
  have t21 := HP.out.t2 1 _ rfl
  go_wp2_with fail
  go_region
  all_goals
    go_wp2_with fail
    go_ret2
    refine ⟨_, _, _, _, rfl, ?_, ?_, ?_⟩
    · exact new_t2 (by simp; omega) (by go_simp) (by go_simp) (by go_simp) (by go_simp)
    · exact new_t1 (by simp; omega) (by go_simp) (by go_simp)
    · exact HW.out.trans (by repeat (first | exact Below.refl _ _ | refine Below.alloc ?_ (by first | omega | (simp; omega)) _ | refine Below.drew ?_))

theorem rule_25 (m : Img) (x : Mth) (f : Nat) (a b : Int) (h : Hnd) (w : World) :
    Calls Try.prog 52 #[imgV h m, .int .i64 f, insV 25 a b] w (TwoTypes (takeOf m x 25 a b) (giveOf m x 25 a b) w) := by
  have e1 : takeOf m x 25 a b = [(2, 0), (1, 0), (1, 0)] := by simp [takeOf]
  have e2 : giveOf m x 25 a b = [] := by simp [giveOf]
  rw [e1, e2]
  clear e1 e2
  obtain ⟨hw, hp⟩ := rule_parts h m 25 a b w
  have HW := Lib.hid hw
  have HP := Lib.hid hp
  clear hw hp
  go_enter Try.func52, Try.ntmps52
  go_upto_region 3 with fail
  change Code.wp _ _ _ _ (ruleW h m 25 a b w)
  generalize ruleW h m 25 a b w = w1 at *
  have o0 := HP.out.ins 0 _ rfl
  have hz := HP.out.size
  have t10 := HP.out.t1 0 _ rfl
  have t11 := HP.out.t1 1 _ rfl
  have t20 := HP.out.t2 0 _ rfl
  have t21 := HP.out.t2 1 _ rfl
  go_wp2_with fail
  go_ret2
  refine ⟨_, _, _, _, rfl, ?_, ?_, ?_⟩
  · exact new_t3 (by simp; omega) (by go_simp) (by go_simp) (by go_simp) (by go_simp) (by go_simp) (by go_simp)
  · exact slc_none
  · exact HW.out.trans (by repeat (first | exact Below.refl _ _ | refine Below.alloc ?_ (by first | omega | (simp; omega)) _ | refine Below.drew ?_))

theorem rule_26 (m : Img) (x : Mth) (f : Nat) (a b : Int) (h : Hnd) (w : World) :
    Calls Try.prog 52 #[imgV h m, .int .i64 f, insV 26 a b] w (TwoTypes (takeOf m x 26 a b) (giveOf m x 26 a b) w) := by
  have e1 : takeOf m x 26 a b = [(2, 0)] := by simp [takeOf]
  have e2 : giveOf m x 26 a b = [(1, 0)] := by simp [giveOf]
  rw [e1, e2]
  clear e1 e2
  obtain ⟨hw, hp⟩ := rule_parts h m 26 a b w
  have HW := Lib.hid hw
  have HP := Lib.hid hp
  clear hw hp
  go_enter Try.func52, Try.ntmps52
  go_upto_region 3 with fail
  change Code.wp _ _ _ _ (ruleW h m 26 a b w)
  generalize ruleW h m 26 a b w = w1 at *
  have o0 := HP.out.ins 0 _ rfl
  have hz := HP.out.size
  have t10 := HP.out.t1 0 _ rfl
  have t11 := HP.out.t1 1 _ rfl
  have t20 := HP.out.t2 0 _ rfl
  have t21 := HP.out.t2 1 _ rfl
  go_wp2_with fail
  go_region
  all_goals
    go_wp2_with fail
    go_ret2
    refine ⟨_, _, _, _, rfl, ?_, ?_, ?_⟩
    · exact new_t1 (by simp; omega) (by go_simp) (by go_simp)
    · exact new_t1 (by simp; omega) (by go_simp) (by go_simp)
    · exact HW.out.trans (by repeat (first | exact Below.refl _ _ | refine Below.alloc ?_ (by first | omega | (simp; omega)) _ | refine Below.drew ?_))

theorem rule_34 (m : Img) (x : Mth) (f : Nat) (a b : Int) (h : Hnd) (w : World) :
    Calls Try.prog 52 #[imgV h m, .int .i64 f, insV 34 a b] w (TwoTypes (takeOf m x 34 a b) (giveOf m x 34 a b) w) := by
  have e1 : takeOf m x 34 a b = [(4, 0)] := by simp [takeOf]
  have e2 : giveOf m x 34 a b = [(3, a)] := by simp [giveOf]
  rw [e1, e2]
  clear e1 e2
  obtain ⟨hw, hp⟩ := rule_parts h m 34 a b w
  have HW := Lib.hid hw
  have HP := Lib.hid hp
  clear hw hp
  go_enter Try.func52, Try.ntmps52
  go_upto_region 3 with fail
  change Code.wp _ _ _ _ (ruleW h m 34 a b w)
  generalize ruleW h m 34 a b w = w1 at *
  have o0 := HP.out.ins 0 _ rfl
  have hz := HP.out.size
  have t30 := HP.out.t3 0 _ rfl
  have t31 := HP.out.t3 1 _ rfl
  have t40 := HP.out.t4 0 _ rfl
  have t41 := HP.out.t4 1 _ rfl
  go_wp2_with fail
  go_region
  all_goals
    go_wp2_with fail
    go_ret2
    refine ⟨_, _, _, _, rfl, ?_, ?_, ?_⟩
    · exact new_t1 (by simp; omega) (by go_simp) (by go_simp)
    · exact new_t1 (by simp; omega) (by go_simp) (by go_simp)
    · exact HW.out.trans (by repeat (first | exact Below.refl _ _ | refine Below.alloc ?_ (by first | omega | (simp; omega)) _ | refine Below.drew ?_))

end Go.Proofs.Ytefgepppcmhphaa
