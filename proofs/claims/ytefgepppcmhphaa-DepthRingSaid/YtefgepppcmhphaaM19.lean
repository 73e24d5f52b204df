/-
  What the document's own answer for what an instruction takes and gives (Rule) comes to: arithmetic, and instructions that name statics.
-/
import Derived.Test.YtefgepppcmhphaaM17
import Derived.Test.YtefgepppcmhphaaM14
import Derived.RegionTactic
import Derived.ChangeAlike
import Derived.Deep.RegionHeld3
import Derived.Deep.QuietTactic
import Derived.BigQuiet
namespace Go.Proofs.Ytefgepppcmhphaa
set_option maxRecDepth 100000
set_option linter.unusedVariables false
set_option linter.unusedSimpArgs false
open Go.ChangeShapes Go.WideShapes Go.ChangeAt Go.RowKit


set_option maxHeartbeats 1600000 in
theorem rule_math (m : Img) (x : Mth) (f : Nat) (op a b : Int) (h7 : 7 ≤ op) (h17 : op ≤ 17) (h : Hnd) (w : World) (H : ImgIn w w.heap.size h m) :
    Calls Try.prog 52 #[imgV h m, .int .i64 f, insV op a b] w (TwoTypes (takeOf m x op a b) (giveOf m x op a b) w) := by
  have n1 : ¬ op = 1 := by omega
  have n2 : ¬ op = 2 := by omega
  have n3 : ¬ op = 3 := by omega
  have n4 : ¬ op = 4 := by omega
  have n5 : ¬ op = 5 := by omega
  have n19 : ¬ op = 19 := by omega
  have n20 : ¬ op = 20 := by omega
  have n21 : ¬ op = 21 := by omega
  have n22 : ¬ op = 22 := by omega
  have n23 : ¬ op = 23 := by omega
  have n24 : ¬ op = 24 := by omega
  have n25 : ¬ op = 25 := by omega
  have n26 : ¬ op = 26 := by omega
  have n27 : ¬ op = 27 := by omega
  have n28 : ¬ op = 28 := by omega
  have n29 : ¬ op = 29 := by omega
  have n30 : ¬ op = 30 := by omega
  have n31 : ¬ op = 31 := by omega
  have n32 : ¬ op = 32 := by omega
  have n33 : ¬ op = 33 := by omega
  have n34 : ¬ op = 34 := by omega
  have e1 : takeOf m x op a b = [(1, 0), (1, 0)] := by simp [takeOf, *]
  have e2 : giveOf m x op a b = [(1, 0)] := by simp [giveOf, *]
  rw [e1, e2]
  clear e1 e2
  obtain ⟨hw, hp⟩ := rule_parts h m op a b w
  have HW := Lib.hid hw
  have HP := Lib.hid hp
  have HI := Lib.hid (H.now hw)
  clear hw hp H
  go_enter Try.func52, Try.ntmps52
  go_upto_region 3 with fail
  change Code.wp _ _ _ _ (ruleW h m op a b w)
  generalize ruleW h m op a b w = w1 at *
  have o0 := HP.out.ins 0 _ rfl
  have o1 := HP.out.ins 1 _ rfl
  have o2 := HP.out.ins 2 _ rfl
  have hz := HP.out.size
  have t10 := HP.out.t1 0 _ rfl
  have t11 := HP.out.t1 1 _ rfl
  go_wp2_with fail
  go_region
  all_goals
    go_wp2_with fail
    go_ret2
    refine ⟨_, _, _, _, rfl, ?_, ?_, ?_⟩
    · exact new_t2 (by simp; omega) (by go_simp) (by go_simp) (by go_simp) (by go_simp)
    · exact new_t1 (by simp; omega) (by go_simp) (by go_simp)
    · exact HW.out.trans (by repeat (first | exact Below.refl _ _ | refine Below.alloc ?_ (by first | omega | (simp; omega)) _ | refine Below.drew ?_))

set_option maxHeartbeats 1600000 in
theorem rule_29 (m : Img) (x : Mth) (f : Nat) (j : Nat) (b : Int) (hj : j < m.statics.length) (h : Hnd) (w : World) (H : ImgIn w w.heap.size h m) :
    Calls Try.prog 52 #[imgV h m, .int .i64 f, insV 29 (j : Int) b] w (TwoTypes (takeOf m x 29 (j : Int) b) (giveOf m x 29 (j : Int) b) w) := by
  have e0 : staticN m (j : Int) = m.statics[j] := by unfold staticN; rw [Int.toNat_natCast, List.getElem?_eq_getElem hj]; rfl
  have e1 : takeOf m x 29 (j : Int) b = [] := by simp [takeOf, e0]
  have e2 : giveOf m x 29 (j : Int) b = [m.statics[j]] := by simp [giveOf, e0]
  rw [e1, e2]
  clear e0 e1 e2
  obtain ⟨hw, hp⟩ := rule_parts h m 29 (j : Int) b w
  have HW := Lib.hid hw
  have HP := Lib.hid hp
  have HI := Lib.hid (H.now hw)
  clear hw hp H
  go_enter Try.func52, Try.ntmps52
  go_upto_region 3 with fail
  change Code.wp _ _ _ _ (ruleW h m 29 (j : Int) b w)
  generalize ruleW h m 29 (j : Int) b w = w1 at *
  have o0 := HP.out.ins 0 _ rfl
  have o1 := HP.out.ins 1 _ rfl
  have o2 := HP.out.ins 2 _ rfl
  have hz := HP.out.size
  obtain ⟨q0, q1, q2, q3, q4, q5, q6⟩ := HP.out.img
  have l1 := HI.out.statics.le
  have l2 := HI.out.statics.cap
  obtain ⟨ad, e0, hab, r0, r1⟩ := HI.out.statics.row.at_ hj
  rw [e0] at q1
  clear e0
  go_wp2_with fail
  go_region
  all_goals
    go_wp2_with fail
    go_ret2
    refine ⟨_, _, _, _, rfl, ?_, ?_, ?_⟩
    · exact slc_none
    · exact new_t1 (by simp; omega) (by go_simp) (by go_simp)
    · exact HW.out.trans (by repeat (first | exact Below.refl _ _ | refine Below.alloc ?_ (by first | omega | (simp; omega)) _ | refine Below.drew ?_))

set_option maxHeartbeats 1600000 in
theorem rule_30 (m : Img) (x : Mth) (f : Nat) (j : Nat) (b : Int) (hj : j < m.statics.length) (h : Hnd) (w : World) (H : ImgIn w w.heap.size h m) :
    Calls Try.prog 52 #[imgV h m, .int .i64 f, insV 30 (j : Int) b] w (TwoTypes (takeOf m x 30 (j : Int) b) (giveOf m x 30 (j : Int) b) w) := by
  have e0 : staticN m (j : Int) = m.statics[j] := by unfold staticN; rw [Int.toNat_natCast, List.getElem?_eq_getElem hj]; rfl
  have e1 : takeOf m x 30 (j : Int) b = [m.statics[j]] := by simp [takeOf, e0]
  have e2 : giveOf m x 30 (j : Int) b = [] := by simp [giveOf, e0]
  rw [e1, e2]
  clear e0 e1 e2
  obtain ⟨hw, hp⟩ := rule_parts h m 30 (j : Int) b w
  have HW := Lib.hid hw
  have HP := Lib.hid hp
  have HI := Lib.hid (H.now hw)
  clear hw hp H
  go_enter Try.func52, Try.ntmps52
  go_upto_region 3 with fail
  change Code.wp _ _ _ _ (ruleW h m 30 (j : Int) b w)
  generalize ruleW h m 30 (j : Int) b w = w1 at *
  have o0 := HP.out.ins 0 _ rfl
  have o1 := HP.out.ins 1 _ rfl
  have o2 := HP.out.ins 2 _ rfl
  have hz := HP.out.size
  obtain ⟨q0, q1, q2, q3, q4, q5, q6⟩ := HP.out.img
  have l1 := HI.out.statics.le
  have l2 := HI.out.statics.cap
  obtain ⟨ad, e0, hab, r0, r1⟩ := HI.out.statics.row.at_ hj
  rw [e0] at q1
  clear e0
  go_wp2_with fail
  go_ret2
  refine ⟨_, _, _, _, rfl, ?_, ?_, ?_⟩
  · exact new_t1 (by simp; omega) (by go_simp) (by go_simp)
  · exact slc_none
  · exact HW.out.trans (by repeat (first | exact Below.refl _ _ | refine Below.alloc ?_ (by first | omega | (simp; omega)) _ | refine Below.drew ?_))

end Go.Proofs.Ytefgepppcmhphaa
