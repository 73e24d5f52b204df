/-
  What the document's own answer for whether a field may have a type (Good) comes to.
  What the document's own answer for whether all types are good (good) comes to.
-/
import Derived.Test.YtefgepppcmhphaaM01
import Derived.Test.YtefgepppcmhphaaM02
namespace Go.Proofs.Ytefgepppcmhphaa
set_option maxRecDepth 100000
set_option linter.unusedVariables false
set_option linter.unusedSimpArgs false
set_option linter.unusedVariables false
open Go.ChangeShapes Go.WideShapes Go.ChangeAt Go.RowKit

theorem rgood_any (k n c : Int) (w : World) : Calls Try.prog 48 #[tyV k n, .int .i64 c] w fun e w' => e = .returned (.bool (goodB k n c)) ∧ Below w.heap.size w w' := by
  by_cases h : (k = 1 ∨ k = 2) ∧ n = 0 ∨ k = 3 ∧ 0 ≤ n ∧ n < c
  · have E := Lib.hid (show goodB k n c = true from decide_eq_true h)
    rcases h with ⟨rfl | rfl, rfl⟩ | ⟨rfl, h0, h1⟩
    all_goals
      go_enter Try.func48, Try.ntmps48
      go_wp2
      go_ret
      refine ⟨?_, ?_⟩
      · rw [E.out]; rfl
      · exact (Below.refl _ _).alloc (Nat.le_refl _) _
  · have E := Lib.hid (show goodB k n c = false from decide_eq_false h)
    have h' : (¬ k = 1 ∧ ¬ k = 2 ∧ ¬ k = 3) ∨ (k = 1 ∧ ¬ n = 0) ∨ (k = 2 ∧ ¬ n = 0) ∨ (k = 3 ∧ n < 0) ∨ (k = 3 ∧ 0 ≤ n ∧ c ≤ n) := by omega
    clear h
    rcases h' with ⟨h1, h2, h3⟩ | ⟨rfl, h1⟩ | ⟨rfl, h1⟩ | ⟨rfl, h1⟩ | ⟨rfl, h1, h2⟩
    · have e1 : decide (k = 1) = false := decide_eq_false h1
      have e2 : decide (k = 2) = false := decide_eq_false h2
      have e3 : decide (k = 3) = false := decide_eq_false h3
      go_enter Try.func48, Try.ntmps48
      go_wp2
      go_ret
      refine ⟨?_, ?_⟩
      · rw [E.out]; first | rfl | simp [h1, h2, h3]
      · exact (Below.refl _ _).alloc (Nat.le_refl _) _
    · have e1 : decide (n = 0) = false := decide_eq_false h1
      go_enter Try.func48, Try.ntmps48
      go_wp2
      go_ret
      refine ⟨?_, ?_⟩
      · rw [E.out]; first | rfl | simp [h1]
      · exact (Below.refl _ _).alloc (Nat.le_refl _) _
    · have e1 : decide (n = 0) = false := decide_eq_false h1
      go_enter Try.func48, Try.ntmps48
      go_wp2
      go_ret
      refine ⟨?_, ?_⟩
      · rw [E.out]; first | rfl | simp [h1]
      · exact (Below.refl _ _).alloc (Nat.le_refl _) _
    · have e1 : decide (0 ≤ n) = false := decide_eq_false (by omega)
      go_enter Try.func48, Try.ntmps48
      go_wp2
      go_ret
      refine ⟨?_, ?_⟩
      · rw [E.out]; first | rfl | simp [h1]
      · exact (Below.refl _ _).alloc (Nat.le_refl _) _
    · have e1 : decide (n < c) = false := decide_eq_false (by omega)
      go_enter Try.func48, Try.ntmps48
      go_wp2
      go_ret
      refine ⟨?_, ?_⟩
      · rw [E.out]; first | rfl | simp [h1, h2]
      · exact (Below.refl _ _).alloc (Nat.le_refl _) _
end Go.Proofs.Ytefgepppcmhphaa
namespace Go.Proofs.Ytefgepppcmhphaa
set_option maxRecDepth 100000
set_option linter.unusedVariables false
set_option linter.unusedSimpArgs false
open Go.ChangeShapes Go.WideShapes Go.ChangeAt Go.RowKit
set_option linter.unusedVariables false
set_option linter.unusedSimpArgs false

set_option maxHeartbeats 1600000 in
theorem rgoods_any (m : Img) (l : List (Int × Int)) (h : Hnd) (A : Option Addr) (cap : Nat) (w : World) (H : ImgIn w w.heap.size h m) (hl : SlcIs TyAt 2 w w.heap.size A cap l) :
    Calls Try.prog 28 #[imgV h m, .slice A l.length cap] w fun e w' => e = .returned (.bool (goodsB l m.classes.length)) ∧ Below w.heap.size w w' := by
  have HW := Lib.hid ((Below.refl w.heap.size w).alloc (Nat.le_refl _) (imgO h m))
  have HBX := Lib.hid (img_box w h m)
  have HZ : Hid (w.heap.size < (w.alloc (imgO h m)).heap.size) := Lib.hid (by simp)
  have HL := Lib.hid ((hl.below_to TyAt.keeps HW.out (Nat.le_refl _)).keep' TyAt.keeps HW.out.size (fun _ _ => rfl))
  have l1 := hl.le
  have l2 := hl.cap
  obtain ⟨b, hb⟩ : ∃ b, goodsB l m.classes.length = b := ⟨_, rfl⟩
  rw [hb]
  have E := Lib.hid hb.symm
  have c1 := H.classes.le
  have c2 := H.classes.cap
  clear hb hl H
  go_enter Try.func28, Try.ntmps28
  go_upto_region 1 with fail
  generalize w.alloc (imgO h m) = w1 at *
  go_wp2
  go_loopw [5] (fun i wr => ∃ k : Nat, k ≤ l.length ∧ i = .int .i64 k ∧ Hid (∀ t ∈ l.take k, goodB t.1 t.2 m.classes.length = true) ∧ Hid (Below w1.heap.size w1 wr)) (fun i _ => l.length - (intOf i).toNat)
  case atStart => exact ⟨0, by omega, rfl, Lib.hid (by simp), Lib.hid (Below.refl _ _)⟩
  case round =>
    obtain ⟨k, hk, rfl, HN, HX⟩ := hrel
    obtain ⟨q0, q1, q2, q3, q4, q5, q6⟩ := HBX.out.keep HX.out HZ.out
    by_cases hlt : k < l.length
    · obtain ⟨ad, rfl, hab, r0, r1⟩ := HL.out.row.at_ hlt
      have HNO := Lib.hid (fun g : (fun t : Int × Int => goodB t.1 t.2 m.classes.length) l[k] = false => (all_not hlt g : goodsB l m.classes.length = false))
      have HYE := Lib.hid (fun g : (fun t : Int × Int => goodB t.1 t.2 m.classes.length) l[k] = true => all_take hlt HN.out g)
      generalize l[k] = t at *
      obtain ⟨x, y⟩ := t
      dsimp only at r0 r1
      obtain ⟨g, hg⟩ : ∃ g, goodB x y m.classes.length = g := ⟨_, rfl⟩
      have G := Lib.hid hg
      clear hg
      have HXd := Lib.hid HX.out.drew
      have HR : Hid (∀ W, Below w1.heap.size w1 W → W.cell? (ad.add (k * 2)) = some (.int .i64 x) ∧ W.cell? (off_ (ad.add (k * 2)) 1) = some (.int .i64 y)) := Lib.hid (fun W hW => TyAt.keeps (x := (x, y)) ⟨r0, r1⟩ (by rw [addr_add_block]; exact hab) (Nat.le_refl _) (fun _ hq => hW.cell hq))
      obtain ⟨r0, r1⟩ := HR.out _ HX.out
      cases g
      · have E2 := Lib.hid (show b = false from E.out.trans (HNO.out G.out))
        go_wp2_with fail
        go_region_held3 (fun w' => w'.cell? (ad.add (k * 2)) = some (.int .i64 x) ∧ w'.cell? (off_ (ad.add (k * 2)) 1) = some (.int .i64 y) ∧ w'.cell? ⟨w.heap.size, 0, none⟩ = some (.slice h.A0 m.classes.length h.c0)) (first | exact ⟨r0, r1, q0⟩)
          (first | (go_at_call 48; (with_reducible refine (rgood_any x y m.classes.length _).mono ?_); rintro e w3 ⟨he, hb⟩; rw [G.out] at he; subst he; have HX3 := Lib.hid (HXd.out.trans (hb.mono HXd.out.size)); obtain ⟨q0, q1, q2, q3, q4, q5, q6⟩ := HBX.out.keep HX3.out HZ.out; obtain ⟨r0, r1⟩ := HR.out _ HX3.out; clear hb))
        go_wp2_with fail
        go_ret
        exact ⟨by rw [E2.out]; rfl, HW.out.trans (HX3.out.mono (Nat.le_of_lt HZ.out))⟩
      · have E2 := Lib.hid (HYE.out G.out)
        go_wp2_with fail
        go_region_held3 (fun w' => w'.cell? (ad.add (k * 2)) = some (.int .i64 x) ∧ w'.cell? (off_ (ad.add (k * 2)) 1) = some (.int .i64 y) ∧ w'.cell? ⟨w.heap.size, 0, none⟩ = some (.slice h.A0 m.classes.length h.c0)) (first | exact ⟨r0, r1, q0⟩)
          (first | (go_at_call 48; (with_reducible refine (rgood_any x y m.classes.length _).mono ?_); rintro e w3 ⟨he, hb⟩; rw [G.out] at he; subst he; have HX3 := Lib.hid (HXd.out.trans (hb.mono HXd.out.size)); obtain ⟨q0, q1, q2, q3, q4, q5, q6⟩ := HBX.out.keep HX3.out HZ.out; obtain ⟨r0, r1⟩ := HR.out _ HX3.out; clear hb))
        go_wp2_with fail
        go_roundw
        case rel => exact ⟨k + 1, by omega, by go_num, E2, HX3⟩
        case measure => simp [intOf]; omega
    · have E2 := Lib.hid (show b = true from E.out.trans (all_end HN.out (by omega)))
      go_wp2_with fail
      go_ret
      exact ⟨by rw [E2.out]; rfl, HW.out.trans (HX.out.mono (Nat.le_of_lt HZ.out))⟩
end Go.Proofs.Ytefgepppcmhphaa
