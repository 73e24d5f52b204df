/-
  What the document's own answer for whether a method is right (method) comes to.
-/
import Derived.Test.YtefgepppcmhphaaM03
import Derived.Test.YtefgepppcmhphaaM06
namespace Go.Proofs.Ytefgepppcmhphaa
set_option maxRecDepth 100000
set_option linter.unusedVariables false
set_option linter.unusedSimpArgs false
open Go.ChangeShapes Go.WideShapes Go.ChangeAt Go.RowKit
set_option linter.unusedVariables false
set_option linter.unusedSimpArgs false

def codesB (m : Img) (x : Mth) : Bool := x.code.all fun i => namedB m x i.1 i.2.1 i.2.2
/-- May a method have such a result? -/
def retB (r : Int × Int) (n : Int) : Bool := decide (r = (5, 0)) || goodB r.1 r.2 n
/-- Is a method right? -/
def methodB (m : Img) (x : Mth) : Bool :=
  goodsB x.args m.classes.length && (goodsB x.locals m.classes.length && (retB x.ret m.classes.length && (decide (¬ x.code.length = 0) && (decide (x.phi.length = x.code.length) && (decide (x.args.length + x.locals.length ≤ 8) && codesB m x)))))

/-- Two boxes one behind the other. -/
theorem two_boxesU (w : World) (vs us : List Value) (T U : TypeId) :
    Cells ((w.alloc (.cells vs.toArray T)).alloc (.cells us.toArray U)) w.heap.size vs ∧ Cells ((w.alloc (.cells vs.toArray T)).alloc (.cells us.toArray U)) (w.heap.size + 1) us ∧
    Below w.heap.size w ((w.alloc (.cells vs.toArray T)).alloc (.cells us.toArray U)) ∧ ((w.alloc (.cells vs.toArray T)).alloc (.cells us.toArray U)).heap.size = w.heap.size + 2 := by
  have z1 : (w.alloc (.cells vs.toArray T)).heap.size = w.heap.size + 1 := by simp
  have z2 : ((w.alloc (.cells vs.toArray T)).alloc (.cells us.toArray U)).heap.size = w.heap.size + 2 := by simp
  have b2 : Below (w.heap.size + 1) (w.alloc (.cells vs.toArray T)) ((w.alloc (.cells vs.toArray T)).alloc (.cells us.toArray U)) := (Below.refl _ _).alloc (by omega) _
  have h1 := cells_new w vs T
  have h2 := cells_new (w.alloc (.cells vs.toArray T)) us U
  rw [z1] at h2
  exact ⟨h1.keep b2 (by omega), h2, ((Below.refl _ _).alloc (Nat.le_refl _) _).trans (b2.mono (by omega)), z2⟩
theorem goods_is {m : Img} {l : List (Int × Int)} {h : Hnd} {A : Option Addr} {cap : Nat} {w0 w : World} {r : Bool} (HI : Hid (ImgIn w0 w0.heap.size h m)) (HL : Hid (SlcIs TyAt 2 w0 w0.heap.size A cap l)) (HX : Hid (Below w0.heap.size w0 w)) (HR : Hid (goodsB l m.classes.length = r)) :
    Calls Try.prog 28 #[imgV h m, .slice A l.length cap] w fun e w' => e = .returned (.bool r) ∧ Below w.heap.size w w' := by
  have H := rgoods_any m l h A cap w (HI.out.now HX.out) ((HL.out.below_to TyAt.keeps HX.out (Nat.le_refl _)).keep' TyAt.keeps HX.out.size (fun _ _ => rfl))
  rw [HR.out] at H
  exact H
theorem good_is {x y n : Int} {w : World} {r : Bool} (HR : Hid (goodB x y n = r)) : Calls Try.prog 48 #[tyV x y, .int .i64 n] w fun e w' => e = .returned (.bool r) ∧ Below w.heap.size w w' := by
  have H := rgood_any x y n w
  rw [HR.out] at H
  exact H
/-- What the walks of a class, a method, an image take for granted: lists are short, and no instruction names a number below 0. -/
structure Tame (m : Img) : Prop where
  n : m.classes.length ≤ 1000
  f : ∀ x ∈ m.classes, x.fields.length ≤ 1000
structure TameM (x : Mth) : Prop where
  a : x.args.length ≤ 1000
  l : x.locals.length ≤ 1000
  c : ∀ i ∈ x.code, 0 ≤ i.2.1
theorem named_is {m : Img} {x : Mth} {op a b : Int} {h : Hnd} {hx : MHnd} {w0 w : World} {r : Bool} (HI : Hid (ImgIn w0 w0.heap.size h m)) (HM : Hid (MthIn w0 w0.heap.size hx x)) (HX : Hid (Below w0.heap.size w0 w)) (HT : Hid (Tame m)) (HU : Hid (TameM x)) (H0 : Hid (0 ≤ a)) (HR : Hid (namedB m x op a b = r)) :
    Calls Try.prog 51 #[imgV h m, mthV hx x, insV op a b] w fun e w' => e = .returned (.bool r) ∧ Below w.heap.size w w' := by
  have H := rnamed_any m x op a b h hx w (HI.out.now HX.out) (HM.out.now HX.out) H0.out HT.out.n HT.out.f HU.out.a HU.out.l
  rw [HR.out] at H
  exact H

set_option maxHeartbeats 3200000 in
theorem rmethod_any (m : Img) (x : Mth) (h : Hnd) (hx : MHnd) (w : World) (H : ImgIn w w.heap.size h m) (H' : MthIn w w.heap.size hx x) (ht : Tame m) (hu : TameM x) :
    Calls Try.prog 30 #[imgV h m, mthV hx x] w fun e w' => e = .returned (.bool (methodB m x)) ∧ Below w.heap.size w w' := by
  obtain ⟨hq, hp, hb, hz⟩ := two_boxesU w (imgL h m) (mthL hx x) 28 54
  have HQ := Lib.hid hq
  have HP := Lib.hid hp
  have HW := Lib.hid hb
  have HI := Lib.hid (H.now hb)
  have HM := Lib.hid (H'.now hb)
  have HT := Lib.hid ht
  have HU := Lib.hid hu
  have HQZ : Hid (w.heap.size < ((w.alloc (.cells (imgL h m).toArray 28)).alloc (.cells (mthL hx x).toArray 54)).heap.size) := Lib.hid (by omega)
  have HPZ : Hid (w.heap.size + 1 < ((w.alloc (.cells (imgL h m).toArray 28)).alloc (.cells (mthL hx x).toArray 54)).heap.size) := Lib.hid (by omega)
  have HZw : Hid (w.heap.size ≤ ((w.alloc (.cells (imgL h m).toArray 28)).alloc (.cells (mthL hx x).toArray 54)).heap.size) := Lib.hid (by omega)
  have l0 := H.classes.le
  have l0c := H.classes.cap
  have m1 := hu.a
  have m2 := hu.l
  have m3 := H'.phi.le
  have m3c := H'.phi.cap
  have m4 := H'.code.le
  have m4c := H'.code.cap
  clear hq hp hb hz H H' ht hu
  go_enter Try.func30, Try.ntmps30
  go_upto_region 1 with fail
  generalize (w.alloc (.cells (imgL h m).toArray 28)).alloc (.cells (mthL hx x).toArray 54) = w1 at *
  have HX : Hid (Below w1.heap.size w1 w1) := Lib.hid (Below.refl _ _)
  have HSa := Lib.hid HM.out.args
  have HSl := Lib.hid HM.out.locals
  obtain ⟨xa, xl, ⟨xr0, xr1⟩, xc, xd, xp, xh⟩ := x
  dsimp only at m1 m2 m3 m4 HSa HSl
  have kq0 := (HQ.out.keep HX.out HQZ.out) 0 _ rfl
  have kq1 := (HQ.out.keep HX.out HQZ.out) 1 _ rfl
  have kq2 := (HQ.out.keep HX.out HQZ.out) 2 _ rfl
  have kq3 := (HQ.out.keep HX.out HQZ.out) 3 _ rfl
  have kq4 := (HQ.out.keep HX.out HQZ.out) 4 _ rfl
  have kq5 := (HQ.out.keep HX.out HQZ.out) 5 _ rfl
  have kq6 := (HQ.out.keep HX.out HQZ.out) 6 _ rfl
  have kp0 := (HP.out.keep HX.out HPZ.out) 0 _ rfl
  have kp1 := (HP.out.keep HX.out HPZ.out) 1 _ rfl
  have kp2 := (HP.out.keep HX.out HPZ.out) 2 _ rfl
  have kp3 := (HP.out.keep HX.out HPZ.out) 3 _ rfl
  have kp4 := (HP.out.keep HX.out HPZ.out) 4 _ rfl
  have kp5 := (HP.out.keep HX.out HPZ.out) 5 _ rfl
  have kp6 := (HP.out.keep HX.out HPZ.out) 6 _ rfl
  have kp7 := (HP.out.keep HX.out HPZ.out) 7 _ rfl
  dsimp only at kp0 kp1 kp2 kp3 kp4 kp5 kp6 kp7
  obtain ⟨d1, hd1⟩ : ∃ d, goodsB xa m.classes.length = d := ⟨_, rfl⟩
  have D1 := Lib.hid hd1
  obtain ⟨d2, hd2⟩ : ∃ d, goodsB xl m.classes.length = d := ⟨_, rfl⟩
  have D2 := Lib.hid hd2
  clear hd1 hd2
  cases d1
  · have E2 := Lib.hid (show methodB m ⟨xa, xl, (xr0, xr1), xc, xd, xp, xh⟩ = false by unfold methodB; rw [D1.out]; rfl)
    go_wp2_with (first | (go_at_call 28; (with_reducible refine (goods_is HI HSa HX D1).mono ?_); rintro e w5 ⟨rfl, hb⟩; have HX := Lib.hid (HX.out.trans (hb.mono HX.out.size)); have kq0 := (HQ.out.keep HX.out HQZ.out) 0 _ rfl; have kq1 := (HQ.out.keep HX.out HQZ.out) 1 _ rfl; have kq2 := (HQ.out.keep HX.out HQZ.out) 2 _ rfl; have kq3 := (HQ.out.keep HX.out HQZ.out) 3 _ rfl; have kq4 := (HQ.out.keep HX.out HQZ.out) 4 _ rfl; have kq5 := (HQ.out.keep HX.out HQZ.out) 5 _ rfl; have kq6 := (HQ.out.keep HX.out HQZ.out) 6 _ rfl; have kp0 := (HP.out.keep HX.out HPZ.out) 0 _ rfl; have kp1 := (HP.out.keep HX.out HPZ.out) 1 _ rfl; have kp2 := (HP.out.keep HX.out HPZ.out) 2 _ rfl; have kp3 := (HP.out.keep HX.out HPZ.out) 3 _ rfl; have kp4 := (HP.out.keep HX.out HPZ.out) 4 _ rfl; have kp5 := (HP.out.keep HX.out HPZ.out) 5 _ rfl; have kp6 := (HP.out.keep HX.out HPZ.out) 6 _ rfl; have kp7 := (HP.out.keep HX.out HPZ.out) 7 _ rfl; clear hb) | (go_at_call 28; (with_reducible refine (goods_is HI HSl HX D2).mono ?_); rintro e w5 ⟨rfl, hb⟩; have HX := Lib.hid (HX.out.trans (hb.mono HX.out.size)); have kq0 := (HQ.out.keep HX.out HQZ.out) 0 _ rfl; have kq1 := (HQ.out.keep HX.out HQZ.out) 1 _ rfl; have kq2 := (HQ.out.keep HX.out HQZ.out) 2 _ rfl; have kq3 := (HQ.out.keep HX.out HQZ.out) 3 _ rfl; have kq4 := (HQ.out.keep HX.out HQZ.out) 4 _ rfl; have kq5 := (HQ.out.keep HX.out HQZ.out) 5 _ rfl; have kq6 := (HQ.out.keep HX.out HQZ.out) 6 _ rfl; have kp0 := (HP.out.keep HX.out HPZ.out) 0 _ rfl; have kp1 := (HP.out.keep HX.out HPZ.out) 1 _ rfl; have kp2 := (HP.out.keep HX.out HPZ.out) 2 _ rfl; have kp3 := (HP.out.keep HX.out HPZ.out) 3 _ rfl; have kp4 := (HP.out.keep HX.out HPZ.out) 4 _ rfl; have kp5 := (HP.out.keep HX.out HPZ.out) 5 _ rfl; have kp6 := (HP.out.keep HX.out HPZ.out) 6 _ rfl; have kp7 := (HP.out.keep HX.out HPZ.out) 7 _ rfl; clear hb) | (go_at_call 48; (with_reducible refine (good_is D3).mono ?_); rintro e w5 ⟨rfl, hb⟩; have HX := Lib.hid (HX.out.trans (hb.mono HX.out.size)); have kq0 := (HQ.out.keep HX.out HQZ.out) 0 _ rfl; have kq1 := (HQ.out.keep HX.out HQZ.out) 1 _ rfl; have kq2 := (HQ.out.keep HX.out HQZ.out) 2 _ rfl; have kq3 := (HQ.out.keep HX.out HQZ.out) 3 _ rfl; have kq4 := (HQ.out.keep HX.out HQZ.out) 4 _ rfl; have kq5 := (HQ.out.keep HX.out HQZ.out) 5 _ rfl; have kq6 := (HQ.out.keep HX.out HQZ.out) 6 _ rfl; have kp0 := (HP.out.keep HX.out HPZ.out) 0 _ rfl; have kp1 := (HP.out.keep HX.out HPZ.out) 1 _ rfl; have kp2 := (HP.out.keep HX.out HPZ.out) 2 _ rfl; have kp3 := (HP.out.keep HX.out HPZ.out) 3 _ rfl; have kp4 := (HP.out.keep HX.out HPZ.out) 4 _ rfl; have kp5 := (HP.out.keep HX.out HPZ.out) 5 _ rfl; have kp6 := (HP.out.keep HX.out HPZ.out) 6 _ rfl; have kp7 := (HP.out.keep HX.out HPZ.out) 7 _ rfl; clear hb))
    go_ret
    exact ⟨by rw [E2.out]; rfl, HW.out.trans (HX.out.mono HZw.out)⟩
  cases d2
  · have E2 := Lib.hid (show methodB m ⟨xa, xl, (xr0, xr1), xc, xd, xp, xh⟩ = false by unfold methodB; rw [D1.out, D2.out]; rfl)
    go_wp2_with (first | (go_at_call 28; (with_reducible refine (goods_is HI HSa HX D1).mono ?_); rintro e w5 ⟨rfl, hb⟩; have HX := Lib.hid (HX.out.trans (hb.mono HX.out.size)); have kq0 := (HQ.out.keep HX.out HQZ.out) 0 _ rfl; have kq1 := (HQ.out.keep HX.out HQZ.out) 1 _ rfl; have kq2 := (HQ.out.keep HX.out HQZ.out) 2 _ rfl; have kq3 := (HQ.out.keep HX.out HQZ.out) 3 _ rfl; have kq4 := (HQ.out.keep HX.out HQZ.out) 4 _ rfl; have kq5 := (HQ.out.keep HX.out HQZ.out) 5 _ rfl; have kq6 := (HQ.out.keep HX.out HQZ.out) 6 _ rfl; have kp0 := (HP.out.keep HX.out HPZ.out) 0 _ rfl; have kp1 := (HP.out.keep HX.out HPZ.out) 1 _ rfl; have kp2 := (HP.out.keep HX.out HPZ.out) 2 _ rfl; have kp3 := (HP.out.keep HX.out HPZ.out) 3 _ rfl; have kp4 := (HP.out.keep HX.out HPZ.out) 4 _ rfl; have kp5 := (HP.out.keep HX.out HPZ.out) 5 _ rfl; have kp6 := (HP.out.keep HX.out HPZ.out) 6 _ rfl; have kp7 := (HP.out.keep HX.out HPZ.out) 7 _ rfl; clear hb) | (go_at_call 28; (with_reducible refine (goods_is HI HSl HX D2).mono ?_); rintro e w5 ⟨rfl, hb⟩; have HX := Lib.hid (HX.out.trans (hb.mono HX.out.size)); have kq0 := (HQ.out.keep HX.out HQZ.out) 0 _ rfl; have kq1 := (HQ.out.keep HX.out HQZ.out) 1 _ rfl; have kq2 := (HQ.out.keep HX.out HQZ.out) 2 _ rfl; have kq3 := (HQ.out.keep HX.out HQZ.out) 3 _ rfl; have kq4 := (HQ.out.keep HX.out HQZ.out) 4 _ rfl; have kq5 := (HQ.out.keep HX.out HQZ.out) 5 _ rfl; have kq6 := (HQ.out.keep HX.out HQZ.out) 6 _ rfl; have kp0 := (HP.out.keep HX.out HPZ.out) 0 _ rfl; have kp1 := (HP.out.keep HX.out HPZ.out) 1 _ rfl; have kp2 := (HP.out.keep HX.out HPZ.out) 2 _ rfl; have kp3 := (HP.out.keep HX.out HPZ.out) 3 _ rfl; have kp4 := (HP.out.keep HX.out HPZ.out) 4 _ rfl; have kp5 := (HP.out.keep HX.out HPZ.out) 5 _ rfl; have kp6 := (HP.out.keep HX.out HPZ.out) 6 _ rfl; have kp7 := (HP.out.keep HX.out HPZ.out) 7 _ rfl; clear hb) | (go_at_call 48; (with_reducible refine (good_is D3).mono ?_); rintro e w5 ⟨rfl, hb⟩; have HX := Lib.hid (HX.out.trans (hb.mono HX.out.size)); have kq0 := (HQ.out.keep HX.out HQZ.out) 0 _ rfl; have kq1 := (HQ.out.keep HX.out HQZ.out) 1 _ rfl; have kq2 := (HQ.out.keep HX.out HQZ.out) 2 _ rfl; have kq3 := (HQ.out.keep HX.out HQZ.out) 3 _ rfl; have kq4 := (HQ.out.keep HX.out HQZ.out) 4 _ rfl; have kq5 := (HQ.out.keep HX.out HQZ.out) 5 _ rfl; have kq6 := (HQ.out.keep HX.out HQZ.out) 6 _ rfl; have kp0 := (HP.out.keep HX.out HPZ.out) 0 _ rfl; have kp1 := (HP.out.keep HX.out HPZ.out) 1 _ rfl; have kp2 := (HP.out.keep HX.out HPZ.out) 2 _ rfl; have kp3 := (HP.out.keep HX.out HPZ.out) 3 _ rfl; have kp4 := (HP.out.keep HX.out HPZ.out) 4 _ rfl; have kp5 := (HP.out.keep HX.out HPZ.out) 5 _ rfl; have kp6 := (HP.out.keep HX.out HPZ.out) 6 _ rfl; have kp7 := (HP.out.keep HX.out HPZ.out) 7 _ rfl; clear hb))
    go_ret
    exact ⟨by rw [E2.out]; rfl, HW.out.trans (HX.out.mono HZw.out)⟩
  by_cases hr5 : xr0 = 5 ∧ xr1 = 0
  · obtain ⟨rfl, rfl⟩ := hr5
    have HRB := Lib.hid (show retB (5, 0) m.classes.length = true from rfl)
    by_cases c1 : ¬ xc.length = 0
    rotate_left
    · have ct1 : ((xc.length : Int) == 0) = true := beq_iff_eq.mpr (by omega)
      have E2 := Lib.hid (show methodB m ⟨xa, xl, (5, 0), xc, xd, xp, xh⟩ = false by unfold methodB; rw [decide_eq_false (by simpa using c1)]; simp)
      go_wp2_with (first | (go_at_call 28; (with_reducible refine (goods_is HI HSa HX D1).mono ?_); rintro e w5 ⟨rfl, hb⟩; have HX := Lib.hid (HX.out.trans (hb.mono HX.out.size)); have kq0 := (HQ.out.keep HX.out HQZ.out) 0 _ rfl; have kq1 := (HQ.out.keep HX.out HQZ.out) 1 _ rfl; have kq2 := (HQ.out.keep HX.out HQZ.out) 2 _ rfl; have kq3 := (HQ.out.keep HX.out HQZ.out) 3 _ rfl; have kq4 := (HQ.out.keep HX.out HQZ.out) 4 _ rfl; have kq5 := (HQ.out.keep HX.out HQZ.out) 5 _ rfl; have kq6 := (HQ.out.keep HX.out HQZ.out) 6 _ rfl; have kp0 := (HP.out.keep HX.out HPZ.out) 0 _ rfl; have kp1 := (HP.out.keep HX.out HPZ.out) 1 _ rfl; have kp2 := (HP.out.keep HX.out HPZ.out) 2 _ rfl; have kp3 := (HP.out.keep HX.out HPZ.out) 3 _ rfl; have kp4 := (HP.out.keep HX.out HPZ.out) 4 _ rfl; have kp5 := (HP.out.keep HX.out HPZ.out) 5 _ rfl; have kp6 := (HP.out.keep HX.out HPZ.out) 6 _ rfl; have kp7 := (HP.out.keep HX.out HPZ.out) 7 _ rfl; clear hb) | (go_at_call 28; (with_reducible refine (goods_is HI HSl HX D2).mono ?_); rintro e w5 ⟨rfl, hb⟩; have HX := Lib.hid (HX.out.trans (hb.mono HX.out.size)); have kq0 := (HQ.out.keep HX.out HQZ.out) 0 _ rfl; have kq1 := (HQ.out.keep HX.out HQZ.out) 1 _ rfl; have kq2 := (HQ.out.keep HX.out HQZ.out) 2 _ rfl; have kq3 := (HQ.out.keep HX.out HQZ.out) 3 _ rfl; have kq4 := (HQ.out.keep HX.out HQZ.out) 4 _ rfl; have kq5 := (HQ.out.keep HX.out HQZ.out) 5 _ rfl; have kq6 := (HQ.out.keep HX.out HQZ.out) 6 _ rfl; have kp0 := (HP.out.keep HX.out HPZ.out) 0 _ rfl; have kp1 := (HP.out.keep HX.out HPZ.out) 1 _ rfl; have kp2 := (HP.out.keep HX.out HPZ.out) 2 _ rfl; have kp3 := (HP.out.keep HX.out HPZ.out) 3 _ rfl; have kp4 := (HP.out.keep HX.out HPZ.out) 4 _ rfl; have kp5 := (HP.out.keep HX.out HPZ.out) 5 _ rfl; have kp6 := (HP.out.keep HX.out HPZ.out) 6 _ rfl; have kp7 := (HP.out.keep HX.out HPZ.out) 7 _ rfl; clear hb) | (go_at_call 48; (with_reducible refine (good_is D3).mono ?_); rintro e w5 ⟨rfl, hb⟩; have HX := Lib.hid (HX.out.trans (hb.mono HX.out.size)); have kq0 := (HQ.out.keep HX.out HQZ.out) 0 _ rfl; have kq1 := (HQ.out.keep HX.out HQZ.out) 1 _ rfl; have kq2 := (HQ.out.keep HX.out HQZ.out) 2 _ rfl; have kq3 := (HQ.out.keep HX.out HQZ.out) 3 _ rfl; have kq4 := (HQ.out.keep HX.out HQZ.out) 4 _ rfl; have kq5 := (HQ.out.keep HX.out HQZ.out) 5 _ rfl; have kq6 := (HQ.out.keep HX.out HQZ.out) 6 _ rfl; have kp0 := (HP.out.keep HX.out HPZ.out) 0 _ rfl; have kp1 := (HP.out.keep HX.out HPZ.out) 1 _ rfl; have kp2 := (HP.out.keep HX.out HPZ.out) 2 _ rfl; have kp3 := (HP.out.keep HX.out HPZ.out) 3 _ rfl; have kp4 := (HP.out.keep HX.out HPZ.out) 4 _ rfl; have kp5 := (HP.out.keep HX.out HPZ.out) 5 _ rfl; have kp6 := (HP.out.keep HX.out HPZ.out) 6 _ rfl; have kp7 := (HP.out.keep HX.out HPZ.out) 7 _ rfl; clear hb))
      go_ret
      exact ⟨by rw [E2.out]; rfl, HW.out.trans (HX.out.mono HZw.out)⟩
    have ct1 : ((xc.length : Int) == 0) = false := beq_eq_false_iff_ne.mpr (by omega)
    have Cc1 := Lib.hid c1
    clear c1
    by_cases c2 : xh.length = xc.length
    rotate_left
    · have ct2 : ((xh.length : Int) != (xc.length : Int)) = true := bne_iff_ne.mpr (by omega)
      have E2 := Lib.hid (show methodB m ⟨xa, xl, (5, 0), xc, xd, xp, xh⟩ = false by unfold methodB; rw [decide_eq_false (p := xh.length = xc.length) c2]; simp)
      go_wp2_with (first | (go_at_call 28; (with_reducible refine (goods_is HI HSa HX D1).mono ?_); rintro e w5 ⟨rfl, hb⟩; have HX := Lib.hid (HX.out.trans (hb.mono HX.out.size)); have kq0 := (HQ.out.keep HX.out HQZ.out) 0 _ rfl; have kq1 := (HQ.out.keep HX.out HQZ.out) 1 _ rfl; have kq2 := (HQ.out.keep HX.out HQZ.out) 2 _ rfl; have kq3 := (HQ.out.keep HX.out HQZ.out) 3 _ rfl; have kq4 := (HQ.out.keep HX.out HQZ.out) 4 _ rfl; have kq5 := (HQ.out.keep HX.out HQZ.out) 5 _ rfl; have kq6 := (HQ.out.keep HX.out HQZ.out) 6 _ rfl; have kp0 := (HP.out.keep HX.out HPZ.out) 0 _ rfl; have kp1 := (HP.out.keep HX.out HPZ.out) 1 _ rfl; have kp2 := (HP.out.keep HX.out HPZ.out) 2 _ rfl; have kp3 := (HP.out.keep HX.out HPZ.out) 3 _ rfl; have kp4 := (HP.out.keep HX.out HPZ.out) 4 _ rfl; have kp5 := (HP.out.keep HX.out HPZ.out) 5 _ rfl; have kp6 := (HP.out.keep HX.out HPZ.out) 6 _ rfl; have kp7 := (HP.out.keep HX.out HPZ.out) 7 _ rfl; clear hb) | (go_at_call 28; (with_reducible refine (goods_is HI HSl HX D2).mono ?_); rintro e w5 ⟨rfl, hb⟩; have HX := Lib.hid (HX.out.trans (hb.mono HX.out.size)); have kq0 := (HQ.out.keep HX.out HQZ.out) 0 _ rfl; have kq1 := (HQ.out.keep HX.out HQZ.out) 1 _ rfl; have kq2 := (HQ.out.keep HX.out HQZ.out) 2 _ rfl; have kq3 := (HQ.out.keep HX.out HQZ.out) 3 _ rfl; have kq4 := (HQ.out.keep HX.out HQZ.out) 4 _ rfl; have kq5 := (HQ.out.keep HX.out HQZ.out) 5 _ rfl; have kq6 := (HQ.out.keep HX.out HQZ.out) 6 _ rfl; have kp0 := (HP.out.keep HX.out HPZ.out) 0 _ rfl; have kp1 := (HP.out.keep HX.out HPZ.out) 1 _ rfl; have kp2 := (HP.out.keep HX.out HPZ.out) 2 _ rfl; have kp3 := (HP.out.keep HX.out HPZ.out) 3 _ rfl; have kp4 := (HP.out.keep HX.out HPZ.out) 4 _ rfl; have kp5 := (HP.out.keep HX.out HPZ.out) 5 _ rfl; have kp6 := (HP.out.keep HX.out HPZ.out) 6 _ rfl; have kp7 := (HP.out.keep HX.out HPZ.out) 7 _ rfl; clear hb) | (go_at_call 48; (with_reducible refine (good_is D3).mono ?_); rintro e w5 ⟨rfl, hb⟩; have HX := Lib.hid (HX.out.trans (hb.mono HX.out.size)); have kq0 := (HQ.out.keep HX.out HQZ.out) 0 _ rfl; have kq1 := (HQ.out.keep HX.out HQZ.out) 1 _ rfl; have kq2 := (HQ.out.keep HX.out HQZ.out) 2 _ rfl; have kq3 := (HQ.out.keep HX.out HQZ.out) 3 _ rfl; have kq4 := (HQ.out.keep HX.out HQZ.out) 4 _ rfl; have kq5 := (HQ.out.keep HX.out HQZ.out) 5 _ rfl; have kq6 := (HQ.out.keep HX.out HQZ.out) 6 _ rfl; have kp0 := (HP.out.keep HX.out HPZ.out) 0 _ rfl; have kp1 := (HP.out.keep HX.out HPZ.out) 1 _ rfl; have kp2 := (HP.out.keep HX.out HPZ.out) 2 _ rfl; have kp3 := (HP.out.keep HX.out HPZ.out) 3 _ rfl; have kp4 := (HP.out.keep HX.out HPZ.out) 4 _ rfl; have kp5 := (HP.out.keep HX.out HPZ.out) 5 _ rfl; have kp6 := (HP.out.keep HX.out HPZ.out) 6 _ rfl; have kp7 := (HP.out.keep HX.out HPZ.out) 7 _ rfl; clear hb))
      go_ret
      exact ⟨by rw [E2.out]; rfl, HW.out.trans (HX.out.mono HZw.out)⟩
    have ct2 : ((xh.length : Int) != (xc.length : Int)) = false := bne_eq_false_iff_eq.mpr (by omega)
    have Cc2 := Lib.hid c2
    clear c2
    by_cases c3 : xa.length + xl.length ≤ 8
    rotate_left
    · have ct3 : (8 : Int) < (xa.length : Int) + (xl.length : Int) := by omega
      have E2 := Lib.hid (show methodB m ⟨xa, xl, (5, 0), xc, xd, xp, xh⟩ = false by unfold methodB; rw [decide_eq_false (p := xa.length + xl.length ≤ 8) c3]; simp)
      go_wp2_with (first | (go_at_call 28; (with_reducible refine (goods_is HI HSa HX D1).mono ?_); rintro e w5 ⟨rfl, hb⟩; have HX := Lib.hid (HX.out.trans (hb.mono HX.out.size)); have kq0 := (HQ.out.keep HX.out HQZ.out) 0 _ rfl; have kq1 := (HQ.out.keep HX.out HQZ.out) 1 _ rfl; have kq2 := (HQ.out.keep HX.out HQZ.out) 2 _ rfl; have kq3 := (HQ.out.keep HX.out HQZ.out) 3 _ rfl; have kq4 := (HQ.out.keep HX.out HQZ.out) 4 _ rfl; have kq5 := (HQ.out.keep HX.out HQZ.out) 5 _ rfl; have kq6 := (HQ.out.keep HX.out HQZ.out) 6 _ rfl; have kp0 := (HP.out.keep HX.out HPZ.out) 0 _ rfl; have kp1 := (HP.out.keep HX.out HPZ.out) 1 _ rfl; have kp2 := (HP.out.keep HX.out HPZ.out) 2 _ rfl; have kp3 := (HP.out.keep HX.out HPZ.out) 3 _ rfl; have kp4 := (HP.out.keep HX.out HPZ.out) 4 _ rfl; have kp5 := (HP.out.keep HX.out HPZ.out) 5 _ rfl; have kp6 := (HP.out.keep HX.out HPZ.out) 6 _ rfl; have kp7 := (HP.out.keep HX.out HPZ.out) 7 _ rfl; clear hb) | (go_at_call 28; (with_reducible refine (goods_is HI HSl HX D2).mono ?_); rintro e w5 ⟨rfl, hb⟩; have HX := Lib.hid (HX.out.trans (hb.mono HX.out.size)); have kq0 := (HQ.out.keep HX.out HQZ.out) 0 _ rfl; have kq1 := (HQ.out.keep HX.out HQZ.out) 1 _ rfl; have kq2 := (HQ.out.keep HX.out HQZ.out) 2 _ rfl; have kq3 := (HQ.out.keep HX.out HQZ.out) 3 _ rfl; have kq4 := (HQ.out.keep HX.out HQZ.out) 4 _ rfl; have kq5 := (HQ.out.keep HX.out HQZ.out) 5 _ rfl; have kq6 := (HQ.out.keep HX.out HQZ.out) 6 _ rfl; have kp0 := (HP.out.keep HX.out HPZ.out) 0 _ rfl; have kp1 := (HP.out.keep HX.out HPZ.out) 1 _ rfl; have kp2 := (HP.out.keep HX.out HPZ.out) 2 _ rfl; have kp3 := (HP.out.keep HX.out HPZ.out) 3 _ rfl; have kp4 := (HP.out.keep HX.out HPZ.out) 4 _ rfl; have kp5 := (HP.out.keep HX.out HPZ.out) 5 _ rfl; have kp6 := (HP.out.keep HX.out HPZ.out) 6 _ rfl; have kp7 := (HP.out.keep HX.out HPZ.out) 7 _ rfl; clear hb) | (go_at_call 48; (with_reducible refine (good_is D3).mono ?_); rintro e w5 ⟨rfl, hb⟩; have HX := Lib.hid (HX.out.trans (hb.mono HX.out.size)); have kq0 := (HQ.out.keep HX.out HQZ.out) 0 _ rfl; have kq1 := (HQ.out.keep HX.out HQZ.out) 1 _ rfl; have kq2 := (HQ.out.keep HX.out HQZ.out) 2 _ rfl; have kq3 := (HQ.out.keep HX.out HQZ.out) 3 _ rfl; have kq4 := (HQ.out.keep HX.out HQZ.out) 4 _ rfl; have kq5 := (HQ.out.keep HX.out HQZ.out) 5 _ rfl; have kq6 := (HQ.out.keep HX.out HQZ.out) 6 _ rfl; have kp0 := (HP.out.keep HX.out HPZ.out) 0 _ rfl; have kp1 := (HP.out.keep HX.out HPZ.out) 1 _ rfl; have kp2 := (HP.out.keep HX.out HPZ.out) 2 _ rfl; have kp3 := (HP.out.keep HX.out HPZ.out) 3 _ rfl; have kp4 := (HP.out.keep HX.out HPZ.out) 4 _ rfl; have kp5 := (HP.out.keep HX.out HPZ.out) 5 _ rfl; have kp6 := (HP.out.keep HX.out HPZ.out) 6 _ rfl; have kp7 := (HP.out.keep HX.out HPZ.out) 7 _ rfl; clear hb))
      go_ret
      exact ⟨by rw [E2.out]; rfl, HW.out.trans (HX.out.mono HZw.out)⟩
    have ct3 : ¬ (8 : Int) < (xa.length : Int) + (xl.length : Int) := by omega
    have Cc3 := Lib.hid c3
    clear c3
    go_wp2_with (first | (go_at_call 28; (with_reducible refine (goods_is HI HSa HX D1).mono ?_); rintro e w5 ⟨rfl, hb⟩; have HX := Lib.hid (HX.out.trans (hb.mono HX.out.size)); have kq0 := (HQ.out.keep HX.out HQZ.out) 0 _ rfl; have kq1 := (HQ.out.keep HX.out HQZ.out) 1 _ rfl; have kq2 := (HQ.out.keep HX.out HQZ.out) 2 _ rfl; have kq3 := (HQ.out.keep HX.out HQZ.out) 3 _ rfl; have kq4 := (HQ.out.keep HX.out HQZ.out) 4 _ rfl; have kq5 := (HQ.out.keep HX.out HQZ.out) 5 _ rfl; have kq6 := (HQ.out.keep HX.out HQZ.out) 6 _ rfl; have kp0 := (HP.out.keep HX.out HPZ.out) 0 _ rfl; have kp1 := (HP.out.keep HX.out HPZ.out) 1 _ rfl; have kp2 := (HP.out.keep HX.out HPZ.out) 2 _ rfl; have kp3 := (HP.out.keep HX.out HPZ.out) 3 _ rfl; have kp4 := (HP.out.keep HX.out HPZ.out) 4 _ rfl; have kp5 := (HP.out.keep HX.out HPZ.out) 5 _ rfl; have kp6 := (HP.out.keep HX.out HPZ.out) 6 _ rfl; have kp7 := (HP.out.keep HX.out HPZ.out) 7 _ rfl; clear hb) | (go_at_call 28; (with_reducible refine (goods_is HI HSl HX D2).mono ?_); rintro e w5 ⟨rfl, hb⟩; have HX := Lib.hid (HX.out.trans (hb.mono HX.out.size)); have kq0 := (HQ.out.keep HX.out HQZ.out) 0 _ rfl; have kq1 := (HQ.out.keep HX.out HQZ.out) 1 _ rfl; have kq2 := (HQ.out.keep HX.out HQZ.out) 2 _ rfl; have kq3 := (HQ.out.keep HX.out HQZ.out) 3 _ rfl; have kq4 := (HQ.out.keep HX.out HQZ.out) 4 _ rfl; have kq5 := (HQ.out.keep HX.out HQZ.out) 5 _ rfl; have kq6 := (HQ.out.keep HX.out HQZ.out) 6 _ rfl; have kp0 := (HP.out.keep HX.out HPZ.out) 0 _ rfl; have kp1 := (HP.out.keep HX.out HPZ.out) 1 _ rfl; have kp2 := (HP.out.keep HX.out HPZ.out) 2 _ rfl; have kp3 := (HP.out.keep HX.out HPZ.out) 3 _ rfl; have kp4 := (HP.out.keep HX.out HPZ.out) 4 _ rfl; have kp5 := (HP.out.keep HX.out HPZ.out) 5 _ rfl; have kp6 := (HP.out.keep HX.out HPZ.out) 6 _ rfl; have kp7 := (HP.out.keep HX.out HPZ.out) 7 _ rfl; clear hb) | (go_at_call 48; (with_reducible refine (good_is D3).mono ?_); rintro e w5 ⟨rfl, hb⟩; have HX := Lib.hid (HX.out.trans (hb.mono HX.out.size)); have kq0 := (HQ.out.keep HX.out HQZ.out) 0 _ rfl; have kq1 := (HQ.out.keep HX.out HQZ.out) 1 _ rfl; have kq2 := (HQ.out.keep HX.out HQZ.out) 2 _ rfl; have kq3 := (HQ.out.keep HX.out HQZ.out) 3 _ rfl; have kq4 := (HQ.out.keep HX.out HQZ.out) 4 _ rfl; have kq5 := (HQ.out.keep HX.out HQZ.out) 5 _ rfl; have kq6 := (HQ.out.keep HX.out HQZ.out) 6 _ rfl; have kp0 := (HP.out.keep HX.out HPZ.out) 0 _ rfl; have kp1 := (HP.out.keep HX.out HPZ.out) 1 _ rfl; have kp2 := (HP.out.keep HX.out HPZ.out) 2 _ rfl; have kp3 := (HP.out.keep HX.out HPZ.out) 3 _ rfl; have kp4 := (HP.out.keep HX.out HPZ.out) 4 _ rfl; have kp5 := (HP.out.keep HX.out HPZ.out) 5 _ rfl; have kp6 := (HP.out.keep HX.out HPZ.out) 6 _ rfl; have kp7 := (HP.out.keep HX.out HPZ.out) 7 _ rfl; clear hb))
    go_loopw [5] (fun i wr => ∃ k : Nat, k ≤ xc.length ∧ i = .int .i64 k ∧ Hid (∀ i ∈ xc.take k, namedB m ⟨xa, xl, (5, 0), xc, xd, xp, xh⟩ i.1 i.2.1 i.2.2 = true) ∧ Hid (Below w1.heap.size w1 wr)) (fun i _ => xc.length - (intOf i).toNat)
    case atStart => exact ⟨0, by omega, rfl, Lib.hid (by simp), HX⟩
    case round =>
      clear HX kq0 kq1 kq2 kq3 kq4 kq5 kq6 kp0 kp1 kp2 kp3 kp4 kp5 kp6 kp7
      obtain ⟨k, hk, rfl, HN, HX⟩ := hrel
      have kq0 := (HQ.out.keep HX.out HQZ.out) 0 _ rfl
      have kq1 := (HQ.out.keep HX.out HQZ.out) 1 _ rfl
      have kq2 := (HQ.out.keep HX.out HQZ.out) 2 _ rfl
      have kq3 := (HQ.out.keep HX.out HQZ.out) 3 _ rfl
      have kq4 := (HQ.out.keep HX.out HQZ.out) 4 _ rfl
      have kq5 := (HQ.out.keep HX.out HQZ.out) 5 _ rfl
      have kq6 := (HQ.out.keep HX.out HQZ.out) 6 _ rfl
      have kp0 := (HP.out.keep HX.out HPZ.out) 0 _ rfl
      have kp1 := (HP.out.keep HX.out HPZ.out) 1 _ rfl
      have kp2 := (HP.out.keep HX.out HPZ.out) 2 _ rfl
      have kp3 := (HP.out.keep HX.out HPZ.out) 3 _ rfl
      have kp4 := (HP.out.keep HX.out HPZ.out) 4 _ rfl
      have kp5 := (HP.out.keep HX.out HPZ.out) 5 _ rfl
      have kp6 := (HP.out.keep HX.out HPZ.out) 6 _ rfl
      have kp7 := (HP.out.keep HX.out HPZ.out) 7 _ rfl
      have b1 := HM.out.code.le
      have b2 := HM.out.code.cap
      by_cases hlt : k < xc.length
      · obtain ⟨ad, e0, hab, hc⟩ := HM.out.code.row.at_ hlt
        have HA4 := Lib.hid e0
        have HM2 : Hid (MthIn w1 w1.heap.size ⟨hx.A0, hx.A1, some ad, hx.A7, hx.k0, hx.k1, hx.k4, hx.k7⟩ ⟨xa, xl, (5, 0), xc, xd, xp, xh⟩) := Lib.hid (by rw [← e0]; exact HM.out)
        try dsimp only at e0
        rw [e0] at kp4
        clear e0
        have HNO := Lib.hid (fun g : (fun i : Int × Int × Int => namedB m ⟨xa, xl, (5, 0), xc, xd, xp, xh⟩ i.1 i.2.1 i.2.2) xc[k] = false => (all_not hlt g : codesB m ⟨xa, xl, (5, 0), xc, xd, xp, xh⟩ = false))
        have HYE := Lib.hid (fun g : (fun i : Int × Int × Int => namedB m ⟨xa, xl, (5, 0), xc, xd, xp, xh⟩ i.1 i.2.1 i.2.2) xc[k] = true => all_take hlt HN.out g)
        have H0 := Lib.hid (HU.out.c _ (List.getElem_mem hlt))
        generalize xc[k] = ins at *
        obtain ⟨op, a, b⟩ := ins
        have HR : Hid (∀ W, Below w1.heap.size w1 W → W.cell? (ad.add (k * 3)) = some (.int .i64 op) ∧ W.cell? (off_ (ad.add (k * 3)) 1) = some (.int .i64 a) ∧ W.cell? (off_ (ad.add (k * 3)) 2) = some (.int .i64 b)) := Lib.hid (fun W hW => CodeAt.keeps (x := (op, a, b)) hc (by rw [addr_add_block]; exact hab) (Nat.le_refl _) (fun _ hq => hW.cell hq))
        obtain ⟨t0, t1, t2⟩ := HR.out _ HX.out
        have HXd := Lib.hid HX.out.drew
        obtain ⟨g, hg⟩ : ∃ g, namedB m ⟨xa, xl, (5, 0), xc, xd, xp, xh⟩ op a b = g := ⟨_, rfl⟩
        have G := Lib.hid hg
        clear hg hc
        cases g
        · have E2 := Lib.hid (show methodB m ⟨xa, xl, (5, 0), xc, xd, xp, xh⟩ = false by unfold methodB; rw [show codesB m ⟨xa, xl, (5, 0), xc, xd, xp, xh⟩ = false from HNO.out G.out]; simp)
          go_wp2_with fail
          go_region_held3 (fun w' => w'.cell? ⟨w.heap.size, 0, none⟩ = some (.slice h.A0 m.classes.length h.c0) ∧ w'.cell? ⟨w.heap.size, 1, none⟩ = some (.slice h.A1 m.statics.length h.c1) ∧ w'.cell? ⟨w.heap.size, 2, none⟩ = some (.slice h.A2 m.ints.length h.c2) ∧ w'.cell? ⟨w.heap.size, 3, none⟩ = some (.slice h.A3 m.methods.length h.c3) ∧ w'.cell? ⟨w.heap.size, 4, none⟩ = some (.slice h.A4 m.entries.length h.c4) ∧ w'.cell? ⟨w.heap.size, 5, none⟩ = some (.int .i64 m.stack) ∧ w'.cell? ⟨w.heap.size, 6, none⟩ = some (.int .i64 m.heap) ∧ w'.cell? ⟨w.heap.size + 1, 0, none⟩ = some (.slice hx.A0 xa.length hx.k0) ∧ w'.cell? ⟨w.heap.size + 1, 1, none⟩ = some (.slice hx.A1 xl.length hx.k1) ∧ w'.cell? ⟨w.heap.size + 1, 2, none⟩ = some (.int .i64 5) ∧ w'.cell? ⟨w.heap.size + 1, 3, none⟩ = some (.int .i64 0) ∧ w'.cell? ⟨w.heap.size + 1, 4, none⟩ = some (.slice (some ad) xc.length hx.k4) ∧ w'.cell? ⟨w.heap.size + 1, 5, none⟩ = some (.int .i64 xd) ∧ w'.cell? ⟨w.heap.size + 1, 6, none⟩ = some (.int .i64 xp) ∧ w'.cell? ⟨w.heap.size + 1, 7, none⟩ = some (.slice hx.A7 xh.length hx.k7) ∧ w'.cell? (ad.add (k * 3)) = some (.int .i64 op) ∧ w'.cell? (off_ (ad.add (k * 3)) 1) = some (.int .i64 a) ∧ w'.cell? (off_ (ad.add (k * 3)) 2) = some (.int .i64 b)) (first | exact ⟨kq0, kq1, kq2, kq3, kq4, kq5, kq6, kp0, kp1, kp2, kp3, kp4, kp5, kp6, kp7, t0, t1, t2⟩) (first | (go_at_call 51; (with_reducible refine (named_is HI HM2 HXd HT HU H0 G).mono ?_); rintro e w5 ⟨rfl, hb⟩; have HX := Lib.hid (HXd.out.trans (hb.mono HXd.out.size)); have kq0 := (HQ.out.keep HX.out HQZ.out) 0 _ rfl; have kq1 := (HQ.out.keep HX.out HQZ.out) 1 _ rfl; have kq2 := (HQ.out.keep HX.out HQZ.out) 2 _ rfl; have kq3 := (HQ.out.keep HX.out HQZ.out) 3 _ rfl; have kq4 := (HQ.out.keep HX.out HQZ.out) 4 _ rfl; have kq5 := (HQ.out.keep HX.out HQZ.out) 5 _ rfl; have kq6 := (HQ.out.keep HX.out HQZ.out) 6 _ rfl; have kp0 := (HP.out.keep HX.out HPZ.out) 0 _ rfl; have kp1 := (HP.out.keep HX.out HPZ.out) 1 _ rfl; have kp2 := (HP.out.keep HX.out HPZ.out) 2 _ rfl; have kp3 := (HP.out.keep HX.out HPZ.out) 3 _ rfl; have kp4 := (HP.out.keep HX.out HPZ.out) 4 _ rfl; have kp5 := (HP.out.keep HX.out HPZ.out) 5 _ rfl; have kp6 := (HP.out.keep HX.out HPZ.out) 6 _ rfl; have kp7 := (HP.out.keep HX.out HPZ.out) 7 _ rfl; rw [HA4.out] at kp4; obtain ⟨t0, t1, t2⟩ := HR.out _ HX.out; clear hb))
          go_wp2_with fail
          go_ret
          exact ⟨by rw [E2.out]; rfl, HW.out.trans (HX.out.mono HZw.out)⟩
        · have E2 := Lib.hid (HYE.out G.out)
          go_wp2_with fail
          go_region_held3 (fun w' => w'.cell? ⟨w.heap.size, 0, none⟩ = some (.slice h.A0 m.classes.length h.c0) ∧ w'.cell? ⟨w.heap.size, 1, none⟩ = some (.slice h.A1 m.statics.length h.c1) ∧ w'.cell? ⟨w.heap.size, 2, none⟩ = some (.slice h.A2 m.ints.length h.c2) ∧ w'.cell? ⟨w.heap.size, 3, none⟩ = some (.slice h.A3 m.methods.length h.c3) ∧ w'.cell? ⟨w.heap.size, 4, none⟩ = some (.slice h.A4 m.entries.length h.c4) ∧ w'.cell? ⟨w.heap.size, 5, none⟩ = some (.int .i64 m.stack) ∧ w'.cell? ⟨w.heap.size, 6, none⟩ = some (.int .i64 m.heap) ∧ w'.cell? ⟨w.heap.size + 1, 0, none⟩ = some (.slice hx.A0 xa.length hx.k0) ∧ w'.cell? ⟨w.heap.size + 1, 1, none⟩ = some (.slice hx.A1 xl.length hx.k1) ∧ w'.cell? ⟨w.heap.size + 1, 2, none⟩ = some (.int .i64 5) ∧ w'.cell? ⟨w.heap.size + 1, 3, none⟩ = some (.int .i64 0) ∧ w'.cell? ⟨w.heap.size + 1, 4, none⟩ = some (.slice (some ad) xc.length hx.k4) ∧ w'.cell? ⟨w.heap.size + 1, 5, none⟩ = some (.int .i64 xd) ∧ w'.cell? ⟨w.heap.size + 1, 6, none⟩ = some (.int .i64 xp) ∧ w'.cell? ⟨w.heap.size + 1, 7, none⟩ = some (.slice hx.A7 xh.length hx.k7) ∧ w'.cell? (ad.add (k * 3)) = some (.int .i64 op) ∧ w'.cell? (off_ (ad.add (k * 3)) 1) = some (.int .i64 a) ∧ w'.cell? (off_ (ad.add (k * 3)) 2) = some (.int .i64 b)) (first | exact ⟨kq0, kq1, kq2, kq3, kq4, kq5, kq6, kp0, kp1, kp2, kp3, kp4, kp5, kp6, kp7, t0, t1, t2⟩) (first | (go_at_call 51; (with_reducible refine (named_is HI HM2 HXd HT HU H0 G).mono ?_); rintro e w5 ⟨rfl, hb⟩; have HX := Lib.hid (HXd.out.trans (hb.mono HXd.out.size)); have kq0 := (HQ.out.keep HX.out HQZ.out) 0 _ rfl; have kq1 := (HQ.out.keep HX.out HQZ.out) 1 _ rfl; have kq2 := (HQ.out.keep HX.out HQZ.out) 2 _ rfl; have kq3 := (HQ.out.keep HX.out HQZ.out) 3 _ rfl; have kq4 := (HQ.out.keep HX.out HQZ.out) 4 _ rfl; have kq5 := (HQ.out.keep HX.out HQZ.out) 5 _ rfl; have kq6 := (HQ.out.keep HX.out HQZ.out) 6 _ rfl; have kp0 := (HP.out.keep HX.out HPZ.out) 0 _ rfl; have kp1 := (HP.out.keep HX.out HPZ.out) 1 _ rfl; have kp2 := (HP.out.keep HX.out HPZ.out) 2 _ rfl; have kp3 := (HP.out.keep HX.out HPZ.out) 3 _ rfl; have kp4 := (HP.out.keep HX.out HPZ.out) 4 _ rfl; have kp5 := (HP.out.keep HX.out HPZ.out) 5 _ rfl; have kp6 := (HP.out.keep HX.out HPZ.out) 6 _ rfl; have kp7 := (HP.out.keep HX.out HPZ.out) 7 _ rfl; rw [HA4.out] at kp4; obtain ⟨t0, t1, t2⟩ := HR.out _ HX.out; clear hb))
          go_wp2_with fail
          go_roundw
          case rel => exact ⟨k + 1, by omega, by go_num, E2, HX⟩
          case measure => simp [intOf]; omega
      · have HCA := Lib.hid (show codesB m ⟨xa, xl, (5, 0), xc, xd, xp, xh⟩ = true from all_end (l := xc) HN.out (by omega))
        have E2 := Lib.hid (show methodB m ⟨xa, xl, (5, 0), xc, xd, xp, xh⟩ = true by unfold methodB; rw [D1.out, D2.out, HRB.out, HCA.out, decide_eq_true Cc1.out, decide_eq_true Cc2.out, decide_eq_true Cc3.out]; rfl)
        go_wp2_with fail
        go_ret
        exact ⟨by rw [E2.out]; rfl, HW.out.trans (HX.out.mono HZw.out)⟩
  · have hxx : ¬ xr0 = 5 ∨ (xr0 = 5 ∧ ¬ xr1 = 0) := by omega
    have HRB0 := Lib.hid (show retB (xr0, xr1) m.classes.length = goodB xr0 xr1 m.classes.length by unfold retB; rw [decide_eq_false (by simpa using hr5)]; rfl)
    clear hr5
    obtain ⟨d3, hd3⟩ : ∃ d, goodB xr0 xr1 m.classes.length = d := ⟨_, rfl⟩
    have D3 := Lib.hid hd3
    rw [hd3] at HRB0
    clear hd3
    cases d3
    · rcases hxx with hxx | ⟨rfl, hxx⟩
      · have E2 := Lib.hid (show methodB m ⟨xa, xl, (xr0, xr1), xc, xd, xp, xh⟩ = false by unfold methodB; rw [D1.out, D2.out, HRB0.out]; rfl)
        go_wp2_with (first | (go_at_call 28; (with_reducible refine (goods_is HI HSa HX D1).mono ?_); rintro e w5 ⟨rfl, hb⟩; have HX := Lib.hid (HX.out.trans (hb.mono HX.out.size)); have kq0 := (HQ.out.keep HX.out HQZ.out) 0 _ rfl; have kq1 := (HQ.out.keep HX.out HQZ.out) 1 _ rfl; have kq2 := (HQ.out.keep HX.out HQZ.out) 2 _ rfl; have kq3 := (HQ.out.keep HX.out HQZ.out) 3 _ rfl; have kq4 := (HQ.out.keep HX.out HQZ.out) 4 _ rfl; have kq5 := (HQ.out.keep HX.out HQZ.out) 5 _ rfl; have kq6 := (HQ.out.keep HX.out HQZ.out) 6 _ rfl; have kp0 := (HP.out.keep HX.out HPZ.out) 0 _ rfl; have kp1 := (HP.out.keep HX.out HPZ.out) 1 _ rfl; have kp2 := (HP.out.keep HX.out HPZ.out) 2 _ rfl; have kp3 := (HP.out.keep HX.out HPZ.out) 3 _ rfl; have kp4 := (HP.out.keep HX.out HPZ.out) 4 _ rfl; have kp5 := (HP.out.keep HX.out HPZ.out) 5 _ rfl; have kp6 := (HP.out.keep HX.out HPZ.out) 6 _ rfl; have kp7 := (HP.out.keep HX.out HPZ.out) 7 _ rfl; clear hb) | (go_at_call 28; (with_reducible refine (goods_is HI HSl HX D2).mono ?_); rintro e w5 ⟨rfl, hb⟩; have HX := Lib.hid (HX.out.trans (hb.mono HX.out.size)); have kq0 := (HQ.out.keep HX.out HQZ.out) 0 _ rfl; have kq1 := (HQ.out.keep HX.out HQZ.out) 1 _ rfl; have kq2 := (HQ.out.keep HX.out HQZ.out) 2 _ rfl; have kq3 := (HQ.out.keep HX.out HQZ.out) 3 _ rfl; have kq4 := (HQ.out.keep HX.out HQZ.out) 4 _ rfl; have kq5 := (HQ.out.keep HX.out HQZ.out) 5 _ rfl; have kq6 := (HQ.out.keep HX.out HQZ.out) 6 _ rfl; have kp0 := (HP.out.keep HX.out HPZ.out) 0 _ rfl; have kp1 := (HP.out.keep HX.out HPZ.out) 1 _ rfl; have kp2 := (HP.out.keep HX.out HPZ.out) 2 _ rfl; have kp3 := (HP.out.keep HX.out HPZ.out) 3 _ rfl; have kp4 := (HP.out.keep HX.out HPZ.out) 4 _ rfl; have kp5 := (HP.out.keep HX.out HPZ.out) 5 _ rfl; have kp6 := (HP.out.keep HX.out HPZ.out) 6 _ rfl; have kp7 := (HP.out.keep HX.out HPZ.out) 7 _ rfl; clear hb) | (go_at_call 48; (with_reducible refine (good_is D3).mono ?_); rintro e w5 ⟨rfl, hb⟩; have HX := Lib.hid (HX.out.trans (hb.mono HX.out.size)); have kq0 := (HQ.out.keep HX.out HQZ.out) 0 _ rfl; have kq1 := (HQ.out.keep HX.out HQZ.out) 1 _ rfl; have kq2 := (HQ.out.keep HX.out HQZ.out) 2 _ rfl; have kq3 := (HQ.out.keep HX.out HQZ.out) 3 _ rfl; have kq4 := (HQ.out.keep HX.out HQZ.out) 4 _ rfl; have kq5 := (HQ.out.keep HX.out HQZ.out) 5 _ rfl; have kq6 := (HQ.out.keep HX.out HQZ.out) 6 _ rfl; have kp0 := (HP.out.keep HX.out HPZ.out) 0 _ rfl; have kp1 := (HP.out.keep HX.out HPZ.out) 1 _ rfl; have kp2 := (HP.out.keep HX.out HPZ.out) 2 _ rfl; have kp3 := (HP.out.keep HX.out HPZ.out) 3 _ rfl; have kp4 := (HP.out.keep HX.out HPZ.out) 4 _ rfl; have kp5 := (HP.out.keep HX.out HPZ.out) 5 _ rfl; have kp6 := (HP.out.keep HX.out HPZ.out) 6 _ rfl; have kp7 := (HP.out.keep HX.out HPZ.out) 7 _ rfl; clear hb))
        go_ret
        exact ⟨by rw [E2.out]; rfl, HW.out.trans (HX.out.mono HZw.out)⟩
      · have E2 := Lib.hid (show methodB m ⟨xa, xl, (5, xr1), xc, xd, xp, xh⟩ = false by unfold methodB; rw [D1.out, D2.out, HRB0.out]; rfl)
        go_wp2_with (first | (go_at_call 28; (with_reducible refine (goods_is HI HSa HX D1).mono ?_); rintro e w5 ⟨rfl, hb⟩; have HX := Lib.hid (HX.out.trans (hb.mono HX.out.size)); have kq0 := (HQ.out.keep HX.out HQZ.out) 0 _ rfl; have kq1 := (HQ.out.keep HX.out HQZ.out) 1 _ rfl; have kq2 := (HQ.out.keep HX.out HQZ.out) 2 _ rfl; have kq3 := (HQ.out.keep HX.out HQZ.out) 3 _ rfl; have kq4 := (HQ.out.keep HX.out HQZ.out) 4 _ rfl; have kq5 := (HQ.out.keep HX.out HQZ.out) 5 _ rfl; have kq6 := (HQ.out.keep HX.out HQZ.out) 6 _ rfl; have kp0 := (HP.out.keep HX.out HPZ.out) 0 _ rfl; have kp1 := (HP.out.keep HX.out HPZ.out) 1 _ rfl; have kp2 := (HP.out.keep HX.out HPZ.out) 2 _ rfl; have kp3 := (HP.out.keep HX.out HPZ.out) 3 _ rfl; have kp4 := (HP.out.keep HX.out HPZ.out) 4 _ rfl; have kp5 := (HP.out.keep HX.out HPZ.out) 5 _ rfl; have kp6 := (HP.out.keep HX.out HPZ.out) 6 _ rfl; have kp7 := (HP.out.keep HX.out HPZ.out) 7 _ rfl; clear hb) | (go_at_call 28; (with_reducible refine (goods_is HI HSl HX D2).mono ?_); rintro e w5 ⟨rfl, hb⟩; have HX := Lib.hid (HX.out.trans (hb.mono HX.out.size)); have kq0 := (HQ.out.keep HX.out HQZ.out) 0 _ rfl; have kq1 := (HQ.out.keep HX.out HQZ.out) 1 _ rfl; have kq2 := (HQ.out.keep HX.out HQZ.out) 2 _ rfl; have kq3 := (HQ.out.keep HX.out HQZ.out) 3 _ rfl; have kq4 := (HQ.out.keep HX.out HQZ.out) 4 _ rfl; have kq5 := (HQ.out.keep HX.out HQZ.out) 5 _ rfl; have kq6 := (HQ.out.keep HX.out HQZ.out) 6 _ rfl; have kp0 := (HP.out.keep HX.out HPZ.out) 0 _ rfl; have kp1 := (HP.out.keep HX.out HPZ.out) 1 _ rfl; have kp2 := (HP.out.keep HX.out HPZ.out) 2 _ rfl; have kp3 := (HP.out.keep HX.out HPZ.out) 3 _ rfl; have kp4 := (HP.out.keep HX.out HPZ.out) 4 _ rfl; have kp5 := (HP.out.keep HX.out HPZ.out) 5 _ rfl; have kp6 := (HP.out.keep HX.out HPZ.out) 6 _ rfl; have kp7 := (HP.out.keep HX.out HPZ.out) 7 _ rfl; clear hb) | (go_at_call 48; (with_reducible refine (good_is D3).mono ?_); rintro e w5 ⟨rfl, hb⟩; have HX := Lib.hid (HX.out.trans (hb.mono HX.out.size)); have kq0 := (HQ.out.keep HX.out HQZ.out) 0 _ rfl; have kq1 := (HQ.out.keep HX.out HQZ.out) 1 _ rfl; have kq2 := (HQ.out.keep HX.out HQZ.out) 2 _ rfl; have kq3 := (HQ.out.keep HX.out HQZ.out) 3 _ rfl; have kq4 := (HQ.out.keep HX.out HQZ.out) 4 _ rfl; have kq5 := (HQ.out.keep HX.out HQZ.out) 5 _ rfl; have kq6 := (HQ.out.keep HX.out HQZ.out) 6 _ rfl; have kp0 := (HP.out.keep HX.out HPZ.out) 0 _ rfl; have kp1 := (HP.out.keep HX.out HPZ.out) 1 _ rfl; have kp2 := (HP.out.keep HX.out HPZ.out) 2 _ rfl; have kp3 := (HP.out.keep HX.out HPZ.out) 3 _ rfl; have kp4 := (HP.out.keep HX.out HPZ.out) 4 _ rfl; have kp5 := (HP.out.keep HX.out HPZ.out) 5 _ rfl; have kp6 := (HP.out.keep HX.out HPZ.out) 6 _ rfl; have kp7 := (HP.out.keep HX.out HPZ.out) 7 _ rfl; clear hb))
        go_ret
        exact ⟨by rw [E2.out]; rfl, HW.out.trans (HX.out.mono HZw.out)⟩
    · have HRB := HRB0
      rcases hxx with hxx | ⟨rfl, hxx⟩
      · by_cases c1 : ¬ xc.length = 0
        rotate_left
        · have ct1 : ((xc.length : Int) == 0) = true := beq_iff_eq.mpr (by omega)
          have E2 := Lib.hid (show methodB m ⟨xa, xl, (xr0, xr1), xc, xd, xp, xh⟩ = false by unfold methodB; rw [decide_eq_false (by simpa using c1)]; simp)
          go_wp2_with (first | (go_at_call 28; (with_reducible refine (goods_is HI HSa HX D1).mono ?_); rintro e w5 ⟨rfl, hb⟩; have HX := Lib.hid (HX.out.trans (hb.mono HX.out.size)); have kq0 := (HQ.out.keep HX.out HQZ.out) 0 _ rfl; have kq1 := (HQ.out.keep HX.out HQZ.out) 1 _ rfl; have kq2 := (HQ.out.keep HX.out HQZ.out) 2 _ rfl; have kq3 := (HQ.out.keep HX.out HQZ.out) 3 _ rfl; have kq4 := (HQ.out.keep HX.out HQZ.out) 4 _ rfl; have kq5 := (HQ.out.keep HX.out HQZ.out) 5 _ rfl; have kq6 := (HQ.out.keep HX.out HQZ.out) 6 _ rfl; have kp0 := (HP.out.keep HX.out HPZ.out) 0 _ rfl; have kp1 := (HP.out.keep HX.out HPZ.out) 1 _ rfl; have kp2 := (HP.out.keep HX.out HPZ.out) 2 _ rfl; have kp3 := (HP.out.keep HX.out HPZ.out) 3 _ rfl; have kp4 := (HP.out.keep HX.out HPZ.out) 4 _ rfl; have kp5 := (HP.out.keep HX.out HPZ.out) 5 _ rfl; have kp6 := (HP.out.keep HX.out HPZ.out) 6 _ rfl; have kp7 := (HP.out.keep HX.out HPZ.out) 7 _ rfl; clear hb) | (go_at_call 28; (with_reducible refine (goods_is HI HSl HX D2).mono ?_); rintro e w5 ⟨rfl, hb⟩; have HX := Lib.hid (HX.out.trans (hb.mono HX.out.size)); have kq0 := (HQ.out.keep HX.out HQZ.out) 0 _ rfl; have kq1 := (HQ.out.keep HX.out HQZ.out) 1 _ rfl; have kq2 := (HQ.out.keep HX.out HQZ.out) 2 _ rfl; have kq3 := (HQ.out.keep HX.out HQZ.out) 3 _ rfl; have kq4 := (HQ.out.keep HX.out HQZ.out) 4 _ rfl; have kq5 := (HQ.out.keep HX.out HQZ.out) 5 _ rfl; have kq6 := (HQ.out.keep HX.out HQZ.out) 6 _ rfl; have kp0 := (HP.out.keep HX.out HPZ.out) 0 _ rfl; have kp1 := (HP.out.keep HX.out HPZ.out) 1 _ rfl; have kp2 := (HP.out.keep HX.out HPZ.out) 2 _ rfl; have kp3 := (HP.out.keep HX.out HPZ.out) 3 _ rfl; have kp4 := (HP.out.keep HX.out HPZ.out) 4 _ rfl; have kp5 := (HP.out.keep HX.out HPZ.out) 5 _ rfl; have kp6 := (HP.out.keep HX.out HPZ.out) 6 _ rfl; have kp7 := (HP.out.keep HX.out HPZ.out) 7 _ rfl; clear hb) | (go_at_call 48; (with_reducible refine (good_is D3).mono ?_); rintro e w5 ⟨rfl, hb⟩; have HX := Lib.hid (HX.out.trans (hb.mono HX.out.size)); have kq0 := (HQ.out.keep HX.out HQZ.out) 0 _ rfl; have kq1 := (HQ.out.keep HX.out HQZ.out) 1 _ rfl; have kq2 := (HQ.out.keep HX.out HQZ.out) 2 _ rfl; have kq3 := (HQ.out.keep HX.out HQZ.out) 3 _ rfl; have kq4 := (HQ.out.keep HX.out HQZ.out) 4 _ rfl; have kq5 := (HQ.out.keep HX.out HQZ.out) 5 _ rfl; have kq6 := (HQ.out.keep HX.out HQZ.out) 6 _ rfl; have kp0 := (HP.out.keep HX.out HPZ.out) 0 _ rfl; have kp1 := (HP.out.keep HX.out HPZ.out) 1 _ rfl; have kp2 := (HP.out.keep HX.out HPZ.out) 2 _ rfl; have kp3 := (HP.out.keep HX.out HPZ.out) 3 _ rfl; have kp4 := (HP.out.keep HX.out HPZ.out) 4 _ rfl; have kp5 := (HP.out.keep HX.out HPZ.out) 5 _ rfl; have kp6 := (HP.out.keep HX.out HPZ.out) 6 _ rfl; have kp7 := (HP.out.keep HX.out HPZ.out) 7 _ rfl; clear hb))
          go_ret
          exact ⟨by rw [E2.out]; rfl, HW.out.trans (HX.out.mono HZw.out)⟩
        have ct1 : ((xc.length : Int) == 0) = false := beq_eq_false_iff_ne.mpr (by omega)
        have Cc1 := Lib.hid c1
        clear c1
        by_cases c2 : xh.length = xc.length
        rotate_left
        · have ct2 : ((xh.length : Int) != (xc.length : Int)) = true := bne_iff_ne.mpr (by omega)
          have E2 := Lib.hid (show methodB m ⟨xa, xl, (xr0, xr1), xc, xd, xp, xh⟩ = false by unfold methodB; rw [decide_eq_false (p := xh.length = xc.length) c2]; simp)
          go_wp2_with (first | (go_at_call 28; (with_reducible refine (goods_is HI HSa HX D1).mono ?_); rintro e w5 ⟨rfl, hb⟩; have HX := Lib.hid (HX.out.trans (hb.mono HX.out.size)); have kq0 := (HQ.out.keep HX.out HQZ.out) 0 _ rfl; have kq1 := (HQ.out.keep HX.out HQZ.out) 1 _ rfl; have kq2 := (HQ.out.keep HX.out HQZ.out) 2 _ rfl; have kq3 := (HQ.out.keep HX.out HQZ.out) 3 _ rfl; have kq4 := (HQ.out.keep HX.out HQZ.out) 4 _ rfl; have kq5 := (HQ.out.keep HX.out HQZ.out) 5 _ rfl; have kq6 := (HQ.out.keep HX.out HQZ.out) 6 _ rfl; have kp0 := (HP.out.keep HX.out HPZ.out) 0 _ rfl; have kp1 := (HP.out.keep HX.out HPZ.out) 1 _ rfl; have kp2 := (HP.out.keep HX.out HPZ.out) 2 _ rfl; have kp3 := (HP.out.keep HX.out HPZ.out) 3 _ rfl; have kp4 := (HP.out.keep HX.out HPZ.out) 4 _ rfl; have kp5 := (HP.out.keep HX.out HPZ.out) 5 _ rfl; have kp6 := (HP.out.keep HX.out HPZ.out) 6 _ rfl; have kp7 := (HP.out.keep HX.out HPZ.out) 7 _ rfl; clear hb) | (go_at_call 28; (with_reducible refine (goods_is HI HSl HX D2).mono ?_); rintro e w5 ⟨rfl, hb⟩; have HX := Lib.hid (HX.out.trans (hb.mono HX.out.size)); have kq0 := (HQ.out.keep HX.out HQZ.out) 0 _ rfl; have kq1 := (HQ.out.keep HX.out HQZ.out) 1 _ rfl; have kq2 := (HQ.out.keep HX.out HQZ.out) 2 _ rfl; have kq3 := (HQ.out.keep HX.out HQZ.out) 3 _ rfl; have kq4 := (HQ.out.keep HX.out HQZ.out) 4 _ rfl; have kq5 := (HQ.out.keep HX.out HQZ.out) 5 _ rfl; have kq6 := (HQ.out.keep HX.out HQZ.out) 6 _ rfl; have kp0 := (HP.out.keep HX.out HPZ.out) 0 _ rfl; have kp1 := (HP.out.keep HX.out HPZ.out) 1 _ rfl; have kp2 := (HP.out.keep HX.out HPZ.out) 2 _ rfl; have kp3 := (HP.out.keep HX.out HPZ.out) 3 _ rfl; have kp4 := (HP.out.keep HX.out HPZ.out) 4 _ rfl; have kp5 := (HP.out.keep HX.out HPZ.out) 5 _ rfl; have kp6 := (HP.out.keep HX.out HPZ.out) 6 _ rfl; have kp7 := (HP.out.keep HX.out HPZ.out) 7 _ rfl; clear hb) | (go_at_call 48; (with_reducible refine (good_is D3).mono ?_); rintro e w5 ⟨rfl, hb⟩; have HX := Lib.hid (HX.out.trans (hb.mono HX.out.size)); have kq0 := (HQ.out.keep HX.out HQZ.out) 0 _ rfl; have kq1 := (HQ.out.keep HX.out HQZ.out) 1 _ rfl; have kq2 := (HQ.out.keep HX.out HQZ.out) 2 _ rfl; have kq3 := (HQ.out.keep HX.out HQZ.out) 3 _ rfl; have kq4 := (HQ.out.keep HX.out HQZ.out) 4 _ rfl; have kq5 := (HQ.out.keep HX.out HQZ.out) 5 _ rfl; have kq6 := (HQ.out.keep HX.out HQZ.out) 6 _ rfl; have kp0 := (HP.out.keep HX.out HPZ.out) 0 _ rfl; have kp1 := (HP.out.keep HX.out HPZ.out) 1 _ rfl; have kp2 := (HP.out.keep HX.out HPZ.out) 2 _ rfl; have kp3 := (HP.out.keep HX.out HPZ.out) 3 _ rfl; have kp4 := (HP.out.keep HX.out HPZ.out) 4 _ rfl; have kp5 := (HP.out.keep HX.out HPZ.out) 5 _ rfl; have kp6 := (HP.out.keep HX.out HPZ.out) 6 _ rfl; have kp7 := (HP.out.keep HX.out HPZ.out) 7 _ rfl; clear hb))
          go_ret
          exact ⟨by rw [E2.out]; rfl, HW.out.trans (HX.out.mono HZw.out)⟩
        have ct2 : ((xh.length : Int) != (xc.length : Int)) = false := bne_eq_false_iff_eq.mpr (by omega)
        have Cc2 := Lib.hid c2
        clear c2
        by_cases c3 : xa.length + xl.length ≤ 8
        rotate_left
        · have ct3 : (8 : Int) < (xa.length : Int) + (xl.length : Int) := by omega
          have E2 := Lib.hid (show methodB m ⟨xa, xl, (xr0, xr1), xc, xd, xp, xh⟩ = false by unfold methodB; rw [decide_eq_false (p := xa.length + xl.length ≤ 8) c3]; simp)
          go_wp2_with (first | (go_at_call 28; (with_reducible refine (goods_is HI HSa HX D1).mono ?_); rintro e w5 ⟨rfl, hb⟩; have HX := Lib.hid (HX.out.trans (hb.mono HX.out.size)); have kq0 := (HQ.out.keep HX.out HQZ.out) 0 _ rfl; have kq1 := (HQ.out.keep HX.out HQZ.out) 1 _ rfl; have kq2 := (HQ.out.keep HX.out HQZ.out) 2 _ rfl; have kq3 := (HQ.out.keep HX.out HQZ.out) 3 _ rfl; have kq4 := (HQ.out.keep HX.out HQZ.out) 4 _ rfl; have kq5 := (HQ.out.keep HX.out HQZ.out) 5 _ rfl; have kq6 := (HQ.out.keep HX.out HQZ.out) 6 _ rfl; have kp0 := (HP.out.keep HX.out HPZ.out) 0 _ rfl; have kp1 := (HP.out.keep HX.out HPZ.out) 1 _ rfl; have kp2 := (HP.out.keep HX.out HPZ.out) 2 _ rfl; have kp3 := (HP.out.keep HX.out HPZ.out) 3 _ rfl; have kp4 := (HP.out.keep HX.out HPZ.out) 4 _ rfl; have kp5 := (HP.out.keep HX.out HPZ.out) 5 _ rfl; have kp6 := (HP.out.keep HX.out HPZ.out) 6 _ rfl; have kp7 := (HP.out.keep HX.out HPZ.out) 7 _ rfl; clear hb) | (go_at_call 28; (with_reducible refine (goods_is HI HSl HX D2).mono ?_); rintro e w5 ⟨rfl, hb⟩; have HX := Lib.hid (HX.out.trans (hb.mono HX.out.size)); have kq0 := (HQ.out.keep HX.out HQZ.out) 0 _ rfl; have kq1 := (HQ.out.keep HX.out HQZ.out) 1 _ rfl; have kq2 := (HQ.out.keep HX.out HQZ.out) 2 _ rfl; have kq3 := (HQ.out.keep HX.out HQZ.out) 3 _ rfl; have kq4 := (HQ.out.keep HX.out HQZ.out) 4 _ rfl; have kq5 := (HQ.out.keep HX.out HQZ.out) 5 _ rfl; have kq6 := (HQ.out.keep HX.out HQZ.out) 6 _ rfl; have kp0 := (HP.out.keep HX.out HPZ.out) 0 _ rfl; have kp1 := (HP.out.keep HX.out HPZ.out) 1 _ rfl; have kp2 := (HP.out.keep HX.out HPZ.out) 2 _ rfl; have kp3 := (HP.out.keep HX.out HPZ.out) 3 _ rfl; have kp4 := (HP.out.keep HX.out HPZ.out) 4 _ rfl; have kp5 := (HP.out.keep HX.out HPZ.out) 5 _ rfl; have kp6 := (HP.out.keep HX.out HPZ.out) 6 _ rfl; have kp7 := (HP.out.keep HX.out HPZ.out) 7 _ rfl; clear hb) | (go_at_call 48; (with_reducible refine (good_is D3).mono ?_); rintro e w5 ⟨rfl, hb⟩; have HX := Lib.hid (HX.out.trans (hb.mono HX.out.size)); have kq0 := (HQ.out.keep HX.out HQZ.out) 0 _ rfl; have kq1 := (HQ.out.keep HX.out HQZ.out) 1 _ rfl; have kq2 := (HQ.out.keep HX.out HQZ.out) 2 _ rfl; have kq3 := (HQ.out.keep HX.out HQZ.out) 3 _ rfl; have kq4 := (HQ.out.keep HX.out HQZ.out) 4 _ rfl; have kq5 := (HQ.out.keep HX.out HQZ.out) 5 _ rfl; have kq6 := (HQ.out.keep HX.out HQZ.out) 6 _ rfl; have kp0 := (HP.out.keep HX.out HPZ.out) 0 _ rfl; have kp1 := (HP.out.keep HX.out HPZ.out) 1 _ rfl; have kp2 := (HP.out.keep HX.out HPZ.out) 2 _ rfl; have kp3 := (HP.out.keep HX.out HPZ.out) 3 _ rfl; have kp4 := (HP.out.keep HX.out HPZ.out) 4 _ rfl; have kp5 := (HP.out.keep HX.out HPZ.out) 5 _ rfl; have kp6 := (HP.out.keep HX.out HPZ.out) 6 _ rfl; have kp7 := (HP.out.keep HX.out HPZ.out) 7 _ rfl; clear hb))
          go_ret
          exact ⟨by rw [E2.out]; rfl, HW.out.trans (HX.out.mono HZw.out)⟩
        have ct3 : ¬ (8 : Int) < (xa.length : Int) + (xl.length : Int) := by omega
        have Cc3 := Lib.hid c3
        clear c3
        go_wp2_with (first | (go_at_call 28; (with_reducible refine (goods_is HI HSa HX D1).mono ?_); rintro e w5 ⟨rfl, hb⟩; have HX := Lib.hid (HX.out.trans (hb.mono HX.out.size)); have kq0 := (HQ.out.keep HX.out HQZ.out) 0 _ rfl; have kq1 := (HQ.out.keep HX.out HQZ.out) 1 _ rfl; have kq2 := (HQ.out.keep HX.out HQZ.out) 2 _ rfl; have kq3 := (HQ.out.keep HX.out HQZ.out) 3 _ rfl; have kq4 := (HQ.out.keep HX.out HQZ.out) 4 _ rfl; have kq5 := (HQ.out.keep HX.out HQZ.out) 5 _ rfl; have kq6 := (HQ.out.keep HX.out HQZ.out) 6 _ rfl; have kp0 := (HP.out.keep HX.out HPZ.out) 0 _ rfl; have kp1 := (HP.out.keep HX.out HPZ.out) 1 _ rfl; have kp2 := (HP.out.keep HX.out HPZ.out) 2 _ rfl; have kp3 := (HP.out.keep HX.out HPZ.out) 3 _ rfl; have kp4 := (HP.out.keep HX.out HPZ.out) 4 _ rfl; have kp5 := (HP.out.keep HX.out HPZ.out) 5 _ rfl; have kp6 := (HP.out.keep HX.out HPZ.out) 6 _ rfl; have kp7 := (HP.out.keep HX.out HPZ.out) 7 _ rfl; clear hb) | (go_at_call 28; (with_reducible refine (goods_is HI HSl HX D2).mono ?_); rintro e w5 ⟨rfl, hb⟩; have HX := Lib.hid (HX.out.trans (hb.mono HX.out.size)); have kq0 := (HQ.out.keep HX.out HQZ.out) 0 _ rfl; have kq1 := (HQ.out.keep HX.out HQZ.out) 1 _ rfl; have kq2 := (HQ.out.keep HX.out HQZ.out) 2 _ rfl; have kq3 := (HQ.out.keep HX.out HQZ.out) 3 _ rfl; have kq4 := (HQ.out.keep HX.out HQZ.out) 4 _ rfl; have kq5 := (HQ.out.keep HX.out HQZ.out) 5 _ rfl; have kq6 := (HQ.out.keep HX.out HQZ.out) 6 _ rfl; have kp0 := (HP.out.keep HX.out HPZ.out) 0 _ rfl; have kp1 := (HP.out.keep HX.out HPZ.out) 1 _ rfl; have kp2 := (HP.out.keep HX.out HPZ.out) 2 _ rfl; have kp3 := (HP.out.keep HX.out HPZ.out) 3 _ rfl; have kp4 := (HP.out.keep HX.out HPZ.out) 4 _ rfl; have kp5 := (HP.out.keep HX.out HPZ.out) 5 _ rfl; have kp6 := (HP.out.keep HX.out HPZ.out) 6 _ rfl; have kp7 := (HP.out.keep HX.out HPZ.out) 7 _ rfl; clear hb) | (go_at_call 48; (with_reducible refine (good_is D3).mono ?_); rintro e w5 ⟨rfl, hb⟩; have HX := Lib.hid (HX.out.trans (hb.mono HX.out.size)); have kq0 := (HQ.out.keep HX.out HQZ.out) 0 _ rfl; have kq1 := (HQ.out.keep HX.out HQZ.out) 1 _ rfl; have kq2 := (HQ.out.keep HX.out HQZ.out) 2 _ rfl; have kq3 := (HQ.out.keep HX.out HQZ.out) 3 _ rfl; have kq4 := (HQ.out.keep HX.out HQZ.out) 4 _ rfl; have kq5 := (HQ.out.keep HX.out HQZ.out) 5 _ rfl; have kq6 := (HQ.out.keep HX.out HQZ.out) 6 _ rfl; have kp0 := (HP.out.keep HX.out HPZ.out) 0 _ rfl; have kp1 := (HP.out.keep HX.out HPZ.out) 1 _ rfl; have kp2 := (HP.out.keep HX.out HPZ.out) 2 _ rfl; have kp3 := (HP.out.keep HX.out HPZ.out) 3 _ rfl; have kp4 := (HP.out.keep HX.out HPZ.out) 4 _ rfl; have kp5 := (HP.out.keep HX.out HPZ.out) 5 _ rfl; have kp6 := (HP.out.keep HX.out HPZ.out) 6 _ rfl; have kp7 := (HP.out.keep HX.out HPZ.out) 7 _ rfl; clear hb))
        go_loopw [5] (fun i wr => ∃ k : Nat, k ≤ xc.length ∧ i = .int .i64 k ∧ Hid (∀ i ∈ xc.take k, namedB m ⟨xa, xl, (xr0, xr1), xc, xd, xp, xh⟩ i.1 i.2.1 i.2.2 = true) ∧ Hid (Below w1.heap.size w1 wr)) (fun i _ => xc.length - (intOf i).toNat)
        case atStart => exact ⟨0, by omega, rfl, Lib.hid (by simp), HX⟩
        case round =>
          clear HX kq0 kq1 kq2 kq3 kq4 kq5 kq6 kp0 kp1 kp2 kp3 kp4 kp5 kp6 kp7
          obtain ⟨k, hk, rfl, HN, HX⟩ := hrel
          have kq0 := (HQ.out.keep HX.out HQZ.out) 0 _ rfl
          have kq1 := (HQ.out.keep HX.out HQZ.out) 1 _ rfl
          have kq2 := (HQ.out.keep HX.out HQZ.out) 2 _ rfl
          have kq3 := (HQ.out.keep HX.out HQZ.out) 3 _ rfl
          have kq4 := (HQ.out.keep HX.out HQZ.out) 4 _ rfl
          have kq5 := (HQ.out.keep HX.out HQZ.out) 5 _ rfl
          have kq6 := (HQ.out.keep HX.out HQZ.out) 6 _ rfl
          have kp0 := (HP.out.keep HX.out HPZ.out) 0 _ rfl
          have kp1 := (HP.out.keep HX.out HPZ.out) 1 _ rfl
          have kp2 := (HP.out.keep HX.out HPZ.out) 2 _ rfl
          have kp3 := (HP.out.keep HX.out HPZ.out) 3 _ rfl
          have kp4 := (HP.out.keep HX.out HPZ.out) 4 _ rfl
          have kp5 := (HP.out.keep HX.out HPZ.out) 5 _ rfl
          have kp6 := (HP.out.keep HX.out HPZ.out) 6 _ rfl
          have kp7 := (HP.out.keep HX.out HPZ.out) 7 _ rfl
          have b1 := HM.out.code.le
          have b2 := HM.out.code.cap
          by_cases hlt : k < xc.length
          · obtain ⟨ad, e0, hab, hc⟩ := HM.out.code.row.at_ hlt
            have HA4 := Lib.hid e0
            have HM2 : Hid (MthIn w1 w1.heap.size ⟨hx.A0, hx.A1, some ad, hx.A7, hx.k0, hx.k1, hx.k4, hx.k7⟩ ⟨xa, xl, (xr0, xr1), xc, xd, xp, xh⟩) := Lib.hid (by rw [← e0]; exact HM.out)
            try dsimp only at e0
            rw [e0] at kp4
            clear e0
            have HNO := Lib.hid (fun g : (fun i : Int × Int × Int => namedB m ⟨xa, xl, (xr0, xr1), xc, xd, xp, xh⟩ i.1 i.2.1 i.2.2) xc[k] = false => (all_not hlt g : codesB m ⟨xa, xl, (xr0, xr1), xc, xd, xp, xh⟩ = false))
            have HYE := Lib.hid (fun g : (fun i : Int × Int × Int => namedB m ⟨xa, xl, (xr0, xr1), xc, xd, xp, xh⟩ i.1 i.2.1 i.2.2) xc[k] = true => all_take hlt HN.out g)
            have H0 := Lib.hid (HU.out.c _ (List.getElem_mem hlt))
            generalize xc[k] = ins at *
            obtain ⟨op, a, b⟩ := ins
            have HR : Hid (∀ W, Below w1.heap.size w1 W → W.cell? (ad.add (k * 3)) = some (.int .i64 op) ∧ W.cell? (off_ (ad.add (k * 3)) 1) = some (.int .i64 a) ∧ W.cell? (off_ (ad.add (k * 3)) 2) = some (.int .i64 b)) := Lib.hid (fun W hW => CodeAt.keeps (x := (op, a, b)) hc (by rw [addr_add_block]; exact hab) (Nat.le_refl _) (fun _ hq => hW.cell hq))
            obtain ⟨t0, t1, t2⟩ := HR.out _ HX.out
            have HXd := Lib.hid HX.out.drew
            obtain ⟨g, hg⟩ : ∃ g, namedB m ⟨xa, xl, (xr0, xr1), xc, xd, xp, xh⟩ op a b = g := ⟨_, rfl⟩
            have G := Lib.hid hg
            clear hg hc
            cases g
            · have E2 := Lib.hid (show methodB m ⟨xa, xl, (xr0, xr1), xc, xd, xp, xh⟩ = false by unfold methodB; rw [show codesB m ⟨xa, xl, (xr0, xr1), xc, xd, xp, xh⟩ = false from HNO.out G.out]; simp)
              go_wp2_with fail
              go_region_held3 (fun w' => w'.cell? ⟨w.heap.size, 0, none⟩ = some (.slice h.A0 m.classes.length h.c0) ∧ w'.cell? ⟨w.heap.size, 1, none⟩ = some (.slice h.A1 m.statics.length h.c1) ∧ w'.cell? ⟨w.heap.size, 2, none⟩ = some (.slice h.A2 m.ints.length h.c2) ∧ w'.cell? ⟨w.heap.size, 3, none⟩ = some (.slice h.A3 m.methods.length h.c3) ∧ w'.cell? ⟨w.heap.size, 4, none⟩ = some (.slice h.A4 m.entries.length h.c4) ∧ w'.cell? ⟨w.heap.size, 5, none⟩ = some (.int .i64 m.stack) ∧ w'.cell? ⟨w.heap.size, 6, none⟩ = some (.int .i64 m.heap) ∧ w'.cell? ⟨w.heap.size + 1, 0, none⟩ = some (.slice hx.A0 xa.length hx.k0) ∧ w'.cell? ⟨w.heap.size + 1, 1, none⟩ = some (.slice hx.A1 xl.length hx.k1) ∧ w'.cell? ⟨w.heap.size + 1, 2, none⟩ = some (.int .i64 xr0) ∧ w'.cell? ⟨w.heap.size + 1, 3, none⟩ = some (.int .i64 xr1) ∧ w'.cell? ⟨w.heap.size + 1, 4, none⟩ = some (.slice (some ad) xc.length hx.k4) ∧ w'.cell? ⟨w.heap.size + 1, 5, none⟩ = some (.int .i64 xd) ∧ w'.cell? ⟨w.heap.size + 1, 6, none⟩ = some (.int .i64 xp) ∧ w'.cell? ⟨w.heap.size + 1, 7, none⟩ = some (.slice hx.A7 xh.length hx.k7) ∧ w'.cell? (ad.add (k * 3)) = some (.int .i64 op) ∧ w'.cell? (off_ (ad.add (k * 3)) 1) = some (.int .i64 a) ∧ w'.cell? (off_ (ad.add (k * 3)) 2) = some (.int .i64 b)) (first | exact ⟨kq0, kq1, kq2, kq3, kq4, kq5, kq6, kp0, kp1, kp2, kp3, kp4, kp5, kp6, kp7, t0, t1, t2⟩) (first | (go_at_call 51; (with_reducible refine (named_is HI HM2 HXd HT HU H0 G).mono ?_); rintro e w5 ⟨rfl, hb⟩; have HX := Lib.hid (HXd.out.trans (hb.mono HXd.out.size)); have kq0 := (HQ.out.keep HX.out HQZ.out) 0 _ rfl; have kq1 := (HQ.out.keep HX.out HQZ.out) 1 _ rfl; have kq2 := (HQ.out.keep HX.out HQZ.out) 2 _ rfl; have kq3 := (HQ.out.keep HX.out HQZ.out) 3 _ rfl; have kq4 := (HQ.out.keep HX.out HQZ.out) 4 _ rfl; have kq5 := (HQ.out.keep HX.out HQZ.out) 5 _ rfl; have kq6 := (HQ.out.keep HX.out HQZ.out) 6 _ rfl; have kp0 := (HP.out.keep HX.out HPZ.out) 0 _ rfl; have kp1 := (HP.out.keep HX.out HPZ.out) 1 _ rfl; have kp2 := (HP.out.keep HX.out HPZ.out) 2 _ rfl; have kp3 := (HP.out.keep HX.out HPZ.out) 3 _ rfl; have kp4 := (HP.out.keep HX.out HPZ.out) 4 _ rfl; have kp5 := (HP.out.keep HX.out HPZ.out) 5 _ rfl; have kp6 := (HP.out.keep HX.out HPZ.out) 6 _ rfl; have kp7 := (HP.out.keep HX.out HPZ.out) 7 _ rfl; rw [HA4.out] at kp4; obtain ⟨t0, t1, t2⟩ := HR.out _ HX.out; clear hb))
              go_wp2_with fail
              go_ret
              exact ⟨by rw [E2.out]; rfl, HW.out.trans (HX.out.mono HZw.out)⟩
            · have E2 := Lib.hid (HYE.out G.out)
              go_wp2_with fail
              go_region_held3 (fun w' => w'.cell? ⟨w.heap.size, 0, none⟩ = some (.slice h.A0 m.classes.length h.c0) ∧ w'.cell? ⟨w.heap.size, 1, none⟩ = some (.slice h.A1 m.statics.length h.c1) ∧ w'.cell? ⟨w.heap.size, 2, none⟩ = some (.slice h.A2 m.ints.length h.c2) ∧ w'.cell? ⟨w.heap.size, 3, none⟩ = some (.slice h.A3 m.methods.length h.c3) ∧ w'.cell? ⟨w.heap.size, 4, none⟩ = some (.slice h.A4 m.entries.length h.c4) ∧ w'.cell? ⟨w.heap.size, 5, none⟩ = some (.int .i64 m.stack) ∧ w'.cell? ⟨w.heap.size, 6, none⟩ = some (.int .i64 m.heap) ∧ w'.cell? ⟨w.heap.size + 1, 0, none⟩ = some (.slice hx.A0 xa.length hx.k0) ∧ w'.cell? ⟨w.heap.size + 1, 1, none⟩ = some (.slice hx.A1 xl.length hx.k1) ∧ w'.cell? ⟨w.heap.size + 1, 2, none⟩ = some (.int .i64 xr0) ∧ w'.cell? ⟨w.heap.size + 1, 3, none⟩ = some (.int .i64 xr1) ∧ w'.cell? ⟨w.heap.size + 1, 4, none⟩ = some (.slice (some ad) xc.length hx.k4) ∧ w'.cell? ⟨w.heap.size + 1, 5, none⟩ = some (.int .i64 xd) ∧ w'.cell? ⟨w.heap.size + 1, 6, none⟩ = some (.int .i64 xp) ∧ w'.cell? ⟨w.heap.size + 1, 7, none⟩ = some (.slice hx.A7 xh.length hx.k7) ∧ w'.cell? (ad.add (k * 3)) = some (.int .i64 op) ∧ w'.cell? (off_ (ad.add (k * 3)) 1) = some (.int .i64 a) ∧ w'.cell? (off_ (ad.add (k * 3)) 2) = some (.int .i64 b)) (first | exact ⟨kq0, kq1, kq2, kq3, kq4, kq5, kq6, kp0, kp1, kp2, kp3, kp4, kp5, kp6, kp7, t0, t1, t2⟩) (first | (go_at_call 51; (with_reducible refine (named_is HI HM2 HXd HT HU H0 G).mono ?_); rintro e w5 ⟨rfl, hb⟩; have HX := Lib.hid (HXd.out.trans (hb.mono HXd.out.size)); have kq0 := (HQ.out.keep HX.out HQZ.out) 0 _ rfl; have kq1 := (HQ.out.keep HX.out HQZ.out) 1 _ rfl; have kq2 := (HQ.out.keep HX.out HQZ.out) 2 _ rfl; have kq3 := (HQ.out.keep HX.out HQZ.out) 3 _ rfl; have kq4 := (HQ.out.keep HX.out HQZ.out) 4 _ rfl; have kq5 := (HQ.out.keep HX.out HQZ.out) 5 _ rfl; have kq6 := (HQ.out.keep HX.out HQZ.out) 6 _ rfl; have kp0 := (HP.out.keep HX.out HPZ.out) 0 _ rfl; have kp1 := (HP.out.keep HX.out HPZ.out) 1 _ rfl; have kp2 := (HP.out.keep HX.out HPZ.out) 2 _ rfl; have kp3 := (HP.out.keep HX.out HPZ.out) 3 _ rfl; have kp4 := (HP.out.keep HX.out HPZ.out) 4 _ rfl; have kp5 := (HP.out.keep HX.out HPZ.out) 5 _ rfl; have kp6 := (HP.out.keep HX.out HPZ.out) 6 _ rfl; have kp7 := (HP.out.keep HX.out HPZ.out) 7 _ rfl; rw [HA4.out] at kp4; obtain ⟨t0, t1, t2⟩ := HR.out _ HX.out; clear hb))
              go_wp2_with fail
              go_roundw
              case rel => exact ⟨k + 1, by omega, by go_num, E2, HX⟩
              case measure => simp [intOf]; omega
          · have HCA := Lib.hid (show codesB m ⟨xa, xl, (xr0, xr1), xc, xd, xp, xh⟩ = true from all_end (l := xc) HN.out (by omega))
            have E2 := Lib.hid (show methodB m ⟨xa, xl, (xr0, xr1), xc, xd, xp, xh⟩ = true by unfold methodB; rw [D1.out, D2.out, HRB.out, HCA.out, decide_eq_true Cc1.out, decide_eq_true Cc2.out, decide_eq_true Cc3.out]; rfl)
            go_wp2_with fail
            go_ret
            exact ⟨by rw [E2.out]; rfl, HW.out.trans (HX.out.mono HZw.out)⟩
      · exact absurd D3.out (by simp [goodB])
end Go.Proofs.Ytefgepppcmhphaa
