/-
  What the program's own methodNamed comes to.
-/
import Derived.Test.YtjgfoialajgfhaaSaneInstr
namespace Go.Proofs.Ytjgfoialajgfhaa
set_option maxRecDepth 100000
set_option linter.unusedVariables false
set_option linter.unusedSimpArgs false
open Go.ChangeShapes Go.WideShapes Go.ChangeAt Go.RowKit
set_option linter.unusedVariables false
set_option linter.unusedSimpArgs false

/-- Is all there that a method names, and is it there itself? -/
def mnamedB (m : Img) (x : Mth) : Bool := decide (¬ x.code.length = 0) && (decide (x.phi.length = x.code.length) && (decide (x.args.length + x.locals.length ≤ 8) && codesB m x))
theorem sinstr_is {m : Img} {x : Mth} {op a b : Int} {N : Nat} {h : Hnd} {hx : MHnd} {w0 w : World} {r : Bool} (HI : Hid (ImgIn w0 w0.heap.size h m)) (HM : Hid (MthIn w0 w0.heap.size hx x)) (HK : Hid (CntIn w0 N h m)) (HX : Hid (Below w0.heap.size w0 w)) (HT : Hid (Tame m)) (HU : Hid (TameM x)) (HS : Hid (supsB m.classes = true)) (H0 : Hid (0 ≤ a)) (HR : Hid (namedB m x op a b = r)) :
    Calls Try.prog 52 #[imgV h m, mthV hx x, insV op a b, cntV N] w fun e w' => e = .returned (.bool r) ∧ Below w.heap.size w w' := by
  have H := sinstr_any m x op a b N h hx w (HI.out.now HX.out) (HM.out.now HX.out) (HK.out.now HX.out) H0.out HT.out HU.out HS.out
  rw [HR.out] at H
  exact H

set_option maxHeartbeats 3200000 in
theorem smethod_any (m : Img) (x : Mth) (N : Nat) (h : Hnd) (hx : MHnd) (w : World) (H : ImgIn w w.heap.size h m) (H' : MthIn w w.heap.size hx x) (hk : CntIn w N h m) (ht : Tame m) (hu : TameM x) (hs : supsB m.classes = true) :
    Calls Try.prog 34 #[imgV h m, mthV hx x, cntV N] w fun e w' => e = .returned (.bool (mnamedB m x)) ∧ Below w.heap.size w w' := by
  obtain ⟨hq, hp, hb, hz⟩ := two_boxesU w (imgL h m) (mthL hx x) 28 38
  have HQ := Lib.hid hq
  have HP := Lib.hid hp
  have HW := Lib.hid hb
  have HI := Lib.hid (H.now hb)
  have HM := Lib.hid (H'.now hb)
  have HK := Lib.hid (hk.now hb)
  have HT := Lib.hid ht
  have HU := Lib.hid hu
  have HS := Lib.hid hs
  have HQZ : Hid (w.heap.size < ((w.alloc (.cells (imgL h m).toArray 28)).alloc (.cells (mthL hx x).toArray 38)).heap.size) := Lib.hid (by omega)
  have HPZ : Hid (w.heap.size + 1 < ((w.alloc (.cells (imgL h m).toArray 28)).alloc (.cells (mthL hx x).toArray 38)).heap.size) := Lib.hid (by omega)
  have HZw : Hid (w.heap.size ≤ ((w.alloc (.cells (imgL h m).toArray 28)).alloc (.cells (mthL hx x).toArray 38)).heap.size) := Lib.hid (by omega)
  have m1 := hu.a
  have m2 := hu.l
  have m3 := H'.phi.le
  have m3c := H'.phi.cap
  have m4 := H'.code.le
  have m4c := H'.code.cap
  clear hq hp hb hz H H' hk ht hu hs
  go_enter Try.func34, Try.ntmps34
  go_upto_region 1 with fail
  generalize (w.alloc (.cells (imgL h m).toArray 28)).alloc (.cells (mthL hx x).toArray 38) = w1 at *
  have HX : Hid (Below w1.heap.size w1 w1) := Lib.hid (Below.refl _ _)
  obtain ⟨A0x, A1x, A4x, A7x, k0x, k1x, k4x, k7x⟩ := hx
  have HMC := Lib.hid HM.out.code
  dsimp only at m1 m2 m3 m3c m4 m4c HMC
  have kq0 := (HQ.out.keep HX.out HQZ.out) 0 _ rfl
  have kq1 := (HQ.out.keep HX.out HQZ.out) 1 _ rfl
  have kq2 := (HQ.out.keep HX.out HQZ.out) 2 _ rfl
  have kq3 := (HQ.out.keep HX.out HQZ.out) 3 _ rfl
  have kq4 := (HQ.out.keep HX.out HQZ.out) 4 _ rfl
  have kq5 := (HQ.out.keep HX.out HQZ.out) 5 _ rfl
  have kq6 := (HQ.out.keep HX.out HQZ.out) 6 _ rfl
  have kp0 := (HP.out.keep HX.out HPZ.out) 0 _ rfl
  have kp1 := (HP.out.keep HX.out HPZ.out) 1 _ rfl
  have kp2 := (HP.out.keep HX.out HPZ.out) 2 _ rfl
  have kp3 := (HP.out.keep HX.out HPZ.out) 3 _ rfl
  have kp4 := (HP.out.keep HX.out HPZ.out) 4 _ rfl
  have kp5 := (HP.out.keep HX.out HPZ.out) 5 _ rfl
  have kp6 := (HP.out.keep HX.out HPZ.out) 6 _ rfl
  have kp7 := (HP.out.keep HX.out HPZ.out) 7 _ rfl
  dsimp only at kp0 kp1 kp2 kp3 kp4 kp5 kp6 kp7
  by_cases c1 : ¬ x.code.length = 0
  rotate_left
  · have ct1 : ((x.code.length : Int) == 0) = true := beq_iff_eq.mpr (by omega)
    have E2 := Lib.hid (show mnamedB m x = false by unfold mnamedB; rw [decide_eq_false (by simpa using c1)]; rfl)
    go_wp2_with ((go_at_call 51; (with_reducible refine (places_is (hx := ⟨A0x, A1x, A4x, A7x, k0x, k1x, k4x, k7x⟩) HU).mono ?_); rintro e w5 ⟨rfl, hb⟩; have HX := Lib.hid (HX.out.trans (hb.mono HX.out.size)); have kq0 := (HQ.out.keep HX.out HQZ.out) 0 _ rfl; have kq1 := (HQ.out.keep HX.out HQZ.out) 1 _ rfl; have kq2 := (HQ.out.keep HX.out HQZ.out) 2 _ rfl; have kq3 := (HQ.out.keep HX.out HQZ.out) 3 _ rfl; have kq4 := (HQ.out.keep HX.out HQZ.out) 4 _ rfl; have kq5 := (HQ.out.keep HX.out HQZ.out) 5 _ rfl; have kq6 := (HQ.out.keep HX.out HQZ.out) 6 _ rfl; have kp0 := (HP.out.keep HX.out HPZ.out) 0 _ rfl; have kp1 := (HP.out.keep HX.out HPZ.out) 1 _ rfl; have kp2 := (HP.out.keep HX.out HPZ.out) 2 _ rfl; have kp3 := (HP.out.keep HX.out HPZ.out) 3 _ rfl; have kp4 := (HP.out.keep HX.out HPZ.out) 4 _ rfl; have kp5 := (HP.out.keep HX.out HPZ.out) 5 _ rfl; have kp6 := (HP.out.keep HX.out HPZ.out) 6 _ rfl; have kp7 := (HP.out.keep HX.out HPZ.out) 7 _ rfl; clear hb))
    go_ret
    exact ⟨by rw [E2.out]; rfl, HW.out.trans (HX.out.mono HZw.out)⟩
  have ct1 : ((x.code.length : Int) == 0) = false := beq_eq_false_iff_ne.mpr (by omega)
  have Cc1 := Lib.hid c1
  clear c1
  by_cases c2 : x.phi.length = x.code.length
  rotate_left
  · have ct2 : ((x.phi.length : Int) != (x.code.length : Int)) = true := bne_iff_ne.mpr (by omega)
    have E2 := Lib.hid (show mnamedB m x = false by unfold mnamedB; rw [decide_eq_false (p := x.phi.length = x.code.length) c2]; simp)
    go_wp2_with ((go_at_call 51; (with_reducible refine (places_is (hx := ⟨A0x, A1x, A4x, A7x, k0x, k1x, k4x, k7x⟩) HU).mono ?_); rintro e w5 ⟨rfl, hb⟩; have HX := Lib.hid (HX.out.trans (hb.mono HX.out.size)); have kq0 := (HQ.out.keep HX.out HQZ.out) 0 _ rfl; have kq1 := (HQ.out.keep HX.out HQZ.out) 1 _ rfl; have kq2 := (HQ.out.keep HX.out HQZ.out) 2 _ rfl; have kq3 := (HQ.out.keep HX.out HQZ.out) 3 _ rfl; have kq4 := (HQ.out.keep HX.out HQZ.out) 4 _ rfl; have kq5 := (HQ.out.keep HX.out HQZ.out) 5 _ rfl; have kq6 := (HQ.out.keep HX.out HQZ.out) 6 _ rfl; have kp0 := (HP.out.keep HX.out HPZ.out) 0 _ rfl; have kp1 := (HP.out.keep HX.out HPZ.out) 1 _ rfl; have kp2 := (HP.out.keep HX.out HPZ.out) 2 _ rfl; have kp3 := (HP.out.keep HX.out HPZ.out) 3 _ rfl; have kp4 := (HP.out.keep HX.out HPZ.out) 4 _ rfl; have kp5 := (HP.out.keep HX.out HPZ.out) 5 _ rfl; have kp6 := (HP.out.keep HX.out HPZ.out) 6 _ rfl; have kp7 := (HP.out.keep HX.out HPZ.out) 7 _ rfl; clear hb))
    go_ret
    exact ⟨by rw [E2.out]; rfl, HW.out.trans (HX.out.mono HZw.out)⟩
  have ct2 : ((x.phi.length : Int) != (x.code.length : Int)) = false := bne_eq_false_iff_eq.mpr (by omega)
  have Cc2 := Lib.hid c2
  clear c2
  by_cases c3 : x.args.length + x.locals.length ≤ 8
  rotate_left
  · have ct3 : (8 : Int) < (x.args.length : Int) + (x.locals.length : Int) := by omega
    have E2 := Lib.hid (show mnamedB m x = false by unfold mnamedB; rw [decide_eq_false (p := x.args.length + x.locals.length ≤ 8) c3]; simp)
    go_wp2_with ((go_at_call 51; (with_reducible refine (places_is (hx := ⟨A0x, A1x, A4x, A7x, k0x, k1x, k4x, k7x⟩) HU).mono ?_); rintro e w5 ⟨rfl, hb⟩; have HX := Lib.hid (HX.out.trans (hb.mono HX.out.size)); have kq0 := (HQ.out.keep HX.out HQZ.out) 0 _ rfl; have kq1 := (HQ.out.keep HX.out HQZ.out) 1 _ rfl; have kq2 := (HQ.out.keep HX.out HQZ.out) 2 _ rfl; have kq3 := (HQ.out.keep HX.out HQZ.out) 3 _ rfl; have kq4 := (HQ.out.keep HX.out HQZ.out) 4 _ rfl; have kq5 := (HQ.out.keep HX.out HQZ.out) 5 _ rfl; have kq6 := (HQ.out.keep HX.out HQZ.out) 6 _ rfl; have kp0 := (HP.out.keep HX.out HPZ.out) 0 _ rfl; have kp1 := (HP.out.keep HX.out HPZ.out) 1 _ rfl; have kp2 := (HP.out.keep HX.out HPZ.out) 2 _ rfl; have kp3 := (HP.out.keep HX.out HPZ.out) 3 _ rfl; have kp4 := (HP.out.keep HX.out HPZ.out) 4 _ rfl; have kp5 := (HP.out.keep HX.out HPZ.out) 5 _ rfl; have kp6 := (HP.out.keep HX.out HPZ.out) 6 _ rfl; have kp7 := (HP.out.keep HX.out HPZ.out) 7 _ rfl; clear hb))
    go_ret
    exact ⟨by rw [E2.out]; rfl, HW.out.trans (HX.out.mono HZw.out)⟩
  have ct3 : ¬ (8 : Int) < (x.args.length : Int) + (x.locals.length : Int) := by omega
  have Cc3 := Lib.hid c3
  clear c3
  go_wp2_with ((go_at_call 51; (with_reducible refine (places_is (hx := ⟨A0x, A1x, A4x, A7x, k0x, k1x, k4x, k7x⟩) HU).mono ?_); rintro e w5 ⟨rfl, hb⟩; have HX := Lib.hid (HX.out.trans (hb.mono HX.out.size)); have kq0 := (HQ.out.keep HX.out HQZ.out) 0 _ rfl; have kq1 := (HQ.out.keep HX.out HQZ.out) 1 _ rfl; have kq2 := (HQ.out.keep HX.out HQZ.out) 2 _ rfl; have kq3 := (HQ.out.keep HX.out HQZ.out) 3 _ rfl; have kq4 := (HQ.out.keep HX.out HQZ.out) 4 _ rfl; have kq5 := (HQ.out.keep HX.out HQZ.out) 5 _ rfl; have kq6 := (HQ.out.keep HX.out HQZ.out) 6 _ rfl; have kp0 := (HP.out.keep HX.out HPZ.out) 0 _ rfl; have kp1 := (HP.out.keep HX.out HPZ.out) 1 _ rfl; have kp2 := (HP.out.keep HX.out HPZ.out) 2 _ rfl; have kp3 := (HP.out.keep HX.out HPZ.out) 3 _ rfl; have kp4 := (HP.out.keep HX.out HPZ.out) 4 _ rfl; have kp5 := (HP.out.keep HX.out HPZ.out) 5 _ rfl; have kp6 := (HP.out.keep HX.out HPZ.out) 6 _ rfl; have kp7 := (HP.out.keep HX.out HPZ.out) 7 _ rfl; clear hb))
  go_loopw [30] (fun i wr => ∃ k : Nat, k ≤ x.code.length ∧ i = .int .i64 k ∧ Hid (∀ i ∈ x.code.take k, namedB m x i.1 i.2.1 i.2.2 = true) ∧ Hid (Below w1.heap.size w1 wr)) (fun i _ => x.code.length - (intOf i).toNat)
  case atStart => exact ⟨0, by omega, rfl, Lib.hid (by simp), HX⟩
  case round =>
    clear HX kq0 kq1 kq2 kq3 kq4 kq5 kq6 kp0 kp1 kp2 kp3 kp4 kp5 kp6 kp7
    obtain ⟨k, hk, rfl, HN, HX⟩ := hrel
    have kq0 := (HQ.out.keep HX.out HQZ.out) 0 _ rfl
    have kq1 := (HQ.out.keep HX.out HQZ.out) 1 _ rfl
    have kq2 := (HQ.out.keep HX.out HQZ.out) 2 _ rfl
    have kq3 := (HQ.out.keep HX.out HQZ.out) 3 _ rfl
    have kq4 := (HQ.out.keep HX.out HQZ.out) 4 _ rfl
    have kq5 := (HQ.out.keep HX.out HQZ.out) 5 _ rfl
    have kq6 := (HQ.out.keep HX.out HQZ.out) 6 _ rfl
    have kp0 := (HP.out.keep HX.out HPZ.out) 0 _ rfl
    have kp1 := (HP.out.keep HX.out HPZ.out) 1 _ rfl
    have kp2 := (HP.out.keep HX.out HPZ.out) 2 _ rfl
    have kp3 := (HP.out.keep HX.out HPZ.out) 3 _ rfl
    have kp4 := (HP.out.keep HX.out HPZ.out) 4 _ rfl
    have kp5 := (HP.out.keep HX.out HPZ.out) 5 _ rfl
    have kp6 := (HP.out.keep HX.out HPZ.out) 6 _ rfl
    have kp7 := (HP.out.keep HX.out HPZ.out) 7 _ rfl
    by_cases hlt : k < x.code.length
    · obtain ⟨ad, rfl, hab, hc⟩ := HMC.out.row.at_ hlt
      have HNO := Lib.hid (fun g : (fun i : Int × Int × Int => namedB m x i.1 i.2.1 i.2.2) x.code[k] = false => (all_not hlt g : codesB m x = false))
      have HYE := Lib.hid (fun g : (fun i : Int × Int × Int => namedB m x i.1 i.2.1 i.2.2) x.code[k] = true => all_take hlt HN.out g)
      have H0 := Lib.hid (HU.out.c _ (List.getElem_mem hlt))
      generalize x.code[k] = ins at *
      obtain ⟨op, a, b⟩ := ins
      have HR : Hid (∀ W, Below w1.heap.size w1 W → W.cell? (ad.add (k * 3)) = some (.int .i64 op) ∧ W.cell? (off_ (ad.add (k * 3)) 1) = some (.int .i64 a) ∧ W.cell? (off_ (ad.add (k * 3)) 2) = some (.int .i64 b)) := Lib.hid (fun W hW => CodeAt.keeps (x := (op, a, b)) hc (by rw [addr_add_block]; exact hab) (Nat.le_refl _) (fun _ hq => hW.cell hq))
      obtain ⟨t0, t1, t2⟩ := HR.out _ HX.out
      have HM2 := HM
      go_upto_region 6 with fail
      have HIB := Lib.hid (cells_new wr [.int .i64 op, .int .i64 a, .int .i64 b] 41)
      have HX := Lib.hid (HX.out.alloc HX.out.size (.cells ([.int .i64 op, .int .i64 a, .int .i64 b] : List Value).toArray 41))
      clear kq0 kq1 kq2 kq3 kq4 kq5 kq6 kp0 kp1 kp2 kp3 kp4 kp5 kp6 kp7 t0 t1 t2
      have HIB : Hid (Cells (wr.alloc (.cells ([.int .i64 op, .int .i64 a, .int .i64 b] : List Value).toArray 41)) wr.heap.size [.int .i64 op, .int .i64 a, .int .i64 b]) := HIB
      generalize wr.alloc (.cells ([.int .i64 op, .int .i64 a, .int .i64 b] : List Value).toArray 41) = w4 at *
      generalize wr.heap.size = gi at *
      have i0 := HIB.out 0 _ rfl
      have i1 := HIB.out 1 _ rfl
      have i2 := HIB.out 2 _ rfl
      have kq0 := (HQ.out.keep HX.out HQZ.out) 0 _ rfl
      have kq1 := (HQ.out.keep HX.out HQZ.out) 1 _ rfl
      have kq2 := (HQ.out.keep HX.out HQZ.out) 2 _ rfl
      have kq3 := (HQ.out.keep HX.out HQZ.out) 3 _ rfl
      have kq4 := (HQ.out.keep HX.out HQZ.out) 4 _ rfl
      have kq5 := (HQ.out.keep HX.out HQZ.out) 5 _ rfl
      have kq6 := (HQ.out.keep HX.out HQZ.out) 6 _ rfl
      have kp0 := (HP.out.keep HX.out HPZ.out) 0 _ rfl
      have kp1 := (HP.out.keep HX.out HPZ.out) 1 _ rfl
      have kp2 := (HP.out.keep HX.out HPZ.out) 2 _ rfl
      have kp3 := (HP.out.keep HX.out HPZ.out) 3 _ rfl
      have kp4 := (HP.out.keep HX.out HPZ.out) 4 _ rfl
      have kp5 := (HP.out.keep HX.out HPZ.out) 5 _ rfl
      have kp6 := (HP.out.keep HX.out HPZ.out) 6 _ rfl
      have kp7 := (HP.out.keep HX.out HPZ.out) 7 _ rfl
      have HXa := HX
      obtain ⟨g, hg⟩ : ∃ g, namedB m x op a b = g := ⟨_, rfl⟩
      have G := Lib.hid hg
      clear hg hc
      cases g
      · have E2 := Lib.hid (show mnamedB m x = false by unfold mnamedB; rw [show codesB m x = false from HNO.out G.out]; simp)
        go_wp2_with ((go_at_call 52; (with_reducible refine (sinstr_is HI HM2 HK HXa HT HU HS H0 G).mono ?_); rintro e w5 ⟨rfl, hb⟩; have HX := Lib.hid (HXa.out.trans (hb.mono HXa.out.size)); have kq0 := (HQ.out.keep HX.out HQZ.out) 0 _ rfl; have kq1 := (HQ.out.keep HX.out HQZ.out) 1 _ rfl; have kq2 := (HQ.out.keep HX.out HQZ.out) 2 _ rfl; have kq3 := (HQ.out.keep HX.out HQZ.out) 3 _ rfl; have kq4 := (HQ.out.keep HX.out HQZ.out) 4 _ rfl; have kq5 := (HQ.out.keep HX.out HQZ.out) 5 _ rfl; have kq6 := (HQ.out.keep HX.out HQZ.out) 6 _ rfl; have kp0 := (HP.out.keep HX.out HPZ.out) 0 _ rfl; have kp1 := (HP.out.keep HX.out HPZ.out) 1 _ rfl; have kp2 := (HP.out.keep HX.out HPZ.out) 2 _ rfl; have kp3 := (HP.out.keep HX.out HPZ.out) 3 _ rfl; have kp4 := (HP.out.keep HX.out HPZ.out) 4 _ rfl; have kp5 := (HP.out.keep HX.out HPZ.out) 5 _ rfl; have kp6 := (HP.out.keep HX.out HPZ.out) 6 _ rfl; have kp7 := (HP.out.keep HX.out HPZ.out) 7 _ rfl; clear hb))
        go_ret
        exact ⟨by rw [E2.out]; rfl, HW.out.trans (HX.out.mono HZw.out)⟩
      · have E2 := Lib.hid (HYE.out G.out)
        go_wp2_with ((go_at_call 52; (with_reducible refine (sinstr_is HI HM2 HK HXa HT HU HS H0 G).mono ?_); rintro e w5 ⟨rfl, hb⟩; have HX := Lib.hid (HXa.out.trans (hb.mono HXa.out.size)); have kq0 := (HQ.out.keep HX.out HQZ.out) 0 _ rfl; have kq1 := (HQ.out.keep HX.out HQZ.out) 1 _ rfl; have kq2 := (HQ.out.keep HX.out HQZ.out) 2 _ rfl; have kq3 := (HQ.out.keep HX.out HQZ.out) 3 _ rfl; have kq4 := (HQ.out.keep HX.out HQZ.out) 4 _ rfl; have kq5 := (HQ.out.keep HX.out HQZ.out) 5 _ rfl; have kq6 := (HQ.out.keep HX.out HQZ.out) 6 _ rfl; have kp0 := (HP.out.keep HX.out HPZ.out) 0 _ rfl; have kp1 := (HP.out.keep HX.out HPZ.out) 1 _ rfl; have kp2 := (HP.out.keep HX.out HPZ.out) 2 _ rfl; have kp3 := (HP.out.keep HX.out HPZ.out) 3 _ rfl; have kp4 := (HP.out.keep HX.out HPZ.out) 4 _ rfl; have kp5 := (HP.out.keep HX.out HPZ.out) 5 _ rfl; have kp6 := (HP.out.keep HX.out HPZ.out) 6 _ rfl; have kp7 := (HP.out.keep HX.out HPZ.out) 7 _ rfl; clear hb))
        go_roundw
        case rel => exact ⟨k + 1, by omega, by go_num, E2, HX⟩
        case measure => simp [intOf]; omega
    · have HCA := Lib.hid (show codesB m x = true from all_end (l := x.code) HN.out (by omega))
      have E2 := Lib.hid (show mnamedB m x = true by unfold mnamedB; rw [HCA.out, decide_eq_true Cc1.out, decide_eq_true Cc2.out, decide_eq_true Cc3.out]; rfl)
      go_wp2_with fail
      go_ret
      exact ⟨by rw [E2.out]; rfl, HW.out.trans (HX.out.mono HZw.out)⟩
end Go.Proofs.Ytjgfoialajgfhaa
