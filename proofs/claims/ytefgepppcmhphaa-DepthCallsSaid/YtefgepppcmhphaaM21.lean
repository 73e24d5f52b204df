/-
  What the document's own answer for what an instruction takes and gives (Rule) comes to: locals, results, calls.
-/
import Derived.Test.YtefgepppcmhphaaM20
import Derived.RegionTactic
import Derived.ChangeAlike
import Derived.Deep.RegionHeld3
import Derived.Deep.QuietTactic
import Derived.BigQuiet
namespace Go.Proofs.Ytefgepppcmhphaa
set_option maxRecDepth 100000
set_option linter.unusedVariables false
set_option linter.unusedSimpArgs false
open Go.ChangeShapes Go.WideShapes Go.ChangeAt Go.RowKit


set_option maxHeartbeats 1600000 in
theorem rule_3 (m : Img) (x : Mth) (f : Nat) (a b : Int) (hg : m.methods[f]? = some x) (hal : x.args.length ≤ 1048576) (hll : x.locals.length ≤ 1048576) (ha : a ≤ 9223372036854775807) (h : Hnd) (w : World) (H : ImgIn w w.heap.size h m) :
    Calls Try.prog 52 #[imgV h m, .int .i64 f, insV 3 a b] w (TwoTypes (takeOf m x 3 a b) (giveOf m x 3 a b) w) := by
  obtain ⟨t, ht⟩ : ∃ t, localOf x a = t := ⟨_, rfl⟩
  have HR := Lib.hid ht
  have e1 : takeOf m x 3 a b = [] := by simp [takeOf, ht]
  have e2 : giveOf m x 3 a b = [t] := by simp [giveOf, ht]
  rw [e1, e2]
  obtain ⟨hfm, hgx⟩ := List.getElem?_eq_some_iff.mp hg
  clear e1 e2 ht hg
  obtain ⟨hw, hp⟩ := rule_parts h m 3 a b w
  have HW := Lib.hid hw
  have HP := Lib.hid hp
  have HI := Lib.hid (H.now hw)
  clear hw hp H
  go_enter Try.func52, Try.ntmps52
  go_upto_region 3 with fail
  change Code.wp _ _ _ _ (ruleW h m 3 a b w)
  generalize ruleW h m 3 a b w = w1 at *
  have o0 := HP.out.ins 0 _ rfl
  have o1 := HP.out.ins 1 _ rfl
  have o2 := HP.out.ins 2 _ rfl
  have hz := HP.out.size
  obtain ⟨q0, q1, q2, q3, q4, q5, q6⟩ := HP.out.img
  have l3 := HI.out.methods.le
  have l3c := HI.out.methods.cap
  obtain ⟨ad, hx, e0, hab, hmi, hmc⟩ := img_mth HI.out hfm
  rw [e0] at q3
  rw [hgx] at hmi hmc
  clear e0
  have HM := Lib.hid hmi
  have HMC := Lib.hid hmc
  have HAB := Lib.hid hab
  clear hmi hmc hab
  obtain ⟨c0, c1, c2, c3, c4, c5, c6, c7⟩ := HMC.out
  go_wp2_with fail
  have HX : Hid (Below w1.heap.size w1 w1.drew) := Lib.hid (Below.refl w1.heap.size w1).drew
  have HK : Hid (∀ W, Below w1.heap.size w1 W → (fun w' => w'.cell? ⟨w.heap.size, 3, none⟩ = some (.slice (some ad) m.methods.length h.c3) ∧ w'.cell? ⟨w.heap.size + 1, 1, none⟩ = some (.int .i64 a) ∧ w'.cell? (ad.add (f * 8)) = some (.slice hx.A0 x.args.length hx.k0) ∧ w'.cell? (off_ (ad.add (f * 8)) 1) = some (.slice hx.A1 x.locals.length hx.k1) ∧ w'.cell? (off_ (ad.add (f * 8)) 2) = some (.int .i64 x.ret.1) ∧ w'.cell? (off_ (ad.add (f * 8)) 3) = some (.int .i64 x.ret.2) ∧ w'.cell? (off_ (ad.add (f * 8)) 4) = some (.slice hx.A4 x.code.length hx.k4) ∧ w'.cell? (off_ (ad.add (f * 8)) 5) = some (.int .i64 x.depth) ∧ w'.cell? (off_ (ad.add (f * 8)) 6) = some (.int .i64 x.pot) ∧ w'.cell? (off_ (ad.add (f * 8)) 7) = some (.slice hx.A7 x.phi.length hx.k7)) W) := Lib.hid (fun W hW => by
    obtain ⟨d0, d1, d2, d3, d4, d5, d6, d7⟩ := HMC.out.keep hW (by rw [addr_add_block]; exact HAB.out)
    exact ⟨(hW.cell (p := ⟨w.heap.size, 3, none⟩) (by show w.heap.size < _; omega)).trans q3, (hW.cell (p := ⟨w.heap.size + 1, 1, none⟩) (by show w.heap.size + 1 < _; omega)).trans o1, d0, d1, d2, d3, d4, d5, d6, d7⟩)
  go_region_held3 (fun w' => w'.cell? ⟨w.heap.size, 3, none⟩ = some (.slice (some ad) m.methods.length h.c3) ∧ w'.cell? ⟨w.heap.size + 1, 1, none⟩ = some (.int .i64 a) ∧ w'.cell? (ad.add (f * 8)) = some (.slice hx.A0 x.args.length hx.k0) ∧ w'.cell? (off_ (ad.add (f * 8)) 1) = some (.slice hx.A1 x.locals.length hx.k1) ∧ w'.cell? (off_ (ad.add (f * 8)) 2) = some (.int .i64 x.ret.1) ∧ w'.cell? (off_ (ad.add (f * 8)) 3) = some (.int .i64 x.ret.2) ∧ w'.cell? (off_ (ad.add (f * 8)) 4) = some (.slice hx.A4 x.code.length hx.k4) ∧ w'.cell? (off_ (ad.add (f * 8)) 5) = some (.int .i64 x.depth) ∧ w'.cell? (off_ (ad.add (f * 8)) 6) = some (.int .i64 x.pot) ∧ w'.cell? (off_ (ad.add (f * 8)) 7) = some (.slice hx.A7 x.phi.length hx.k7)) (first | exact HK.out _ HX.out | exact HK.out _ HX3.out | exact HK.out _ (HX3.out.alloc HX3.out.size _)) (first | (go_at_call 63; (with_reducible refine (rlocal_is HM HX HR ha hal hll).mono ?_); rintro e w3 ⟨rfl, hb⟩; have HX3 := Lib.hid (HX.out.trans (hb.mono HX.out.size)); clear hb))
  all_goals
    go_wp2_with fail
    go_ret2
    refine ⟨_, _, _, _, rfl, ?_, ?_, HW.out.trans ((HX3.out.alloc HX3.out.size _).mono HW.out.size)⟩
    · exact slc_none
    · exact new_t1 (by simp) (by go_simp) (by go_simp)

set_option maxHeartbeats 1600000 in
theorem rule_4 (m : Img) (x : Mth) (f : Nat) (a b : Int) (hg : m.methods[f]? = some x) (hal : x.args.length ≤ 1048576) (hll : x.locals.length ≤ 1048576) (ha : a ≤ 9223372036854775807) (h : Hnd) (w : World) (H : ImgIn w w.heap.size h m) :
    Calls Try.prog 52 #[imgV h m, .int .i64 f, insV 4 a b] w (TwoTypes (takeOf m x 4 a b) (giveOf m x 4 a b) w) := by
  obtain ⟨t, ht⟩ : ∃ t, localOf x a = t := ⟨_, rfl⟩
  have HR := Lib.hid ht
  have e1 : takeOf m x 4 a b = [t] := by simp [takeOf, ht]
  have e2 : giveOf m x 4 a b = [] := by simp [giveOf, ht]
  rw [e1, e2]
  obtain ⟨hfm, hgx⟩ := List.getElem?_eq_some_iff.mp hg
  clear e1 e2 ht hg
  obtain ⟨hw, hp⟩ := rule_parts h m 4 a b w
  have HW := Lib.hid hw
  have HP := Lib.hid hp
  have HI := Lib.hid (H.now hw)
  clear hw hp H
  go_enter Try.func52, Try.ntmps52
  go_upto_region 3 with fail
  change Code.wp _ _ _ _ (ruleW h m 4 a b w)
  generalize ruleW h m 4 a b w = w1 at *
  have o0 := HP.out.ins 0 _ rfl
  have o1 := HP.out.ins 1 _ rfl
  have o2 := HP.out.ins 2 _ rfl
  have hz := HP.out.size
  obtain ⟨q0, q1, q2, q3, q4, q5, q6⟩ := HP.out.img
  have l3 := HI.out.methods.le
  have l3c := HI.out.methods.cap
  obtain ⟨ad, hx, e0, hab, hmi, hmc⟩ := img_mth HI.out hfm
  rw [e0] at q3
  rw [hgx] at hmi hmc
  clear e0
  have HM := Lib.hid hmi
  have HMC := Lib.hid hmc
  have HAB := Lib.hid hab
  clear hmi hmc hab
  obtain ⟨c0, c1, c2, c3, c4, c5, c6, c7⟩ := HMC.out
  go_wp2_with fail
  have HX : Hid (Below w1.heap.size w1 w1.drew) := Lib.hid (Below.refl w1.heap.size w1).drew
  have HK : Hid (∀ W, Below w1.heap.size w1 W → (fun w' => w'.cell? ⟨w.heap.size, 3, none⟩ = some (.slice (some ad) m.methods.length h.c3) ∧ w'.cell? ⟨w.heap.size + 1, 1, none⟩ = some (.int .i64 a) ∧ w'.cell? (ad.add (f * 8)) = some (.slice hx.A0 x.args.length hx.k0) ∧ w'.cell? (off_ (ad.add (f * 8)) 1) = some (.slice hx.A1 x.locals.length hx.k1) ∧ w'.cell? (off_ (ad.add (f * 8)) 2) = some (.int .i64 x.ret.1) ∧ w'.cell? (off_ (ad.add (f * 8)) 3) = some (.int .i64 x.ret.2) ∧ w'.cell? (off_ (ad.add (f * 8)) 4) = some (.slice hx.A4 x.code.length hx.k4) ∧ w'.cell? (off_ (ad.add (f * 8)) 5) = some (.int .i64 x.depth) ∧ w'.cell? (off_ (ad.add (f * 8)) 6) = some (.int .i64 x.pot) ∧ w'.cell? (off_ (ad.add (f * 8)) 7) = some (.slice hx.A7 x.phi.length hx.k7)) W) := Lib.hid (fun W hW => by
    obtain ⟨d0, d1, d2, d3, d4, d5, d6, d7⟩ := HMC.out.keep hW (by rw [addr_add_block]; exact HAB.out)
    exact ⟨(hW.cell (p := ⟨w.heap.size, 3, none⟩) (by show w.heap.size < _; omega)).trans q3, (hW.cell (p := ⟨w.heap.size + 1, 1, none⟩) (by show w.heap.size + 1 < _; omega)).trans o1, d0, d1, d2, d3, d4, d5, d6, d7⟩)
  go_region_held3 (fun w' => w'.cell? ⟨w.heap.size, 3, none⟩ = some (.slice (some ad) m.methods.length h.c3) ∧ w'.cell? ⟨w.heap.size + 1, 1, none⟩ = some (.int .i64 a) ∧ w'.cell? (ad.add (f * 8)) = some (.slice hx.A0 x.args.length hx.k0) ∧ w'.cell? (off_ (ad.add (f * 8)) 1) = some (.slice hx.A1 x.locals.length hx.k1) ∧ w'.cell? (off_ (ad.add (f * 8)) 2) = some (.int .i64 x.ret.1) ∧ w'.cell? (off_ (ad.add (f * 8)) 3) = some (.int .i64 x.ret.2) ∧ w'.cell? (off_ (ad.add (f * 8)) 4) = some (.slice hx.A4 x.code.length hx.k4) ∧ w'.cell? (off_ (ad.add (f * 8)) 5) = some (.int .i64 x.depth) ∧ w'.cell? (off_ (ad.add (f * 8)) 6) = some (.int .i64 x.pot) ∧ w'.cell? (off_ (ad.add (f * 8)) 7) = some (.slice hx.A7 x.phi.length hx.k7)) (first | exact HK.out _ HX.out | exact HK.out _ HX3.out | exact HK.out _ (HX3.out.alloc HX3.out.size _)) (first | (go_at_call 63; (with_reducible refine (rlocal_is HM HX HR ha hal hll).mono ?_); rintro e w3 ⟨rfl, hb⟩; have HX3 := Lib.hid (HX.out.trans (hb.mono HX.out.size)); clear hb))
  all_goals
    go_wp2_with fail
    go_ret2
    refine ⟨_, _, _, _, rfl, ?_, ?_, HW.out.trans ((HX3.out.alloc HX3.out.size _).mono HW.out.size)⟩
    · exact new_t1 (by simp) (by go_simp) (by go_simp)
    · exact slc_none

set_option maxHeartbeats 1600000 in
theorem rule_33 (m : Img) (x : Mth) (f : Nat) (a b : Int) (hg : m.methods[f]? = some x) (hal : x.args.length ≤ 1048576) (hll : x.locals.length ≤ 1048576) (h : Hnd) (w : World) (H : ImgIn w w.heap.size h m) :
    Calls Try.prog 52 #[imgV h m, .int .i64 f, insV 33 a b] w (TwoTypes (takeOf m x 33 a b) (giveOf m x 33 a b) w) := by
  obtain ⟨G, hG⟩ : ∃ G, givesOf x = G := ⟨_, rfl⟩
  have HR := Lib.hid hG
  have e1 : takeOf m x 33 a b = G := by simp [takeOf, hG]
  have e2 : giveOf m x 33 a b = [] := by simp [giveOf]
  rw [e1, e2]
  obtain ⟨hfm, hgx⟩ := List.getElem?_eq_some_iff.mp hg
  clear e1 e2 hG hg
  obtain ⟨hw, hp⟩ := rule_parts h m 33 a b w
  have HW := Lib.hid hw
  have HP := Lib.hid hp
  have HI := Lib.hid (H.now hw)
  clear hw hp H
  go_enter Try.func52, Try.ntmps52
  go_upto_region 3 with fail
  change Code.wp _ _ _ _ (ruleW h m 33 a b w)
  generalize ruleW h m 33 a b w = w1 at *
  have o0 := HP.out.ins 0 _ rfl
  have o1 := HP.out.ins 1 _ rfl
  have o2 := HP.out.ins 2 _ rfl
  have hz := HP.out.size
  obtain ⟨q0, q1, q2, q3, q4, q5, q6⟩ := HP.out.img
  have l3 := HI.out.methods.le
  have l3c := HI.out.methods.cap
  obtain ⟨ad, hx, e0, hab, hmi, hmc⟩ := img_mth HI.out hfm
  rw [e0] at q3
  rw [hgx] at hmi hmc
  clear e0
  have HM := Lib.hid hmi
  have HMC := Lib.hid hmc
  have HAB := Lib.hid hab
  clear hmi hmc hab
  obtain ⟨c0, c1, c2, c3, c4, c5, c6, c7⟩ := HMC.out
  have HX : Hid (Below w1.heap.size w1 w1) := Lib.hid (Below.refl w1.heap.size w1)
  go_wp2_with (go_at_call 64; (with_reducible refine (rgives_is (hx := hx) HR).mono ?_); rintro e w3 ⟨A5, c5, rfl, hs, hb⟩; have HX3 := Lib.hid (HX.out.trans (hb.mono HX.out.size)); have HS3 := Lib.hid hs; clear hb hs)
  go_ret2
  exact ⟨_, _, _, _, rfl, HS3.out, slc_none, HW.out.trans (HX3.out.mono HW.out.size)⟩

set_option maxHeartbeats 1600000 in
theorem rule_31 (m : Img) (x : Mth) (f : Nat) (j : Nat) (b : Int) (hj : j < m.methods.length) (h : Hnd) (w : World) (H : ImgIn w w.heap.size h m) :
    Calls Try.prog 52 #[imgV h m, .int .i64 f, insV 31 (j : Int) b] w (TwoTypes (takeOf m x 31 (j : Int) b) (giveOf m x 31 (j : Int) b) w) := by
  have e0 : mthN m (j : Int) = m.methods[j] := by unfold mthN; rw [Int.toNat_natCast, List.getElem?_eq_getElem hj]; rfl
  obtain ⟨y, hgx⟩ : ∃ y, m.methods[j] = y := ⟨_, rfl⟩
  obtain ⟨G, hG⟩ : ∃ G, givesOf y = G := ⟨_, rfl⟩
  have HR := Lib.hid hG
  have e1 : takeOf m x 31 (j : Int) b = y.args := by simp [takeOf, e0, hgx]
  have e2 : giveOf m x 31 (j : Int) b = G := by simp [giveOf, e0, hgx, hG]
  rw [e1, e2]
  have hfm := hj
  clear e0 e1 e2 hG
  obtain ⟨hw, hp⟩ := rule_parts h m 31 (j : Int) b w
  have HW := Lib.hid hw
  have HP := Lib.hid hp
  have HI := Lib.hid (H.now hw)
  clear hw hp H
  go_enter Try.func52, Try.ntmps52
  go_upto_region 3 with fail
  change Code.wp _ _ _ _ (ruleW h m 31 (j : Int) b w)
  generalize ruleW h m 31 (j : Int) b w = w1 at *
  have o0 := HP.out.ins 0 _ rfl
  have o1 := HP.out.ins 1 _ rfl
  have o2 := HP.out.ins 2 _ rfl
  have hz := HP.out.size
  obtain ⟨q0, q1, q2, q3, q4, q5, q6⟩ := HP.out.img
  have l3 := HI.out.methods.le
  have l3c := HI.out.methods.cap
  obtain ⟨ad, hx, e0, hab, hmi, hmc⟩ := img_mth HI.out hfm
  rw [e0] at q3
  rw [hgx] at hmi hmc
  clear e0
  have HM := Lib.hid hmi
  have HMC := Lib.hid hmc
  have HAB := Lib.hid hab
  clear hmi hmc hab
  obtain ⟨c0, c1, c2, c3, c4, c5, c6, c7⟩ := HMC.out
  go_wp2_with fail
  have HX : Hid (Below w1.heap.size w1 w1.drew) := Lib.hid (Below.refl w1.heap.size w1).drew
  have HK : Hid (∀ W, Below w1.heap.size w1 W → (fun w' => w'.cell? ⟨w.heap.size, 3, none⟩ = some (.slice (some ad) m.methods.length h.c3) ∧ w'.cell? ⟨w.heap.size + 1, 1, none⟩ = some (.int .i64 (j : Int)) ∧ w'.cell? (ad.add (j * 8)) = some (.slice hx.A0 y.args.length hx.k0) ∧ w'.cell? (off_ (ad.add (j * 8)) 1) = some (.slice hx.A1 y.locals.length hx.k1) ∧ w'.cell? (off_ (ad.add (j * 8)) 2) = some (.int .i64 y.ret.1) ∧ w'.cell? (off_ (ad.add (j * 8)) 3) = some (.int .i64 y.ret.2) ∧ w'.cell? (off_ (ad.add (j * 8)) 4) = some (.slice hx.A4 y.code.length hx.k4) ∧ w'.cell? (off_ (ad.add (j * 8)) 5) = some (.int .i64 y.depth) ∧ w'.cell? (off_ (ad.add (j * 8)) 6) = some (.int .i64 y.pot) ∧ w'.cell? (off_ (ad.add (j * 8)) 7) = some (.slice hx.A7 y.phi.length hx.k7)) W) := Lib.hid (fun W hW => by
    obtain ⟨d0, d1, d2, d3, d4, d5, d6, d7⟩ := HMC.out.keep hW (by rw [addr_add_block]; exact HAB.out)
    exact ⟨(hW.cell (p := ⟨w.heap.size, 3, none⟩) (by show w.heap.size < _; omega)).trans q3, (hW.cell (p := ⟨w.heap.size + 1, 1, none⟩) (by show w.heap.size + 1 < _; omega)).trans o1, d0, d1, d2, d3, d4, d5, d6, d7⟩)
  go_region_held3 (fun w' => w'.cell? ⟨w.heap.size, 3, none⟩ = some (.slice (some ad) m.methods.length h.c3) ∧ w'.cell? ⟨w.heap.size + 1, 1, none⟩ = some (.int .i64 (j : Int)) ∧ w'.cell? (ad.add (j * 8)) = some (.slice hx.A0 y.args.length hx.k0) ∧ w'.cell? (off_ (ad.add (j * 8)) 1) = some (.slice hx.A1 y.locals.length hx.k1) ∧ w'.cell? (off_ (ad.add (j * 8)) 2) = some (.int .i64 y.ret.1) ∧ w'.cell? (off_ (ad.add (j * 8)) 3) = some (.int .i64 y.ret.2) ∧ w'.cell? (off_ (ad.add (j * 8)) 4) = some (.slice hx.A4 y.code.length hx.k4) ∧ w'.cell? (off_ (ad.add (j * 8)) 5) = some (.int .i64 y.depth) ∧ w'.cell? (off_ (ad.add (j * 8)) 6) = some (.int .i64 y.pot) ∧ w'.cell? (off_ (ad.add (j * 8)) 7) = some (.slice hx.A7 y.phi.length hx.k7)) (first | exact HK.out _ HX.out | exact HK.out _ HX3.out) (first | (go_at_call 64; (with_reducible refine (rgives_is (hx := hx) HR).mono ?_); rintro e w3 ⟨A5, c5, rfl, hs, hb⟩; have HX3 := Lib.hid (HX.out.trans (hb.mono HX.out.size)); have HS3 := Lib.hid hs; clear hb hs))
  all_goals
    go_wp2_with fail
    go_ret2
    exact ⟨_, _, _, _, rfl, (HM.out.now HX3.out).args, HS3.out, HW.out.trans (HX3.out.mono HW.out.size)⟩

end Go.Proofs.Ytefgepppcmhphaa
