/-
  What the program's own instrNamed comes to.
-/
import Derived.Test.YtjgfoialajgfhaaSaneCount
namespace Go.Proofs.Ytjgfoialajgfhaa
set_option maxRecDepth 100000
set_option linter.unusedVariables false
set_option linter.unusedSimpArgs false
open Go.ChangeShapes Go.WideShapes Go.ChangeAt Go.RowKit
set_option linter.unusedVariables false
set_option linter.unusedSimpArgs false

/-- The counter stands where it is said to. -/
structure CntIn (w : World) (N : Nat) (h : Hnd) (m : Img) : Prop where
  cell : w.cell? ⟨N, 0, none⟩ = some (.slice h.A0 m.classes.length h.c0)
  lt : N < w.heap.size
theorem CntIn.now {w w' : World} {N : Nat} {h : Hnd} {m : Img} (H : CntIn w N h m) (hb : Below w.heap.size w w') : CntIn w' N h m :=
  ⟨(hb.cell (p := ⟨N, 0, none⟩) H.lt).trans H.cell, Nat.lt_of_lt_of_le H.lt hb.size⟩
theorem count_is {m : Img} {c : Int} {h : Hnd} {N : Nat} {w0 w : World} {L : List (Int × Int)} (HI : Hid (ImgIn w0 w0.heap.size h m)) (HX : Hid (Below w0.heap.size w0 w)) (HK : Hid (CntIn w0 N h m)) (HS : Hid (supsB m.classes = true)) (HT : Hid (Tame m)) (h1 : c < m.classes.length) (HL : Hid (fieldsOf m.classes c = L)) :
    Calls Try.prog 47 #[.int .i64 c, .pointer (some ⟨N, 0, none⟩)] w fun e w' => e = .returned (.int .i64 (L.length : Int)) ∧ Below w.heap.size w w' := by
  have H := scount_any m.classes c N h.A0 h.c0 w.heap.size w (Nat.le_refl _) (HI.out.now HX.out).classes (HK.out.now HX.out).cell HS.out HT.out.f HT.out.n h1
  rw [HL.out] at H
  exact H.mono fun e w' g => ⟨g.1, by rw [← g.2]; exact Below.refl _ _⟩
theorem places_is {x : Mth} {hx : MHnd} {w : World} (HU : Hid (TameM x)) :
    Calls Try.prog 51 #[mthV hx x] w fun e w' => e = .returned (.int .i64 ((x.args.length : Int) + (x.locals.length : Int))) ∧ Below w.heap.size w w' :=
  splaces_any x hx w HU.out.a HU.out.l

set_option maxHeartbeats 3200000 in
theorem sinstr_any (m : Img) (x : Mth) (op a b : Int) (N : Nat) (h : Hnd) (hx : MHnd) (w : World) (H : ImgIn w w.heap.size h m) (HM : MthIn w w.heap.size hx x) (hk : CntIn w N h m) (h0 : 0 ≤ a) (ht : Tame m) (hu : TameM x) (hs : supsB m.classes = true) :
    Calls Try.prog 52 #[imgV h m, mthV hx x, insV op a b, cntV N] w fun e w' => e = .returned (.bool (namedB m x op a b)) ∧ Below w.heap.size w w' := by
  obtain ⟨hq, hp, hc, hb, hz⟩ := three_boxes w (imgL h m) (mthL hx x) [.int .i64 op, .int .i64 a, .int .i64 b] 28 38 41
  have HQ := Lib.hid hq
  have HP := Lib.hid hp
  have HC := Lib.hid hc
  have HW := Lib.hid hb
  have HZ := Lib.hid hz
  have HI := Lib.hid (H.now hb)
  have HK := Lib.hid (hk.now hb)
  have HT := Lib.hid ht
  have HU := Lib.hid hu
  have HS := Lib.hid hs
  have l0 := H.classes.le
  have l0c := H.classes.cap
  have l1 := H.statics.le
  have l1c := H.statics.cap
  have l2 := H.ints.le
  have l2c := H.ints.cap
  have l3 := H.methods.le
  have l3c := H.methods.cap
  have l4 := HM.code.le
  have l4c := HM.code.cap
  have m1 := hu.a
  have m2 := hu.l
  clear hq hp hc hb hz H HM hk ht hu hs
  go_enter Try.func52, Try.ntmps52
  go_upto_region 1 with fail
  generalize ((w.alloc (.cells (imgL h m).toArray 28)).alloc (.cells (mthL hx x).toArray 38)).alloc (.cells [Value.int .i64 op, .int .i64 a, .int .i64 b].toArray 41) = w1 at *
  have q0 := HQ.out 0 _ rfl
  have q1 := HQ.out 1 _ rfl
  have q2 := HQ.out 2 _ rfl
  have q3 := HQ.out 3 _ rfl
  have q4 := HQ.out 4 _ rfl
  have q5 := HQ.out 5 _ rfl
  have q6 := HQ.out 6 _ rfl
  have p0 := HP.out 0 _ rfl
  have p1 := HP.out 1 _ rfl
  have p2 := HP.out 2 _ rfl
  have p3 := HP.out 3 _ rfl
  have p4 := HP.out 4 _ rfl
  have p5 := HP.out 5 _ rfl
  have p6 := HP.out 6 _ rfl
  have p7 := HP.out 7 _ rfl
  have a0 := HC.out 0 _ rfl
  have a1 := HC.out 1 _ rfl
  have a2 := HC.out 2 _ rfl
  by_cases o1 : op = 1
  · subst o1
    have E := Lib.hid (show namedB m x 1 a b = decide (a < m.ints.length) from rfl)
    go_wp2_with fail
    go_ret
    exact ⟨by rw [E.out]; rfl, HW.out⟩
  by_cases o3 : op = 3
  · subst o3
    have E := Lib.hid (show namedB m x 3 a b = decide (a < x.args.length + x.locals.length) from rfl)
    go_upto_region 6 with fail
    have HXd : Hid (Below w1.heap.size w1 w1.drew) := Lib.hid (Below.refl _ _).drew
    go_region_held3 (fun w' => w'.cell? ⟨w.heap.size + 1 + 1, 1, none⟩ = some (.int .i64 a) ∧ w'.cell? ⟨w.heap.size + 1, 0, none⟩ = some (.slice hx.A0 x.args.length hx.k0) ∧ w'.cell? ⟨w.heap.size + 1, 1, none⟩ = some (.slice hx.A1 x.locals.length hx.k1) ∧ w'.cell? ⟨w.heap.size + 1, 2, none⟩ = some (.int .i64 x.ret.1) ∧ w'.cell? ⟨w.heap.size + 1, 3, none⟩ = some (.int .i64 x.ret.2) ∧ w'.cell? ⟨w.heap.size + 1, 4, none⟩ = some (.slice hx.A4 x.code.length hx.k4) ∧ w'.cell? ⟨w.heap.size + 1, 5, none⟩ = some (.int .i64 x.depth) ∧ w'.cell? ⟨w.heap.size + 1, 6, none⟩ = some (.int .i64 x.pot) ∧ w'.cell? ⟨w.heap.size + 1, 7, none⟩ = some (.slice hx.A7 x.phi.length hx.k7)) (first | exact ⟨a1, p0, p1, p2, p3, p4, p5, p6, p7⟩)
      (first | (go_at_call 51; (with_reducible refine (places_is HU).mono ?_); rintro e w3 ⟨rfl, hb⟩; have HX3 := Lib.hid (HXd.out.trans (hb.mono HXd.out.size)); have HC := Lib.hid (HC.out.keep HX3.out (by have := HZ.out; omega)); have a1 := HC.out 1 _ rfl; have a2 := HC.out 2 _ rfl; have HP := Lib.hid (HP.out.keep HX3.out (by have := HZ.out; omega)); have p0 := HP.out 0 _ rfl; have p1 := HP.out 1 _ rfl; have p2 := HP.out 2 _ rfl; have p3 := HP.out 3 _ rfl; have p4 := HP.out 4 _ rfl; have p5 := HP.out 5 _ rfl; have p6 := HP.out 6 _ rfl; have p7 := HP.out 7 _ rfl; clear hb))
    go_wp2_with fail
    go_ret
    exact ⟨by rw [E.out]; rfl, HW.out.trans (HX3.out.mono (by have := HZ.out; omega))⟩
  by_cases o4 : op = 4
  · subst o4
    have E := Lib.hid (show namedB m x 4 a b = decide (a < x.args.length + x.locals.length) from rfl)
    go_upto_region 6 with fail
    have HXd : Hid (Below w1.heap.size w1 w1.drew) := Lib.hid (Below.refl _ _).drew
    go_region_held3 (fun w' => w'.cell? ⟨w.heap.size + 1 + 1, 1, none⟩ = some (.int .i64 a) ∧ w'.cell? ⟨w.heap.size + 1, 0, none⟩ = some (.slice hx.A0 x.args.length hx.k0) ∧ w'.cell? ⟨w.heap.size + 1, 1, none⟩ = some (.slice hx.A1 x.locals.length hx.k1) ∧ w'.cell? ⟨w.heap.size + 1, 2, none⟩ = some (.int .i64 x.ret.1) ∧ w'.cell? ⟨w.heap.size + 1, 3, none⟩ = some (.int .i64 x.ret.2) ∧ w'.cell? ⟨w.heap.size + 1, 4, none⟩ = some (.slice hx.A4 x.code.length hx.k4) ∧ w'.cell? ⟨w.heap.size + 1, 5, none⟩ = some (.int .i64 x.depth) ∧ w'.cell? ⟨w.heap.size + 1, 6, none⟩ = some (.int .i64 x.pot) ∧ w'.cell? ⟨w.heap.size + 1, 7, none⟩ = some (.slice hx.A7 x.phi.length hx.k7)) (first | exact ⟨a1, p0, p1, p2, p3, p4, p5, p6, p7⟩)
      (first | (go_at_call 51; (with_reducible refine (places_is HU).mono ?_); rintro e w3 ⟨rfl, hb⟩; have HX3 := Lib.hid (HXd.out.trans (hb.mono HXd.out.size)); have HC := Lib.hid (HC.out.keep HX3.out (by have := HZ.out; omega)); have a1 := HC.out 1 _ rfl; have a2 := HC.out 2 _ rfl; have HP := Lib.hid (HP.out.keep HX3.out (by have := HZ.out; omega)); have p0 := HP.out 0 _ rfl; have p1 := HP.out 1 _ rfl; have p2 := HP.out 2 _ rfl; have p3 := HP.out 3 _ rfl; have p4 := HP.out 4 _ rfl; have p5 := HP.out 5 _ rfl; have p6 := HP.out 6 _ rfl; have p7 := HP.out 7 _ rfl; clear hb))
    go_wp2_with fail
    go_ret
    exact ⟨by rw [E.out]; rfl, HW.out.trans (HX3.out.mono (by have := HZ.out; omega))⟩
  by_cases o18 : op = 18
  · subst o18
    have E := Lib.hid (show namedB m x 18 a b = decide (a < x.code.length) from rfl)
    go_wp2_with fail
    go_ret
    exact ⟨by rw [E.out]; rfl, HW.out⟩
  by_cases o19 : op = 19
  · subst o19
    have E := Lib.hid (show namedB m x 19 a b = decide (a < x.code.length) from rfl)
    go_wp2_with fail
    go_ret
    exact ⟨by rw [E.out]; rfl, HW.out⟩
  by_cases o22 : op = 22
  · subst o22
    have E := Lib.hid (show namedB m x 22 a b = decide (a < m.classes.length) from rfl)
    go_wp2_with fail
    go_ret
    exact ⟨by rw [E.out]; rfl, HW.out⟩
  by_cases o34 : op = 34
  · subst o34
    have E := Lib.hid (show namedB m x 34 a b = decide (a < m.classes.length) from rfl)
    go_wp2_with fail
    go_ret
    exact ⟨by rw [E.out]; rfl, HW.out⟩
  by_cases o29 : op = 29
  · subst o29
    have E := Lib.hid (show namedB m x 29 a b = decide (a < m.statics.length) from rfl)
    go_wp2_with fail
    go_ret
    exact ⟨by rw [E.out]; rfl, HW.out⟩
  by_cases o30 : op = 30
  · subst o30
    have E := Lib.hid (show namedB m x 30 a b = decide (a < m.statics.length) from rfl)
    go_wp2_with fail
    go_ret
    exact ⟨by rw [E.out]; rfl, HW.out⟩
  by_cases o31 : op = 31
  · subst o31
    have E := Lib.hid (show namedB m x 31 a b = decide (a < m.methods.length) from rfl)
    go_wp2_with fail
    go_ret
    exact ⟨by rw [E.out]; rfl, HW.out⟩
  by_cases o27 : op = 27
  · subst o27
    have E := Lib.hid (show namedB m x 27 a b = (decide (a < m.classes.length) && decide (b < (fieldsOf m.classes a).length)) from rfl)
    obtain ⟨L, hL⟩ : ∃ L, fieldsOf m.classes a = L := ⟨_, rfl⟩
    rw [hL] at E
    have HL := Lib.hid hL
    clear hL
    by_cases hlt : a < (m.classes.length : Int)
    · have E2 := Lib.hid (show namedB m x 27 a b = decide (b < (L.length : Int)) by rw [E.out, decide_eq_true hlt]; rfl)
      go_upto_region 15 with fail
      have HXd : Hid (Below w1.heap.size w1 w1.drew) := Lib.hid (Below.refl _ _).drew
      go_region_held3 (fun w' => w'.cell? ⟨w.heap.size + 1 + 1, 1, none⟩ = some (.int .i64 a) ∧ w'.cell? ⟨w.heap.size + 1 + 1, 2, none⟩ = some (.int .i64 b) ∧ w'.cell? ⟨w.heap.size, 0, none⟩ = some (.slice h.A0 m.classes.length h.c0)) (first | exact ⟨a1, a2, q0⟩)
        (first | (go_at_call 47; (with_reducible refine (count_is HI HXd HK HS HT hlt HL).mono ?_); rintro e w3 ⟨rfl, hb⟩; have HX3 := Lib.hid (HXd.out.trans (hb.mono HXd.out.size)); have HC := Lib.hid (HC.out.keep HX3.out (by have := HZ.out; omega)); have a1 := HC.out 1 _ rfl; have a2 := HC.out 2 _ rfl; have HQ := Lib.hid (HQ.out.keep HX3.out (by have := HZ.out; omega)); have q0 := HQ.out 0 _ rfl; clear hb))
      go_wp2_with fail
      go_ret
      exact ⟨by rw [E2.out]; rfl, HW.out.trans (HX3.out.mono (by have := HZ.out; omega))⟩
    · have E2 := Lib.hid (show namedB m x 27 a b = false by rw [E.out, decide_eq_false hlt]; rfl)
      have hd : decide (a < (m.classes.length : Int)) = false := decide_eq_false hlt
      go_upto_region 15 with fail
      go_quiet (fail)
      go_wp2_with fail
      go_ret
      exact ⟨by rw [E2.out]; rfl, below_drewN' HW.out _⟩
  by_cases o28 : op = 28
  · subst o28
    have E := Lib.hid (show namedB m x 28 a b = (decide (a < m.classes.length) && decide (b < (fieldsOf m.classes a).length)) from rfl)
    obtain ⟨L, hL⟩ : ∃ L, fieldsOf m.classes a = L := ⟨_, rfl⟩
    rw [hL] at E
    have HL := Lib.hid hL
    clear hL
    by_cases hlt : a < (m.classes.length : Int)
    · have E2 := Lib.hid (show namedB m x 28 a b = decide (b < (L.length : Int)) by rw [E.out, decide_eq_true hlt]; rfl)
      go_upto_region 15 with fail
      have HXd : Hid (Below w1.heap.size w1 w1.drew) := Lib.hid (Below.refl _ _).drew
      go_region_held3 (fun w' => w'.cell? ⟨w.heap.size + 1 + 1, 1, none⟩ = some (.int .i64 a) ∧ w'.cell? ⟨w.heap.size + 1 + 1, 2, none⟩ = some (.int .i64 b) ∧ w'.cell? ⟨w.heap.size, 0, none⟩ = some (.slice h.A0 m.classes.length h.c0)) (first | exact ⟨a1, a2, q0⟩)
        (first | (go_at_call 47; (with_reducible refine (count_is HI HXd HK HS HT hlt HL).mono ?_); rintro e w3 ⟨rfl, hb⟩; have HX3 := Lib.hid (HXd.out.trans (hb.mono HXd.out.size)); have HC := Lib.hid (HC.out.keep HX3.out (by have := HZ.out; omega)); have a1 := HC.out 1 _ rfl; have a2 := HC.out 2 _ rfl; have HQ := Lib.hid (HQ.out.keep HX3.out (by have := HZ.out; omega)); have q0 := HQ.out 0 _ rfl; clear hb))
      go_wp2_with fail
      go_ret
      exact ⟨by rw [E2.out]; rfl, HW.out.trans (HX3.out.mono (by have := HZ.out; omega))⟩
    · have E2 := Lib.hid (show namedB m x 28 a b = false by rw [E.out, decide_eq_false hlt]; rfl)
      have hd : decide (a < (m.classes.length : Int)) = false := decide_eq_false hlt
      go_upto_region 15 with fail
      go_quiet (fail)
      go_wp2_with fail
      go_ret
      exact ⟨by rw [E2.out]; rfl, below_drewN' HW.out _⟩
  by_cases o32 : op = 32
  · subst o32
    have E := Lib.hid (show namedB m x 32 a b = (decide (a < m.classes.length) && decide (b < slotsN m.classes a)) from rfl)
    by_cases hlt : a < (m.classes.length : Int)
    · obtain ⟨n, rfl⟩ := Int.eq_ofNat_of_zero_le h0
      have hnl : n < m.classes.length := by omega
      obtain ⟨adc, e0, hab, hcl⟩ := HI.out.classes.row.at_ hnl
      have HSN := Lib.hid (show slotsN m.classes (n : Int) = (m.classes[n].slots.length : Int) by unfold slotsN; rw [Int.toNat_natCast, List.getElem?_eq_getElem hnl])
      generalize m.classes[n] = c at *
      obtain ⟨_, _, ⟨A2, k2, s2, hs2⟩⟩ := hcl
      rw [e0] at q0
      have E2 := Lib.hid (show namedB m x 32 (n : Int) b = decide (b < (c.slots.length : Int)) by rw [E.out, HSN.out, decide_eq_true hlt]; rfl)
      clear e0 hs2 HSN
      go_upto_region 22 with fail
      go_quiet (fail)
      go_wp2_with fail
      go_ret
      exact ⟨by rw [E2.out]; rfl, below_drewN' HW.out _⟩
    · have E2 := Lib.hid (show namedB m x 32 a b = false by rw [E.out, decide_eq_false hlt]; rfl)
      have hd : decide (a < (m.classes.length : Int)) = false := decide_eq_false hlt
      go_upto_region 22 with fail
      go_quiet (fail)
      go_wp2_with fail
      go_ret
      exact ⟨by rw [E2.out]; rfl, below_drewN' HW.out _⟩
  have E := Lib.hid (show namedB m x op a b = true by unfold namedB; simp [o1, o3, o4, o18, o19, o22, o34, o27, o28, o29, o30, o31, o32])
  go_wp2_with fail
  go_ret
  exact ⟨by rw [E.out]; rfl, HW.out⟩
end Go.Proofs.Ytjgfoialajgfhaa
