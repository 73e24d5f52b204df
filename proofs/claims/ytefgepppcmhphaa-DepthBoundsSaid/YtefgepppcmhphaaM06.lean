/-
  What the document's own answer for whether all is there that an instruction names (named) comes to.
-/
import Derived.Test.YtefgepppcmhphaaM02
import Derived.Test.YtefgepppcmhphaaM04
import Derived.Test.YtefgepppcmhphaaM05
namespace Go.Proofs.Ytefgepppcmhphaa
set_option maxRecDepth 100000
set_option linter.unusedVariables false
set_option linter.unusedSimpArgs false
open Go.ChangeShapes Go.WideShapes Go.ChangeAt Go.RowKit
set_option linter.unusedVariables false
set_option linter.unusedSimpArgs false

/-- How many slots a class has; none if there is no such class. -/
def slotsN (cl : List Cls) (a : Int) : Int := match cl[a.toNat]? with
  | some c => c.slots.length
  | none => 0
/-- Is all there that an instruction names? -/
def namedB (m : Img) (x : Mth) (op a b : Int) : Bool :=
  if op = 1 then decide (a < m.ints.length) else
  if op = 3 ∨ op = 4 then decide (a < x.args.length + x.locals.length) else
  if op = 18 ∨ op = 19 then decide (a < x.code.length) else
  if op = 22 ∨ op = 34 then decide (a < m.classes.length) else
  if op = 27 ∨ op = 28 then decide (a < m.classes.length) && decide (b < (fieldsOf m.classes a).length) else
  if op = 29 ∨ op = 30 then decide (a < m.statics.length) else
  if op = 31 then decide (a < m.methods.length) else
  if op = 32 then decide (a < m.classes.length) && decide (b < slotsN m.classes a) else true

/-- Three boxes one behind the other. -/
theorem three_boxes (w : World) (vs us ts : List Value) (T U V : TypeId) :
    Cells (((w.alloc (.cells vs.toArray T)).alloc (.cells us.toArray U)).alloc (.cells ts.toArray V)) w.heap.size vs ∧
    Cells (((w.alloc (.cells vs.toArray T)).alloc (.cells us.toArray U)).alloc (.cells ts.toArray V)) (w.heap.size + 1) us ∧
    Cells (((w.alloc (.cells vs.toArray T)).alloc (.cells us.toArray U)).alloc (.cells ts.toArray V)) (w.heap.size + 1 + 1) ts ∧
    Below w.heap.size w (((w.alloc (.cells vs.toArray T)).alloc (.cells us.toArray U)).alloc (.cells ts.toArray V)) ∧
    (((w.alloc (.cells vs.toArray T)).alloc (.cells us.toArray U)).alloc (.cells ts.toArray V)).heap.size = w.heap.size + 3 := by
  have z1 : (w.alloc (.cells vs.toArray T)).heap.size = w.heap.size + 1 := by simp
  have z2 : ((w.alloc (.cells vs.toArray T)).alloc (.cells us.toArray U)).heap.size = w.heap.size + 2 := by simp
  have z3 : (((w.alloc (.cells vs.toArray T)).alloc (.cells us.toArray U)).alloc (.cells ts.toArray V)).heap.size = w.heap.size + 3 := by simp
  have b3 : Below (w.heap.size + 2) ((w.alloc (.cells vs.toArray T)).alloc (.cells us.toArray U)) (((w.alloc (.cells vs.toArray T)).alloc (.cells us.toArray U)).alloc (.cells ts.toArray V)) := (Below.refl _ _).alloc (by omega) _
  have b2 : Below (w.heap.size + 1) (w.alloc (.cells vs.toArray T)) (((w.alloc (.cells vs.toArray T)).alloc (.cells us.toArray U)).alloc (.cells ts.toArray V)) := ((Below.refl _ _).alloc (by omega) _).trans (b3.mono (by omega))
  have h1 := cells_new w vs T
  have h2 := cells_new (w.alloc (.cells vs.toArray T)) us U
  have h3 := cells_new ((w.alloc (.cells vs.toArray T)).alloc (.cells us.toArray U)) ts V
  rw [z1] at h2
  rw [z2] at h3
  exact ⟨h1.keep b2 (by omega), h2.keep b3 (by omega), h3, ((Below.refl _ _).alloc (Nat.le_refl _) _).trans (b2.mono (by omega)), z3⟩

abbrev imgL (h : Hnd) (m : Img) : List Value :=
  [.slice h.A0 m.classes.length h.c0, .slice h.A1 m.statics.length h.c1, .slice h.A2 m.ints.length h.c2, .slice h.A3 m.methods.length h.c3, .slice h.A4 m.entries.length h.c4, .int .i64 m.stack, .int .i64 m.heap]
theorem fields_call {m : Img} {c : Int} {h : Hnd} {w w0 : World} {L : List (Int × Int)} (HI : Hid (ImgIn w0 w0.heap.size h m)) (HX : Hid (Below w0.heap.size w0 w)) (HN : Hid (m.classes.length ≤ 1000)) (HF : Hid (∀ x ∈ m.classes, x.fields.length ≤ 1000)) (HL : Hid (fieldsOf m.classes c = L)) :
    Calls Try.prog 49 #[imgV h m, .int .i64 c] w fun e w' => ∃ A k, e = .returned (.slice A L.length k) ∧ Below w.heap.size w w' := by
  refine (rfields_any m c h w (HI.out.now HX.out) HN.out HF.out).mono ?_
  rw [HL.out]
  rintro e w' ⟨v, rfl, ho, hb⟩
  obtain ⟨A, k, rfl, _, _⟩ := own_types ho
  exact ⟨A, k, rfl, hb⟩

set_option maxHeartbeats 3200000 in
theorem rnamed_any (m : Img) (x : Mth) (op a b : Int) (h : Hnd) (hx : MHnd) (w : World) (H : ImgIn w w.heap.size h m) (HM : MthIn w w.heap.size hx x) (h0 : 0 ≤ a) (hn : m.classes.length ≤ 1000) (hf : ∀ x ∈ m.classes, x.fields.length ≤ 1000) (ha : x.args.length ≤ 1000) (hl : x.locals.length ≤ 1000) :
    Calls Try.prog 51 #[imgV h m, mthV hx x, insV op a b] w fun e w' => e = .returned (.bool (namedB m x op a b)) ∧ Below w.heap.size w w' := by
  obtain ⟨hq, hp, hc, hb, hz⟩ := three_boxes w (imgL h m) (mthL hx x) [.int .i64 op, .int .i64 a, .int .i64 b] 28 54 51
  have HQ := Lib.hid hq
  have HP := Lib.hid hp
  have HC := Lib.hid hc
  have HW := Lib.hid hb
  have HZ := Lib.hid hz
  have HI := Lib.hid (H.now hb)
  have HF := Lib.hid hf
  have HN := Lib.hid hn
  have l0 := H.classes.le
  have l0c := H.classes.cap
  have l1 := H.statics.le
  have l1c := H.statics.cap
  have l2 := H.ints.le
  have l2c := H.ints.cap
  have l3 := H.methods.le
  have l3c := H.methods.cap
  have l4 := HM.code.le
  have l4c := HM.code.cap
  clear hq hp hc hb hz hf H HM
  go_enter Try.func51, Try.ntmps51
  go_upto_region 1 with fail
  generalize ((w.alloc (.cells (imgL h m).toArray 28)).alloc (.cells (mthL hx x).toArray 54)).alloc (.cells [Value.int .i64 op, .int .i64 a, .int .i64 b].toArray 51) = w1 at *
  have q0 := HQ.out 0 _ rfl
  have q1 := HQ.out 1 _ rfl
  have q2 := HQ.out 2 _ rfl
  have q3 := HQ.out 3 _ rfl
  have q4 := HQ.out 4 _ rfl
  have q5 := HQ.out 5 _ rfl
  have q6 := HQ.out 6 _ rfl
  have p0 := HP.out 0 _ rfl
  have p1 := HP.out 1 _ rfl
  have p2 := HP.out 2 _ rfl
  have p3 := HP.out 3 _ rfl
  have p4 := HP.out 4 _ rfl
  have p5 := HP.out 5 _ rfl
  have p6 := HP.out 6 _ rfl
  have p7 := HP.out 7 _ rfl
  have a0 := HC.out 0 _ rfl
  have a1 := HC.out 1 _ rfl
  have a2 := HC.out 2 _ rfl
  by_cases o1 : op = 1
  · subst o1
    have E := Lib.hid (show namedB m x 1 a b = decide (a < m.ints.length) from rfl)
    go_wp2_with fail
    go_ret
    exact ⟨by rw [E.out]; rfl, HW.out⟩
  by_cases o3 : op = 3
  · subst o3
    have E := Lib.hid (show namedB m x 3 a b = decide (a < x.args.length + x.locals.length) from rfl)
    go_wp2_with fail
    go_ret
    exact ⟨by rw [E.out]; rfl, HW.out⟩
  by_cases o4 : op = 4
  · subst o4
    have E := Lib.hid (show namedB m x 4 a b = decide (a < x.args.length + x.locals.length) from rfl)
    go_wp2_with fail
    go_ret
    exact ⟨by rw [E.out]; rfl, HW.out⟩
  by_cases o18 : op = 18
  · subst o18
    have E := Lib.hid (show namedB m x 18 a b = decide (a < x.code.length) from rfl)
    go_wp2_with fail
    go_ret
    exact ⟨by rw [E.out]; rfl, HW.out⟩
  by_cases o19 : op = 19
  · subst o19
    have E := Lib.hid (show namedB m x 19 a b = decide (a < x.code.length) from rfl)
    go_wp2_with fail
    go_ret
    exact ⟨by rw [E.out]; rfl, HW.out⟩
  by_cases o22 : op = 22
  · subst o22
    have E := Lib.hid (show namedB m x 22 a b = decide (a < m.classes.length) from rfl)
    go_wp2_with fail
    go_ret
    exact ⟨by rw [E.out]; rfl, HW.out⟩
  by_cases o34 : op = 34
  · subst o34
    have E := Lib.hid (show namedB m x 34 a b = decide (a < m.classes.length) from rfl)
    go_wp2_with fail
    go_ret
    exact ⟨by rw [E.out]; rfl, HW.out⟩
  by_cases o29 : op = 29
  · subst o29
    have E := Lib.hid (show namedB m x 29 a b = decide (a < m.statics.length) from rfl)
    go_wp2_with fail
    go_ret
    exact ⟨by rw [E.out]; rfl, HW.out⟩
  by_cases o30 : op = 30
  · subst o30
    have E := Lib.hid (show namedB m x 30 a b = decide (a < m.statics.length) from rfl)
    go_wp2_with fail
    go_ret
    exact ⟨by rw [E.out]; rfl, HW.out⟩
  by_cases o31 : op = 31
  · subst o31
    have E := Lib.hid (show namedB m x 31 a b = decide (a < m.methods.length) from rfl)
    go_wp2_with fail
    go_ret
    exact ⟨by rw [E.out]; rfl, HW.out⟩
  by_cases o27 : op = 27
  · subst o27
    have E := Lib.hid (show namedB m x 27 a b = (decide (a < m.classes.length) && decide (b < (fieldsOf m.classes a).length)) from rfl)
    obtain ⟨L, hL⟩ : ∃ L, fieldsOf m.classes a = L := ⟨_, rfl⟩
    rw [hL] at E
    have HL := Lib.hid hL
    clear hL
    by_cases hlt : a < (m.classes.length : Int)
    · have E2 := Lib.hid (show namedB m x 27 a b = decide (b < (L.length : Int)) by rw [E.out, decide_eq_true hlt]; rfl)
      go_upto_region 15 with fail
      have HXd : Hid (Below w1.heap.size w1 w1.drew) := Lib.hid (Below.refl _ _).drew
      go_region_held3 (fun w' => w'.cell? ⟨w.heap.size + 1 + 1, 1, none⟩ = some (.int .i64 a) ∧ w'.cell? ⟨w.heap.size + 1 + 1, 2, none⟩ = some (.int .i64 b) ∧ w'.cell? ⟨w.heap.size, 0, none⟩ = some (.slice h.A0 m.classes.length h.c0) ∧ w'.cell? ⟨w.heap.size, 1, none⟩ = some (.slice h.A1 m.statics.length h.c1) ∧ w'.cell? ⟨w.heap.size, 2, none⟩ = some (.slice h.A2 m.ints.length h.c2) ∧ w'.cell? ⟨w.heap.size, 3, none⟩ = some (.slice h.A3 m.methods.length h.c3) ∧ w'.cell? ⟨w.heap.size, 4, none⟩ = some (.slice h.A4 m.entries.length h.c4) ∧ w'.cell? ⟨w.heap.size, 5, none⟩ = some (.int .i64 m.stack) ∧ w'.cell? ⟨w.heap.size, 6, none⟩ = some (.int .i64 m.heap)) (first | exact ⟨a1, a2, q0, q1, q2, q3, q4, q5, q6⟩)
        (first | (go_at_call 49; (with_reducible refine (fields_call HI HXd HN HF HL).mono ?_); rintro e w3 ⟨A, k, rfl, hb⟩; have HX3 := Lib.hid (HXd.out.trans (hb.mono HXd.out.size)); have HQ := Lib.hid (HQ.out.keep HX3.out (by have := HZ.out; omega)); have HC := Lib.hid (HC.out.keep HX3.out (by have := HZ.out; omega)); have a1 := HC.out 1 _ rfl; have a2 := HC.out 2 _ rfl; have q0 := HQ.out 0 _ rfl; have q1 := HQ.out 1 _ rfl; have q2 := HQ.out 2 _ rfl; have q3 := HQ.out 3 _ rfl; have q4 := HQ.out 4 _ rfl; have q5 := HQ.out 5 _ rfl; have q6 := HQ.out 6 _ rfl; clear hb))
      go_wp2_with fail
      go_ret
      exact ⟨by rw [E2.out]; rfl, HW.out.trans (HX3.out.mono (by have := HZ.out; omega))⟩
    · have E2 := Lib.hid (show namedB m x 27 a b = false by rw [E.out, decide_eq_false hlt]; rfl)
      have hd : decide (a < (m.classes.length : Int)) = false := decide_eq_false hlt
      go_upto_region 15 with fail
      go_quiet (fail)
      go_wp2_with fail
      go_ret
      exact ⟨by rw [E2.out]; rfl, below_drewN' HW.out _⟩
  by_cases o28 : op = 28
  · subst o28
    have E := Lib.hid (show namedB m x 28 a b = (decide (a < m.classes.length) && decide (b < (fieldsOf m.classes a).length)) from rfl)
    obtain ⟨L, hL⟩ : ∃ L, fieldsOf m.classes a = L := ⟨_, rfl⟩
    rw [hL] at E
    have HL := Lib.hid hL
    clear hL
    by_cases hlt : a < (m.classes.length : Int)
    · have E2 := Lib.hid (show namedB m x 28 a b = decide (b < (L.length : Int)) by rw [E.out, decide_eq_true hlt]; rfl)
      go_upto_region 15 with fail
      have HXd : Hid (Below w1.heap.size w1 w1.drew) := Lib.hid (Below.refl _ _).drew
      go_region_held3 (fun w' => w'.cell? ⟨w.heap.size + 1 + 1, 1, none⟩ = some (.int .i64 a) ∧ w'.cell? ⟨w.heap.size + 1 + 1, 2, none⟩ = some (.int .i64 b) ∧ w'.cell? ⟨w.heap.size, 0, none⟩ = some (.slice h.A0 m.classes.length h.c0) ∧ w'.cell? ⟨w.heap.size, 1, none⟩ = some (.slice h.A1 m.statics.length h.c1) ∧ w'.cell? ⟨w.heap.size, 2, none⟩ = some (.slice h.A2 m.ints.length h.c2) ∧ w'.cell? ⟨w.heap.size, 3, none⟩ = some (.slice h.A3 m.methods.length h.c3) ∧ w'.cell? ⟨w.heap.size, 4, none⟩ = some (.slice h.A4 m.entries.length h.c4) ∧ w'.cell? ⟨w.heap.size, 5, none⟩ = some (.int .i64 m.stack) ∧ w'.cell? ⟨w.heap.size, 6, none⟩ = some (.int .i64 m.heap)) (first | exact ⟨a1, a2, q0, q1, q2, q3, q4, q5, q6⟩)
        (first | (go_at_call 49; (with_reducible refine (fields_call HI HXd HN HF HL).mono ?_); rintro e w3 ⟨A, k, rfl, hb⟩; have HX3 := Lib.hid (HXd.out.trans (hb.mono HXd.out.size)); have HQ := Lib.hid (HQ.out.keep HX3.out (by have := HZ.out; omega)); have HC := Lib.hid (HC.out.keep HX3.out (by have := HZ.out; omega)); have a1 := HC.out 1 _ rfl; have a2 := HC.out 2 _ rfl; have q0 := HQ.out 0 _ rfl; have q1 := HQ.out 1 _ rfl; have q2 := HQ.out 2 _ rfl; have q3 := HQ.out 3 _ rfl; have q4 := HQ.out 4 _ rfl; have q5 := HQ.out 5 _ rfl; have q6 := HQ.out 6 _ rfl; clear hb))
      go_wp2_with fail
      go_ret
      exact ⟨by rw [E2.out]; rfl, HW.out.trans (HX3.out.mono (by have := HZ.out; omega))⟩
    · have E2 := Lib.hid (show namedB m x 28 a b = false by rw [E.out, decide_eq_false hlt]; rfl)
      have hd : decide (a < (m.classes.length : Int)) = false := decide_eq_false hlt
      go_upto_region 15 with fail
      go_quiet (fail)
      go_wp2_with fail
      go_ret
      exact ⟨by rw [E2.out]; rfl, below_drewN' HW.out _⟩
  by_cases o32 : op = 32
  · subst o32
    have E := Lib.hid (show namedB m x 32 a b = (decide (a < m.classes.length) && decide (b < slotsN m.classes a)) from rfl)
    by_cases hlt : a < (m.classes.length : Int)
    · obtain ⟨n, rfl⟩ := Int.eq_ofNat_of_zero_le h0
      have hnl : n < m.classes.length := by omega
      obtain ⟨adc, e0, hab, hcl⟩ := HI.out.classes.row.at_ hnl
      have HSN := Lib.hid (show slotsN m.classes (n : Int) = (m.classes[n].slots.length : Int) by unfold slotsN; rw [Int.toNat_natCast, List.getElem?_eq_getElem hnl])
      generalize m.classes[n] = c at *
      obtain ⟨_, _, ⟨A2, k2, s2, hs2⟩⟩ := hcl
      rw [e0] at q0
      have E2 := Lib.hid (show namedB m x 32 (n : Int) b = decide (b < (c.slots.length : Int)) by rw [E.out, HSN.out, decide_eq_true hlt]; rfl)
      clear e0 hs2 HSN
      go_upto_region 22 with fail
      go_quiet (fail)
      go_wp2_with fail
      go_ret
      exact ⟨by rw [E2.out]; rfl, below_drewN' HW.out _⟩
    · have E2 := Lib.hid (show namedB m x 32 a b = false by rw [E.out, decide_eq_false hlt]; rfl)
      have hd : decide (a < (m.classes.length : Int)) = false := decide_eq_false hlt
      go_upto_region 22 with fail
      go_quiet (fail)
      go_wp2_with fail
      go_ret
      exact ⟨by rw [E2.out]; rfl, below_drewN' HW.out _⟩
  have E := Lib.hid (show namedB m x op a b = true by unfold namedB; simp [o1, o3, o4, o18, o19, o22, o34, o27, o28, o29, o30, o31, o32])
  go_wp2_with fail
  go_ret
  exact ⟨by rw [E.out]; rfl, HW.out⟩
end Go.Proofs.Ytefgepppcmhphaa
