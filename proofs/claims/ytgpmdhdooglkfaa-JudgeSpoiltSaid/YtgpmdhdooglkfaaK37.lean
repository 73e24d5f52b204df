/-
  What flow.gives comes to: the instructions that name something.
  What flow's words for whether operands fit where others are wanted (fits, allFit) come to.
-/
import Derived.Test.YtgpmdhdooglkfaaK36
import Derived.RegionTactic
import Derived.ChangeAlike
import Derived.Deep.RegionHeld3
import Derived.Deep.QuietTactic
import Derived.BigQuiet
import Derived.Test.YtgpmdhdooglkfaaK18
import Derived.Test.YtgpmdhdooglkfaaK33
namespace Go.Proofs.Ytgpmdhdooglkfaa
set_option maxRecDepth 100000
set_option linter.unusedVariables false
set_option linter.unusedSimpArgs false
open Go.ChangeShapes Go.WideShapes Go.ChangeAt Go.RowKit

theorem fgv_3 (m : Img) (x : Mth) (f : Nat) (a b : Int) (hx : m.methods[f]? = some x) (ha : a ≤ 9223372036854775807) (tk : List (Int × Int)) (A : Option Addr) (c : Nat) (h : Hnd) (w : World) (H : ImgIn w w.heap.size h m) :
    Calls Try.prog 61 #[imgV h m, insV 3 a b, .int .i64 f, .slice A tk.length c] w (SomeTypes (givesP m x 3 a b tk) w) := by
  have e1 : givesP m x 3 a b tk = [localOf x a] := by simp [givesP, giveOf]
  rw [e1]
  clear e1
  obtain ⟨t, ht⟩ : ∃ t, localOf x a = t := ⟨_, rfl⟩
  have HT := Lib.hid ht
  rw [ht]
  clear ht
  obtain ⟨hw, hp⟩ := take_parts h m 3 a b w
  have HW := Lib.hid hw
  have HP := Lib.hid hp
  have HI := Lib.hid (H.now hw)
  clear hw hp H
  go_enter Try.func61, Try.ntmps61
  go_upto_region 1 with fail
  change Code.wp _ _ _ _ (twoW h m 3 a b w)
  go_upto_region 2 with (go_at_call 74; (refine (maker_is (h := h) (m := m) (w := w)).mono ?_); rintro e w2 ⟨rfl, rfl⟩)
  generalize takeW h m 3 a b w = w2 at *
  have HX : Hid (Below w2.heap.size w2 w2) := Lib.hid (Below.refl _ _)
  have HN := Lib.hid HP.out.fnlt
  have HC := Lib.hid HP.out.fn
  obtain ⟨q0, q1, q2, q3, q4, q5, q6⟩ := HP.out.img
  have o0 := HP.out.ins 0 _ rfl
  have o1 := HP.out.ins 1 _ rfl
  have o2 := HP.out.ins 2 _ rfl
  go_wp2_with (go_at_call 75; (with_reducible refine (flocal_is HI HX hx ha HT).mono ?_); rintro e w3 ⟨rfl, hb⟩; have HX3 := Lib.hid hb; clear hb)
  go_ret
  exact ⟨_, _, rfl, new_t1 (by simp) (by go_simp) (by go_simp), HW.out.trans ((HX3.out.alloc HX3.out.size _).mono HW.out.size)⟩

theorem fgv_29 (m : Img) (x : Mth) (f : Nat) (j : Nat) (b : Int) (t : Int × Int) (hs : m.statics[j]? = some t) (tk : List (Int × Int)) (A : Option Addr) (c : Nat) (h : Hnd) (w : World) (H : ImgIn w w.heap.size h m) :
    Calls Try.prog 61 #[imgV h m, insV 29 (j : Int) b, .int .i64 f, .slice A tk.length c] w (SomeTypes (givesP m x 29 (j : Int) b tk) w) := by
  have e0 : staticN m (j : Int) = t := by unfold staticN; rw [Int.toNat_natCast, hs]; rfl
  have e1 : givesP m x 29 (j : Int) b tk = [t] := by simp [givesP, giveOf, e0]
  rw [e1]
  clear e1
  have HS := Lib.hid hs
  clear hs e0
  obtain ⟨hw, hp⟩ := take_parts h m 29 (j : Int) b w
  have HW := Lib.hid hw
  have HP := Lib.hid hp
  have HI := Lib.hid (H.now hw)
  clear hw hp H
  go_enter Try.func61, Try.ntmps61
  go_upto_region 1 with fail
  change Code.wp _ _ _ _ (twoW h m 29 (j : Int) b w)
  go_upto_region 2 with (go_at_call 74; (refine (maker_is (h := h) (m := m) (w := w)).mono ?_); rintro e w2 ⟨rfl, rfl⟩)
  generalize takeW h m 29 (j : Int) b w = w2 at *
  have HX : Hid (Below w2.heap.size w2 w2) := Lib.hid (Below.refl _ _)
  have HN := Lib.hid HP.out.fnlt
  have HC := Lib.hid HP.out.fn
  obtain ⟨q0, q1, q2, q3, q4, q5, q6⟩ := HP.out.img
  have o0 := HP.out.ins 0 _ rfl
  have o1 := HP.out.ins 1 _ rfl
  have o2 := HP.out.ins 2 _ rfl
  go_wp2_with (go_at_call 77; (with_reducible refine (fstatic_is HI HX HS).mono ?_); rintro e w3 ⟨rfl, hb⟩; have HX3 := Lib.hid hb; clear hb)
  go_ret
  exact ⟨_, _, rfl, new_t1 (by simp) (by go_simp) (by go_simp), HW.out.trans ((HX3.out.alloc HX3.out.size _).mono HW.out.size)⟩

theorem fgv_31 (m : Img) (x : Mth) (f : Nat) (j : Nat) (b : Int) (y : Mth) (hy : m.methods[j]? = some y) (tk : List (Int × Int)) (A : Option Addr) (c : Nat) (h : Hnd) (w : World) (H : ImgIn w w.heap.size h m) :
    Calls Try.prog 61 #[imgV h m, insV 31 (j : Int) b, .int .i64 f, .slice A tk.length c] w (SomeTypes (givesP m x 31 (j : Int) b tk) w) := by
  have e0 : mthN m (j : Int) = y := by unfold mthN; rw [Int.toNat_natCast, hy]; rfl
  have e1 : givesP m x 31 (j : Int) b tk = givesOf y := by simp [givesP, giveOf, e0]
  rw [e1]
  clear e1
  clear e0
  obtain ⟨hw, hp⟩ := take_parts h m 31 (j : Int) b w
  have HW := Lib.hid hw
  have HP := Lib.hid hp
  have HI := Lib.hid (H.now hw)
  clear hw hp H
  go_enter Try.func61, Try.ntmps61
  go_upto_region 1 with fail
  change Code.wp _ _ _ _ (twoW h m 31 (j : Int) b w)
  go_upto_region 2 with (go_at_call 74; (refine (maker_is (h := h) (m := m) (w := w)).mono ?_); rintro e w2 ⟨rfl, rfl⟩)
  generalize takeW h m 31 (j : Int) b w = w2 at *
  have HX : Hid (Below w2.heap.size w2 w2) := Lib.hid (Below.refl _ _)
  have HN := Lib.hid HP.out.fnlt
  have HC := Lib.hid HP.out.fn
  obtain ⟨q0, q1, q2, q3, q4, q5, q6⟩ := HP.out.img
  have o0 := HP.out.ins 0 _ rfl
  have o1 := HP.out.ins 1 _ rfl
  have o2 := HP.out.ins 2 _ rfl
  go_wp2_with (go_at_call 81; (with_reducible refine (fresult_is HI HX hy).mono ?_); rintro e w3 ⟨A3, c3, rfl, hs3, hb⟩; have HX3 := Lib.hid (HX.out.trans (hb.mono HX.out.size)); have HS3 := Lib.hid hs3; clear hb hs3)
  go_ret
  exact ⟨_, _, rfl, HS3.out, HW.out.trans (HX3.out.mono HW.out.size)⟩

theorem fgv_27 (m : Img) (x : Mth) (f : Nat) (a : Int) (k : Nat) (t : Int × Int) (hk : (fieldsOf m.classes a)[k]? = some t) (hn : m.classes.length ≤ 1000) (hf : ∀ x ∈ m.classes, x.fields.length ≤ 1000) (tk : List (Int × Int)) (A : Option Addr) (c : Nat) (h : Hnd) (w : World) (H : ImgIn w w.heap.size h m) :
    Calls Try.prog 61 #[imgV h m, insV 27 a (k : Int), .int .i64 f, .slice A tk.length c] w (SomeTypes (givesP m x 27 a (k : Int) tk) w) := by
  have e0 : fieldN m a (k : Int) = t := by unfold fieldN; rw [Int.toNat_natCast, hk]; rfl
  have e1 : givesP m x 27 a (k : Int) tk = [t] := by simp [givesP, giveOf, e0]
  rw [e1]
  clear e1
  have HK := Lib.hid hk
  have HF := Lib.hid hf
  clear hk hf e0
  obtain ⟨hw, hp⟩ := take_parts h m 27 a (k : Int) w
  have HW := Lib.hid hw
  have HP := Lib.hid hp
  have HI := Lib.hid (H.now hw)
  clear hw hp H
  go_enter Try.func61, Try.ntmps61
  go_upto_region 1 with fail
  change Code.wp _ _ _ _ (twoW h m 27 a (k : Int) w)
  go_upto_region 2 with (go_at_call 74; (refine (maker_is (h := h) (m := m) (w := w)).mono ?_); rintro e w2 ⟨rfl, rfl⟩)
  generalize takeW h m 27 a (k : Int) w = w2 at *
  have HX : Hid (Below w2.heap.size w2 w2) := Lib.hid (Below.refl _ _)
  have HN := Lib.hid HP.out.fnlt
  have HC := Lib.hid HP.out.fn
  obtain ⟨q0, q1, q2, q3, q4, q5, q6⟩ := HP.out.img
  have o0 := HP.out.ins 0 _ rfl
  have o1 := HP.out.ins 1 _ rfl
  have o2 := HP.out.ins 2 _ rfl
  go_wp2_with (go_at_call 76; (with_reducible refine (ffield_is HI HX HK hn HF).mono ?_); rintro e w3 ⟨rfl, hb⟩; have HX3 := Lib.hid (HX.out.trans (hb.mono HX.out.size)); clear hb)
  go_ret
  exact ⟨_, _, rfl, new_t1 (by simp) (by go_simp) (by go_simp), HW.out.trans ((HX3.out.alloc HX3.out.size _).mono HW.out.size)⟩

theorem fgv_32 (m : Img) (x : Mth) (f : Nat) (a b : Int) (k : Nat) (hs : slotOf m.classes a b = some (k : Int)) (y : Mth) (hy : m.methods[k]? = some y) (tk : List (Int × Int)) (A : Option Addr) (c : Nat) (h : Hnd) (w : World) (H : ImgIn w w.heap.size h m) :
    Calls Try.prog 61 #[imgV h m, insV 32 a b, .int .i64 f, .slice A tk.length c] w (SomeTypes (givesP m x 32 a b tk) w) := by
  have e00 : slotN m a b = (k : Int) := by unfold slotN; rw [hs]; rfl
  have e0 : mthN m (k : Int) = y := by unfold mthN; rw [Int.toNat_natCast, hy]; rfl
  have HSL := Lib.hid hs
  have HY := Lib.hid hy
  have e1 : givesP m x 32 a b tk = givesOf y := by simp [givesP, giveOf, e0, e00]
  rw [e1]
  clear e1
  clear e00 e0 hs hy
  obtain ⟨hw, hp⟩ := take_parts h m 32 a b w
  have HW := Lib.hid hw
  have HP := Lib.hid hp
  have HI := Lib.hid (H.now hw)
  clear hw hp H
  go_enter Try.func61, Try.ntmps61
  go_upto_region 1 with fail
  change Code.wp _ _ _ _ (twoW h m 32 a b w)
  go_upto_region 2 with (go_at_call 74; (refine (maker_is (h := h) (m := m) (w := w)).mono ?_); rintro e w2 ⟨rfl, rfl⟩)
  generalize takeW h m 32 a b w = w2 at *
  have HX : Hid (Below w2.heap.size w2 w2) := Lib.hid (Below.refl _ _)
  have HN := Lib.hid HP.out.fnlt
  have HC := Lib.hid HP.out.fn
  obtain ⟨q0, q1, q2, q3, q4, q5, q6⟩ := HP.out.img
  have o0 := HP.out.ins 0 _ rfl
  have o1 := HP.out.ins 1 _ rfl
  have o2 := HP.out.ins 2 _ rfl
  go_wp2_with fail
  have HXD : Hid (Below w2.heap.size w2 w2.drew) := Lib.hid (Below.refl _ _).drew
  have HKP : Hid (∀ W, Below w2.heap.size w2 W → (fun w' => w'.cell? ⟨w.heap.size, 0, none⟩ = some (.slice h.A0 m.classes.length h.c0) ∧ w'.cell? ⟨w.heap.size, 1, none⟩ = some (.slice h.A1 m.statics.length h.c1) ∧ w'.cell? ⟨w.heap.size, 2, none⟩ = some (.slice h.A2 m.ints.length h.c2) ∧ w'.cell? ⟨w.heap.size, 3, none⟩ = some (.slice h.A3 m.methods.length h.c3) ∧ w'.cell? ⟨w.heap.size, 4, none⟩ = some (.slice h.A4 m.entries.length h.c4) ∧ w'.cell? ⟨w.heap.size, 5, none⟩ = some (.int .i64 m.stack) ∧ w'.cell? ⟨w.heap.size, 6, none⟩ = some (.int .i64 m.heap) ∧ w'.cell? ⟨w.heap.size + 1, 0, none⟩ = some (.int .i64 32) ∧ w'.cell? ⟨w.heap.size + 1, 1, none⟩ = some (.int .i64 a) ∧ w'.cell? ⟨w.heap.size + 1, 2, none⟩ = some (.int .i64 b)) W) := Lib.hid (fun W hW => by
    have hz := HP.out.size
    obtain ⟨d0, d1, d2, d3, d4, d5, d6⟩ := HP.out.img.keep hW (by omega)
    have di := HP.out.ins.keep hW (by omega)
    exact ⟨d0, d1, d2, d3, d4, d5, d6, di 0 _ rfl, di 1 _ rfl, di 2 _ rfl⟩)
  clear q0 q1 q2 q3 q4 q5 q6 o0 o1 o2
  refine wp_region_noPanic ?_
  refine wp_region_held_drew (S := (fun w' => w'.cell? ⟨w.heap.size, 0, none⟩ = some (.slice h.A0 m.classes.length h.c0) ∧ w'.cell? ⟨w.heap.size, 1, none⟩ = some (.slice h.A1 m.statics.length h.c1) ∧ w'.cell? ⟨w.heap.size, 2, none⟩ = some (.slice h.A2 m.ints.length h.c2) ∧ w'.cell? ⟨w.heap.size, 3, none⟩ = some (.slice h.A3 m.methods.length h.c3) ∧ w'.cell? ⟨w.heap.size, 4, none⟩ = some (.slice h.A4 m.entries.length h.c4) ∧ w'.cell? ⟨w.heap.size, 5, none⟩ = some (.int .i64 m.stack) ∧ w'.cell? ⟨w.heap.size, 6, none⟩ = some (.int .i64 m.heap) ∧ w'.cell? ⟨w.heap.size + 1, 0, none⟩ = some (.int .i64 32) ∧ w'.cell? ⟨w.heap.size + 1, 1, none⟩ = some (.int .i64 a) ∧ w'.cell? ⟨w.heap.size + 1, 2, none⟩ = some (.int .i64 b))) (by kernel_rfl) (HKP.out _ HXD.out) (fun hHeld => ?_)
  refine wpAnyH_take (i := 0) (oi := _) (v := ?_) rfl (by kernel_rfl) (by kernel_rfl) (by kernel_rfl) (fun _ _ _ h => h) (Or.inl ⟨by rfl, ?_⟩) (by assumption) ?_
  rotate_left
  · (intro w hSw; (try dsimp only at hSw); go_simp <;> with_reducible rfl)
  try simp only [List.getElem_toArray, List.getElem_cons_succ, List.getElem_cons_zero, Act.put, List.setIfInBounds_toArray, List.set_cons_zero, List.set_cons_succ]
  refine wpAnyH_take (i := 1) (oi := _) (v := ?_) rfl (by kernel_rfl) (by kernel_rfl) (by kernel_rfl) (fun _ _ _ h => h) (Or.inl ⟨by rfl, ?_⟩) (by assumption) ?_
  rotate_left
  · (intro w hSw; (try dsimp only at hSw); go_simp <;> with_reducible rfl)
  try simp only [List.getElem_toArray, List.getElem_cons_succ, List.getElem_cons_zero, Act.put, List.setIfInBounds_toArray, List.set_cons_zero, List.set_cons_succ]
  refine wpAnyH_take (i := 2) (oi := _) (v := ?_) rfl (by kernel_rfl) (by kernel_rfl) (by kernel_rfl) (fun _ _ _ h => h) (Or.inl ⟨by rfl, ?_⟩) (by assumption) ?_
  rotate_left
  · (intro w hSw; (try dsimp only at hSw); go_simp <;> with_reducible rfl)
  try simp only [List.getElem_toArray, List.getElem_cons_succ, List.getElem_cons_zero, Act.put, List.setIfInBounds_toArray, List.set_cons_zero, List.set_cons_succ]
  refine wpAnyH_ready (rs := [3]) (by kernel_rfl) (by simp) ?_
  refine AllReadyH.cons (o := _) rfl (fun K hK => ?_) AllReadyH.nil
  go_simp
  go_wp2_with (go_at_call 80; (with_reducible refine (fslot_is HI HXD HSL).mono ?_); rintro e w4 ⟨rfl, hb⟩; have HX4 := Lib.hid (HXD.out.trans (hb.mono HXD.out.size)); clear hb)
  refine hK.out _ _ (HKP.out _ HX4.out) (fun hHeld => ?_)
  clear hK K
  try simp only [List.getElem_toArray, List.getElem_cons_succ, List.getElem_cons_zero, Act.put, List.setIfInBounds_toArray, List.set_cons_zero, List.set_cons_succ]
  refine wpAnyH_ready (rs := [4]) (by kernel_rfl) (by simp) ?_
  refine AllReadyH.cons (o := _) rfl (fun K hK => ?_) AllReadyH.nil
  go_simp
  go_wp2_with (go_at_call 81; (with_reducible refine (fresult_is HI HX4 HY.out).mono ?_); rintro e w5 ⟨A3, c3, rfl, hs3, hb⟩; have HX3 := Lib.hid (HX4.out.trans (hb.mono HX4.out.size)); have HS3 := Lib.hid hs3; clear hb hs3)
  refine hK.out _ _ (HKP.out _ HX3.out) (fun hHeld => ?_)
  clear hK K
  try simp only [List.getElem_toArray, List.getElem_cons_succ, List.getElem_cons_zero, Act.put, List.setIfInBounds_toArray, List.set_cons_zero, List.set_cons_succ]
  refine wpAnyH_take (i := 5) (oi := _) (v := ?_) rfl (by kernel_rfl) (by kernel_rfl) (by kernel_rfl) (fun _ _ _ h => h) (Or.inl ⟨by rfl, ?_⟩) (by assumption) ?_
  rotate_left
  · (intro w hSw; (try dsimp only at hSw); go_simp <;> with_reducible rfl)
  try simp only [List.getElem_toArray, List.getElem_cons_succ, List.getElem_cons_zero, Act.put, List.setIfInBounds_toArray, List.set_cons_zero, List.set_cons_succ]
  refine wpAnyH_done (by kernel_rfl) ?_ _
  refine NoPanic.normal ?_
  go_wp2_with fail
  go_ret
  exact ⟨_, _, rfl, HS3.out, HW.out.trans (HX3.out.mono HW.out.size)⟩

theorem fgv_6 (m : Img) (x : Mth) (f : Nat) (a b : Int) (tk : List (Int × Int)) (A : Option Addr) (c : Nat) (htl : tk.length ≤ 1000) (h : Hnd) (w : World) (H : ImgIn w w.heap.size h m) (HT : SlcIs TyAt 2 w w.heap.size A c tk) :
    Calls Try.prog 61 #[imgV h m, insV 6 a b, .int .i64 f, .slice A tk.length c] w (SomeTypes (givesP m x 6 a b tk) w) := by
  have e1 : givesP m x 6 a b tk = tk ++ tk := by simp [givesP, giveOf]
  rw [e1]
  clear e1
  obtain ⟨N, hN⟩ : ∃ N, tk ++ tk = N := ⟨_, rfl⟩
  have HNN := Lib.hid hN
  rw [hN]
  clear hN
  obtain ⟨hw, hp⟩ := take_parts h m 6 a b w
  have HW := Lib.hid hw
  have HP := Lib.hid hp
  have HI := Lib.hid (H.now hw)
  have HTK := Lib.hid ((HT.below_to TyAt.keeps hw (Nat.le_refl _)).keep' TyAt.keeps hw.size (fun _ _ => rfl))
  clear hw hp H HT
  go_enter Try.func61, Try.ntmps61
  go_upto_region 1 with fail
  change Code.wp _ _ _ _ (twoW h m 6 a b w)
  go_upto_region 2 with (go_at_call 74; (refine (maker_is (h := h) (m := m) (w := w)).mono ?_); rintro e w2 ⟨rfl, rfl⟩)
  generalize takeW h m 6 a b w = w2 at *
  have HX : Hid (Below w2.heap.size w2 w2) := Lib.hid (Below.refl _ _)
  have HN := Lib.hid HP.out.fnlt
  have HC := Lib.hid HP.out.fn
  obtain ⟨q0, q1, q2, q3, q4, q5, q6⟩ := HP.out.img
  have o0 := HP.out.ins 0 _ rfl
  have o1 := HP.out.ins 1 _ rfl
  have o2 := HP.out.ins 2 _ rfl
  have HA : Hid (Below w2.heap.size w2 (w2.alloc (.cells #[.slice A tk.length c, .slice A tk.length c] 23))) := Lib.hid ((Below.refl _ _).alloc (Nat.le_refl _) _)
  go_wp2_with (go_at_call 60; (with_reducible refine (fconcat_is (g := w2.heap.size) HNN (ftslc_alloc HTK.out _) (ftslc_alloc HTK.out _) (by simp) (cells_new w2 [.slice A tk.length c, .slice A tk.length c] 23) htl htl).mono ?_); rintro e w3 ⟨v3, rfl, ho3, hb3⟩; have HO3 := Lib.hid (own_lower ho3 HA.out.size); have HX3 := Lib.hid (HA.out.trans (hb3.mono HA.out.size)); clear ho3 hb3)
  go_ret
  exact OwnFromW.some_ (w0 := w2) ⟨_, rfl, HO3.out, HX3.out⟩ HW.out


/-- Does a type fit where one is wanted? Kind 6: any; 7: any reference; 8: any but Arr. -/
def fitB (sup : List Int) (t u : Int × Int) : Bool := if u.1 = 6 then true else if u.1 = 7 then isRefB t.1 else if u.1 = 8 then isRefB t.1 && !(decide (t.1 = 2)) else subB sup t.1 t.2 u.1 u.2
def allFitB (sup : List Int) (L U : List (Int × Int)) : Bool := decide (L.length = U.length) && (L.zip U).all (fun p => fitB sup p.1 p.2)
theorem kisref_is {t0 t1 : Int} {w : World} {r : Bool} (HR : Hid (isRefB t0 = r)) : Calls Try.prog 64 #[tyV t0 t1] w fun e w' => e = .returned (.bool r) ∧ Below w.heap.size w w' := by
  have H := kisref_any t0 t1 w
  rw [HR.out] at H
  exact H
theorem two_ty (w : World) (x y z u : Int) : Cells ((w.alloc (.cells #[.int .i64 x, .int .i64 y] 39)).alloc (.cells #[.int .i64 z, .int .i64 u] 39)) w.heap.size [.int .i64 x, .int .i64 y] ∧ Cells ((w.alloc (.cells #[.int .i64 x, .int .i64 y] 39)).alloc (.cells #[.int .i64 z, .int .i64 u] 39)) (w.heap.size + 1) [.int .i64 z, .int .i64 u] ∧
    Below w.heap.size w ((w.alloc (.cells #[.int .i64 x, .int .i64 y] 39)).alloc (.cells #[.int .i64 z, .int .i64 u] 39)) ∧ ((w.alloc (.cells #[.int .i64 x, .int .i64 y] 39)).alloc (.cells #[.int .i64 z, .int .i64 u] 39)).heap.size = w.heap.size + 2 := by
  obtain ⟨c1, z1, b1⟩ := cells_step (w := w) rfl [.int .i64 x, .int .i64 y] 39
  obtain ⟨c2, z2, b2⟩ := cells_step z1 [.int .i64 z, .int .i64 u] 39
  exact ⟨c1.keep b2 (by omega), c2, b1.trans (b2.mono (by omega)), z2⟩

theorem ffits_any (sup : List Int) (t0 t1 u0 u1 : Int) (A : Option Addr) (c : Nat) (w : World) (hl : sup.length ≤ 1048576) (h : Supers w w.heap.size A sup) :
    Calls Try.prog 84 #[.slice A sup.length c, tyV t0 t1, tyV u0 u1] w fun e w' => e = .returned (.bool (fitB sup (t0, t1) (u0, u1))) ∧ Below w.heap.size w w' := by
  obtain ⟨c1, c2, hb, hz⟩ := two_ty w t0 t1 u0 u1
  have HC1 := Lib.hid c1
  have HC2 := Lib.hid c2
  have HW := Lib.hid hb
  have HZ := Lib.hid hz
  have HS := Lib.hid (h.below_to hb (Nat.le_refl _))
  clear c1 c2 hb hz h
  by_cases h6 : u0 = 6
  · subst h6
    have e : fitB sup (t0, t1) (6, u1) = true := rfl
    rw [e]
    clear e
    go_enter Try.func84, Try.ntmps84
    go_upto_region 1 with fail
    generalize (w.alloc (.cells #[.int .i64 t0, .int .i64 t1] 39)).alloc (.cells #[.int .i64 6, .int .i64 u1] 39) = w1 at *
    have d0 := HC2.out 0 _ rfl
    go_wp2_with fail
    go_ret
    exact ⟨rfl, HW.out⟩
  · by_cases h7 : u0 = 7
    · subst h7
      obtain ⟨r, hr⟩ : ∃ r, isRefB t0 = r := ⟨_, rfl⟩
      have HR := Lib.hid hr
      have e : fitB sup (t0, t1) (7, u1) = r := hr
      rw [e]
      clear e hr h6
      go_enter Try.func84, Try.ntmps84
      go_upto_region 1 with fail
      generalize (w.alloc (.cells #[.int .i64 t0, .int .i64 t1] 39)).alloc (.cells #[.int .i64 7, .int .i64 u1] 39) = w1 at *
      have d0 := HC2.out 0 _ rfl
      have e0 := HC1.out 0 _ rfl
      have e1 := HC1.out 1 _ rfl
      go_wp2_with (go_at_call 64; (with_reducible refine (kisref_is HR).mono ?_); rintro e w2 ⟨rfl, hb⟩; have HB2 := Lib.hid hb; clear hb)
      go_ret
      exact ⟨rfl, HW.out.trans (HB2.out.mono HW.out.size)⟩
    · by_cases h8 : u0 = 8
      · subst h8
        obtain ⟨r, hr⟩ : ∃ r, isRefB t0 = r := ⟨_, rfl⟩
        have HR := Lib.hid hr
        have e : fitB sup (t0, t1) (8, u1) = (r && !(decide (t0 = 2))) := by rw [← hr]; rfl
        rw [e]
        clear e hr h6 h7
        cases r
        · go_enter Try.func84, Try.ntmps84
          go_upto_region 1 with fail
          generalize (w.alloc (.cells #[.int .i64 t0, .int .i64 t1] 39)).alloc (.cells #[.int .i64 8, .int .i64 u1] 39) = w1 at *
          have d0 := HC2.out 0 _ rfl
          have e0 := HC1.out 0 _ rfl
          have e1 := HC1.out 1 _ rfl
          go_wp2_with (go_at_call 64; (with_reducible refine (kisref_is HR).mono ?_); rintro e w2 ⟨rfl, hb⟩; have HB2 := Lib.hid hb; have e0 := (HC1.out.keep hb (by have := HZ.out; omega)) 0 _ rfl; clear hb)
          go_ret
          exact ⟨rfl, HW.out.trans (HB2.out.mono HW.out.size)⟩
        · go_enter Try.func84, Try.ntmps84
          go_upto_region 1 with fail
          generalize (w.alloc (.cells #[.int .i64 t0, .int .i64 t1] 39)).alloc (.cells #[.int .i64 8, .int .i64 u1] 39) = w1 at *
          have d0 := HC2.out 0 _ rfl
          have e0 := HC1.out 0 _ rfl
          have e1 := HC1.out 1 _ rfl
          go_wp2_with (go_at_call 64; (with_reducible refine (kisref_is HR).mono ?_); rintro e w2 ⟨rfl, hb⟩; have HB2 := Lib.hid hb; have e0 := (HC1.out.keep hb (by have := HZ.out; omega)) 0 _ rfl; clear hb)
          go_ret
          refine ⟨?_, HW.out.trans (HB2.out.mono HW.out.size)⟩
          by_cases h2 : t0 = 2 <;> simp [h2]
      · have e : fitB sup (t0, t1) (u0, u1) = subB sup t0 t1 u0 u1 := by unfold fitB; rw [if_neg h6, if_neg h7, if_neg h8]
        rw [e]
        clear e
        go_enter Try.func84, Try.ntmps84
        go_upto_region 1 with fail
        generalize (w.alloc (.cells #[.int .i64 t0, .int .i64 t1] 39)).alloc (.cells #[.int .i64 u0, .int .i64 u1] 39) = w1 at *
        have d0 := HC2.out 0 _ rfl
        have d1 := HC2.out 1 _ rfl
        have e0 := HC1.out 0 _ rfl
        have e1 := HC1.out 1 _ rfl
        go_wp2_with (go_at_call 37; (with_reducible refine (ksub_any sup t0 t1 u0 u1 A c w.heap.size w1 hl HW.out.size HS.out).mono ?_); rintro e w2 ⟨rfl, hb⟩; have HB2 := Lib.hid hb; clear hb)
        go_ret
        exact ⟨rfl, HW.out.trans (HB2.out.mono HW.out.size)⟩

abbrev fitF (N : Nat) : Value := .func (.func 83) #[] #[.pointer (some ⟨N, 0, none⟩)]
theorem ffit1_any (sup : List Int) (t0 t1 u0 u1 : Int) (A : Option Addr) (c N : Nat) (w : World) (hl : sup.length ≤ 1048576) (h : Supers w w.heap.size A sup) (hN : N < w.heap.size) (hc : w.cell? ⟨N, 0, none⟩ = some (.slice A sup.length c)) :
    Calls Try.prog 83 #[tyV t0 t1, tyV u0 u1, .pointer (some ⟨N, 0, none⟩)] w fun e w' => e = .returned (.bool (fitB sup (t0, t1) (u0, u1))) ∧ Below w.heap.size w w' := by
  obtain ⟨c1, c2, hb, hz⟩ := two_ty w t0 t1 u0 u1
  have HC1 := Lib.hid c1
  have HC2 := Lib.hid c2
  have HW := Lib.hid hb
  have HS : Hid (Supers _ _ A sup) := Lib.hid (Supers.below_to h hb (Nat.le_refl _))
  have HC := Lib.hid ((hb.cell (p := ⟨N, 0, none⟩) hN).trans hc)
  clear c1 c2 hb hz h hc
  go_enter Try.func83, Try.ntmps83
  go_upto_region 1 with fail
  generalize (w.alloc (.cells #[.int .i64 t0, .int .i64 t1] 39)).alloc (.cells #[.int .i64 u0, .int .i64 u1] 39) = w1 at *
  have d0 := HC2.out 0 _ rfl
  have d1 := HC2.out 1 _ rfl
  have e0 := HC1.out 0 _ rfl
  have e1 := HC1.out 1 _ rfl
  have c0 := HC.out
  have HS1 : Hid (Supers w1 w1.heap.size A sup) := Lib.hid (fun i s hs => by
    obtain ⟨ad, e, hb, hc⟩ := HS.out i s hs
    exact ⟨ad, e, Nat.lt_of_lt_of_le hb HW.out.size, hc⟩)
  go_wp2_with (go_at_call 84; (with_reducible refine (ffits_any sup t0 t1 u0 u1 A c w1 hl HS1.out).mono ?_); rintro e w2 ⟨rfl, hb⟩; have HB2 := Lib.hid hb; clear hb)
  go_ret
  exact ⟨rfl, HW.out.trans (HB2.out.mono HW.out.size)⟩
end Go.Proofs.Ytgpmdhdooglkfaa
