/-
  What flow.takes comes to: the instructions that name something.
-/
import Derived.Test.YtgpmdhdooglkfaaK36
import Derived.RegionTactic
import Derived.ChangeAlike
import Derived.Deep.RegionHeld3
import Derived.Deep.QuietTactic
import Derived.BigQuiet
namespace Go.Proofs.Ytgpmdhdooglkfaa
set_option maxRecDepth 100000
set_option linter.unusedVariables false
set_option linter.unusedSimpArgs false
open Go.ChangeShapes Go.WideShapes Go.ChangeAt Go.RowKit

theorem ftk_4 (m : Img) (x : Mth) (f : Nat) (a b : Int) (hx : m.methods[f]? = some x) (ha : a ≤ 9223372036854775807) (h : Hnd) (w : World) (H : ImgIn w w.heap.size h m) :
    Calls Try.prog 57 #[imgV h m, insV 4 a b, .int .i64 f] w (SomeTypes (wantsOf m x 4 a b) w) := by
  have e1 : wantsOf m x 4 a b = [localOf x a] := by simp [wantsOf]
  rw [e1]
  clear e1
  obtain ⟨t, ht⟩ : ∃ t, localOf x a = t := ⟨_, rfl⟩
  have HT := Lib.hid ht
  rw [ht]
  clear ht
  obtain ⟨hw, hp⟩ := take_parts h m 4 a b w
  have HW := Lib.hid hw
  have HP := Lib.hid hp
  have HI := Lib.hid (H.now hw)
  clear hw hp H
  go_enter Try.func57, Try.ntmps57
  go_upto_region 1 with fail
  change Code.wp _ _ _ _ (twoW h m 4 a b w)
  go_upto_region 2 with (go_at_call 74; (refine (maker_is (h := h) (m := m) (w := w)).mono ?_); rintro e w2 ⟨rfl, rfl⟩)
  generalize takeW h m 4 a b w = w2 at *
  have HX : Hid (Below w2.heap.size w2 w2) := Lib.hid (Below.refl _ _)
  have HN := Lib.hid HP.out.fnlt
  have HC := Lib.hid HP.out.fn
  obtain ⟨q0, q1, q2, q3, q4, q5, q6⟩ := HP.out.img
  have o0 := HP.out.ins 0 _ rfl
  have o1 := HP.out.ins 1 _ rfl
  have o2 := HP.out.ins 2 _ rfl
  go_wp2_with (go_at_call 75; (with_reducible refine (flocal_is HI HX hx ha HT).mono ?_); rintro e w3 ⟨rfl, hb⟩; have HX3 := Lib.hid hb; clear hb)
  go_ret
  exact ⟨_, _, rfl, new_t1 (by simp) (by go_simp) (by go_simp), HW.out.trans ((HX3.out.alloc HX3.out.size _).mono HW.out.size)⟩

theorem ftk_30 (m : Img) (x : Mth) (f : Nat) (j : Nat) (b : Int) (t : Int × Int) (hs : m.statics[j]? = some t) (h : Hnd) (w : World) (H : ImgIn w w.heap.size h m) :
    Calls Try.prog 57 #[imgV h m, insV 30 (j : Int) b, .int .i64 f] w (SomeTypes (wantsOf m x 30 (j : Int) b) w) := by
  have e0 : staticN m (j : Int) = t := by unfold staticN; rw [Int.toNat_natCast, hs]; rfl
  have e1 : wantsOf m x 30 (j : Int) b = [t] := by simp [wantsOf, e0]
  rw [e1]
  clear e1
  have HS := Lib.hid hs
  clear hs e0
  obtain ⟨hw, hp⟩ := take_parts h m 30 (j : Int) b w
  have HW := Lib.hid hw
  have HP := Lib.hid hp
  have HI := Lib.hid (H.now hw)
  clear hw hp H
  go_enter Try.func57, Try.ntmps57
  go_upto_region 1 with fail
  change Code.wp _ _ _ _ (twoW h m 30 (j : Int) b w)
  go_upto_region 2 with (go_at_call 74; (refine (maker_is (h := h) (m := m) (w := w)).mono ?_); rintro e w2 ⟨rfl, rfl⟩)
  generalize takeW h m 30 (j : Int) b w = w2 at *
  have HX : Hid (Below w2.heap.size w2 w2) := Lib.hid (Below.refl _ _)
  have HN := Lib.hid HP.out.fnlt
  have HC := Lib.hid HP.out.fn
  obtain ⟨q0, q1, q2, q3, q4, q5, q6⟩ := HP.out.img
  have o0 := HP.out.ins 0 _ rfl
  have o1 := HP.out.ins 1 _ rfl
  have o2 := HP.out.ins 2 _ rfl
  go_wp2_with (go_at_call 77; (with_reducible refine (fstatic_is HI HX HS).mono ?_); rintro e w3 ⟨rfl, hb⟩; have HX3 := Lib.hid hb; clear hb)
  go_ret
  exact ⟨_, _, rfl, new_t1 (by simp) (by go_simp) (by go_simp), HW.out.trans ((HX3.out.alloc HX3.out.size _).mono HW.out.size)⟩

theorem ftk_31 (m : Img) (x : Mth) (f : Nat) (j : Nat) (b : Int) (y : Mth) (hy : m.methods[j]? = some y) (h : Hnd) (w : World) (H : ImgIn w w.heap.size h m) :
    Calls Try.prog 57 #[imgV h m, insV 31 (j : Int) b, .int .i64 f] w (SomeTypes (wantsOf m x 31 (j : Int) b) w) := by
  have e0 : mthN m (j : Int) = y := by unfold mthN; rw [Int.toNat_natCast, hy]; rfl
  have e1 : wantsOf m x 31 (j : Int) b = y.args := by simp [wantsOf, e0]
  rw [e1]
  clear e1
  clear e0
  obtain ⟨hw, hp⟩ := take_parts h m 31 (j : Int) b w
  have HW := Lib.hid hw
  have HP := Lib.hid hp
  have HI := Lib.hid (H.now hw)
  clear hw hp H
  go_enter Try.func57, Try.ntmps57
  go_upto_region 1 with fail
  change Code.wp _ _ _ _ (twoW h m 31 (j : Int) b w)
  go_upto_region 2 with (go_at_call 74; (refine (maker_is (h := h) (m := m) (w := w)).mono ?_); rintro e w2 ⟨rfl, rfl⟩)
  generalize takeW h m 31 (j : Int) b w = w2 at *
  have HX : Hid (Below w2.heap.size w2 w2) := Lib.hid (Below.refl _ _)
  have HN := Lib.hid HP.out.fnlt
  have HC := Lib.hid HP.out.fn
  obtain ⟨q0, q1, q2, q3, q4, q5, q6⟩ := HP.out.img
  have o0 := HP.out.ins 0 _ rfl
  have o1 := HP.out.ins 1 _ rfl
  have o2 := HP.out.ins 2 _ rfl
  go_wp2_with (go_at_call 78; (with_reducible refine (fargs_is HI HX hy).mono ?_); rintro e w3 ⟨A3, c3, rfl, hs3, hb⟩; have HX3 := Lib.hid hb; have HS3 := Lib.hid hs3; clear hb hs3)
  go_ret
  exact ⟨_, _, rfl, HS3.out, HW.out.trans (HX3.out.mono HW.out.size)⟩

theorem ftk_33 (m : Img) (x : Mth) (f : Nat) (a b : Int) (hx : m.methods[f]? = some x) (h : Hnd) (w : World) (H : ImgIn w w.heap.size h m) :
    Calls Try.prog 57 #[imgV h m, insV 33 a b, .int .i64 f] w (SomeTypes (wantsOf m x 33 a b) w) := by
  have e1 : wantsOf m x 33 a b = givesOf x := by simp [wantsOf]
  rw [e1]
  clear e1
  obtain ⟨hw, hp⟩ := take_parts h m 33 a b w
  have HW := Lib.hid hw
  have HP := Lib.hid hp
  have HI := Lib.hid (H.now hw)
  clear hw hp H
  go_enter Try.func57, Try.ntmps57
  go_upto_region 1 with fail
  change Code.wp _ _ _ _ (twoW h m 33 a b w)
  go_upto_region 2 with (go_at_call 74; (refine (maker_is (h := h) (m := m) (w := w)).mono ?_); rintro e w2 ⟨rfl, rfl⟩)
  generalize takeW h m 33 a b w = w2 at *
  have HX : Hid (Below w2.heap.size w2 w2) := Lib.hid (Below.refl _ _)
  have HN := Lib.hid HP.out.fnlt
  have HC := Lib.hid HP.out.fn
  obtain ⟨q0, q1, q2, q3, q4, q5, q6⟩ := HP.out.img
  have o0 := HP.out.ins 0 _ rfl
  have o1 := HP.out.ins 1 _ rfl
  have o2 := HP.out.ins 2 _ rfl
  go_wp2_with (go_at_call 81; (with_reducible refine (fresult_is HI HX hx).mono ?_); rintro e w3 ⟨A3, c3, rfl, hs3, hb⟩; have HX3 := Lib.hid (HX.out.trans (hb.mono HX.out.size)); have HS3 := Lib.hid hs3; clear hb hs3)
  go_ret
  exact ⟨_, _, rfl, HS3.out, HW.out.trans (HX3.out.mono HW.out.size)⟩

set_option maxHeartbeats 1600000 in
theorem ftk_28 (m : Img) (x : Mth) (f : Nat) (a : Int) (k : Nat) (t : Int × Int) (hk : (fieldsOf m.classes a)[k]? = some t) (hn : m.classes.length ≤ 1000) (hf : ∀ x ∈ m.classes, x.fields.length ≤ 1000) (h : Hnd) (w : World) (H : ImgIn w w.heap.size h m) :
    Calls Try.prog 57 #[imgV h m, insV 28 a (k : Int), .int .i64 f] w (SomeTypes (wantsOf m x 28 a (k : Int)) w) := by
  have e0 : fieldN m a (k : Int) = t := by unfold fieldN; rw [Int.toNat_natCast, hk]; rfl
  have e1 : wantsOf m x 28 a (k : Int) = [(3, a), t] := by simp [wantsOf, e0]
  rw [e1]
  clear e1
  have HL : Hid (mkOf a [3] = [(3, a)]) := Lib.hid (by simp [mkOf, mkOne])
  have HK := Lib.hid hk
  have HF := Lib.hid hf
  clear hk hf e0
  obtain ⟨i0, hi, hz0, hz1, hz2⟩ := info_partsK info_type
  obtain ⟨hw, hp⟩ := take_parts h m 28 a (k : Int) w
  have HW := Lib.hid hw
  have HP := Lib.hid hp
  have HI := Lib.hid (H.now hw)
  clear hw hp H
  go_enter Try.func57, Try.ntmps57
  go_upto_region 1 with fail
  change Code.wp _ _ _ _ (twoW h m 28 a (k : Int) w)
  go_upto_region 2 with (go_at_call 74; (refine (maker_is (h := h) (m := m) (w := w)).mono ?_); rintro e w2 ⟨rfl, rfl⟩)
  generalize takeW h m 28 a (k : Int) w = w2 at *
  have HX : Hid (Below w2.heap.size w2 w2) := Lib.hid (Below.refl _ _)
  have HN := Lib.hid HP.out.fnlt
  have HC := Lib.hid HP.out.fn
  obtain ⟨q0, q1, q2, q3, q4, q5, q6⟩ := HP.out.img
  have o0 := HP.out.ins 0 _ rfl
  have o1 := HP.out.ins 1 _ rfl
  have o2 := HP.out.ins 2 _ rfl
  go_wp2_with fail
  have HXD : Hid (Below w2.heap.size w2 w2.drew) := Lib.hid (Below.refl _ _).drew
  have HKP : Hid (∀ W, Below w2.heap.size w2 W → (fun w' => w'.cell? ⟨w.heap.size, 0, none⟩ = some (.slice h.A0 m.classes.length h.c0) ∧ w'.cell? ⟨w.heap.size, 1, none⟩ = some (.slice h.A1 m.statics.length h.c1) ∧ w'.cell? ⟨w.heap.size, 2, none⟩ = some (.slice h.A2 m.ints.length h.c2) ∧ w'.cell? ⟨w.heap.size, 3, none⟩ = some (.slice h.A3 m.methods.length h.c3) ∧ w'.cell? ⟨w.heap.size, 4, none⟩ = some (.slice h.A4 m.entries.length h.c4) ∧ w'.cell? ⟨w.heap.size, 5, none⟩ = some (.int .i64 m.stack) ∧ w'.cell? ⟨w.heap.size, 6, none⟩ = some (.int .i64 m.heap) ∧ w'.cell? ⟨w.heap.size + 1, 0, none⟩ = some (.int .i64 28) ∧ w'.cell? ⟨w.heap.size + 1, 1, none⟩ = some (.int .i64 a) ∧ w'.cell? ⟨w.heap.size + 1, 2, none⟩ = some (.int .i64 (k : Int))) W) := Lib.hid (fun W hW => by
    have hz := HP.out.size
    obtain ⟨d0, d1, d2, d3, d4, d5, d6⟩ := HP.out.img.keep hW (by omega)
    have di := HP.out.ins.keep hW (by omega)
    exact ⟨d0, d1, d2, d3, d4, d5, d6, di 0 _ rfl, di 1 _ rfl, di 2 _ rfl⟩)
  clear q0 q1 q2 q3 q4 q5 q6 o0 o1 o2
  refine wp_region_noPanic ?_
  refine wp_region_held_drew (S := (fun w' => w'.cell? ⟨w.heap.size, 0, none⟩ = some (.slice h.A0 m.classes.length h.c0) ∧ w'.cell? ⟨w.heap.size, 1, none⟩ = some (.slice h.A1 m.statics.length h.c1) ∧ w'.cell? ⟨w.heap.size, 2, none⟩ = some (.slice h.A2 m.ints.length h.c2) ∧ w'.cell? ⟨w.heap.size, 3, none⟩ = some (.slice h.A3 m.methods.length h.c3) ∧ w'.cell? ⟨w.heap.size, 4, none⟩ = some (.slice h.A4 m.entries.length h.c4) ∧ w'.cell? ⟨w.heap.size, 5, none⟩ = some (.int .i64 m.stack) ∧ w'.cell? ⟨w.heap.size, 6, none⟩ = some (.int .i64 m.heap) ∧ w'.cell? ⟨w.heap.size + 1, 0, none⟩ = some (.int .i64 28) ∧ w'.cell? ⟨w.heap.size + 1, 1, none⟩ = some (.int .i64 a) ∧ w'.cell? ⟨w.heap.size + 1, 2, none⟩ = some (.int .i64 (k : Int)))) (by kernel_rfl) (HKP.out _ HXD.out) (fun hHeld => ?_)
  refine wpAnyH_take (i := 0) (oi := _) (v := ?_) rfl (by kernel_rfl) (by kernel_rfl) (by kernel_rfl) (fun _ _ _ h => h) (Or.inl ⟨by rfl, ?_⟩) (by assumption) ?_
  rotate_left
  · (intro w hSw; (try dsimp only at hSw); go_simp <;> with_reducible rfl)
  try simp only [List.getElem_toArray, List.getElem_cons_succ, List.getElem_cons_zero, Act.put, List.setIfInBounds_toArray, List.set_cons_zero, List.set_cons_succ]
  refine wpAnyH_take (i := 3) (oi := _) (v := ?_) rfl (by kernel_rfl) (by kernel_rfl) (by kernel_rfl) (fun _ _ _ h => h) (Or.inl ⟨by rfl, ?_⟩) (by assumption) ?_
  rotate_left
  · (intro w hSw; (try dsimp only at hSw); go_simp <;> with_reducible rfl)
  try simp only [List.getElem_toArray, List.getElem_cons_succ, List.getElem_cons_zero, Act.put, List.setIfInBounds_toArray, List.set_cons_zero, List.set_cons_succ]
  refine wpAnyH_take (i := 4) (oi := _) (v := ?_) rfl (by kernel_rfl) (by kernel_rfl) (by kernel_rfl) (fun _ _ _ h => h) (Or.inl ⟨by rfl, ?_⟩) (by assumption) ?_
  rotate_left
  · (intro w hSw; (try dsimp only at hSw); go_simp <;> with_reducible rfl)
  try simp only [List.getElem_toArray, List.getElem_cons_succ, List.getElem_cons_zero, Act.put, List.setIfInBounds_toArray, List.set_cons_zero, List.set_cons_succ]
  refine wpAnyH_ready (rs := [1]) (by kernel_rfl) (by simp) ?_
  refine AllReadyH.cons (o := _) rfl (fun K hK => ?_) AllReadyH.nil
  go_simp
  refine hK.out _ _ (HKP.out _ (HXD.out.alloc HXD.out.size _)) (fun hHeld => ?_)
  clear hK K
  try simp only [List.getElem_toArray, List.getElem_cons_succ, List.getElem_cons_zero, Act.put, List.setIfInBounds_toArray, List.set_cons_zero, List.set_cons_succ]
  refine wpAnyH_ready (rs := [2]) (by kernel_rfl) (by simp) ?_
  refine AllReadyH.cons (o := _) rfl (fun K hK => ?_) AllReadyH.nil
  go_simp
  go_wp2_with (go_at_call 90; (with_reducible refine (fmkd1_is HL HN HC).mono ?_); rintro e w3 ⟨v3, rfl, ho3, hb3⟩; have HO3 := Lib.hid ho3; have HX3 := Lib.hid hb3; clear ho3 hb3)
  refine hK.out _ _ (HKP.out _ HX3.out) (fun hHeld => ?_)
  clear hK K
  try simp only [List.getElem_toArray, List.getElem_cons_succ, List.getElem_cons_zero, Act.put, List.setIfInBounds_toArray, List.set_cons_zero, List.set_cons_succ]
  refine wpAnyH_ready (rs := [5]) (by kernel_rfl) (by simp) ?_
  refine AllReadyH.cons (o := _) rfl (fun K hK => ?_) AllReadyH.nil
  go_simp
  go_wp2_with (go_at_call 76; (with_reducible refine (ffield_is HI HX3 HK hn HF).mono ?_); rintro e w4 ⟨rfl, hb⟩; have HX4 := Lib.hid (HX3.out.trans (hb.mono HX3.out.size)); have HO4 := Lib.hid (own_below HO3.out hb (own_block_lt HO3.out)); clear hb)
  refine hK.out _ _ (HKP.out _ HX4.out) (fun hHeld => ?_)
  clear hK K
  try simp only [List.getElem_toArray, List.getElem_cons_succ, List.getElem_cons_zero, Act.put, List.setIfInBounds_toArray, List.set_cons_zero, List.set_cons_succ]
  refine wpAnyH_ready (rs := [6]) (by kernel_rfl) (by simp) ?_
  refine AllReadyH.cons (o := _) rfl (fun K hK => ?_) AllReadyH.nil
  go_simp
  have HXB := Lib.hid (HX4.out.alloc HX4.out.size (.cells #[.int .i64 t.1, .int .i64 t.2] 39)); have hsz := HX4.out.size
  refine hK.out _ _ (HKP.out _ HXB.out) (fun hHeld => ?_)
  clear hK K
  try simp only [List.getElem_toArray, List.getElem_cons_succ, List.getElem_cons_zero, Act.put, List.setIfInBounds_toArray, List.set_cons_zero, List.set_cons_succ]
  refine wpAnyH_ready (rs := [7]) (by kernel_rfl) (by simp) ?_
  refine AllReadyH.cons (o := _) rfl (fun K hK => ?_) AllReadyH.nil
  (refine step_appK rfl _ _ 23 rfl w2.heap.size 39 i0 (.agg #[.int .i64 0, .int .i64 0]) 2 16 Try.underlying23 hi hz0 hz1 hz2 rfl (by decide) _ 1 (tysV [(3, a)]) rfl (HO4.out.alloc _) (some ⟨w4.heap.size, 0, none⟩) 1 1 _ (tysV [t]) rfl rfl (lies_t1 (by simp) (by go_simp) (by go_simp)) (tysV_one _) (by unfold maxLen; omega) (by omega) (by simp; omega) ?_; intro v6 w6 hown hgrow; have HX6 := Lib.hid (appK_more HXB.out (HO4.out.alloc _) (by simp; omega) hgrow); have HO6 := Lib.hid hown; clear hown hgrow)
  refine hK.out _ _ (HKP.out _ HX6.out) (fun hHeld => ?_)
  clear hK K
  try simp only [List.getElem_toArray, List.getElem_cons_succ, List.getElem_cons_zero, Act.put, List.setIfInBounds_toArray, List.set_cons_zero, List.set_cons_succ]
  refine wpAnyH_take (i := 8) (oi := _) (v := ?_) rfl (by kernel_rfl) (by kernel_rfl) (by kernel_rfl) (fun _ _ _ h => h) (Or.inl ⟨by rfl, ?_⟩) (by assumption) ?_
  rotate_left
  · (intro w hSw; (try dsimp only at hSw); go_simp <;> with_reducible rfl)
  try simp only [List.getElem_toArray, List.getElem_cons_succ, List.getElem_cons_zero, Act.put, List.setIfInBounds_toArray, List.set_cons_zero, List.set_cons_succ]
  refine wpAnyH_done (by kernel_rfl) ?_ _
  refine NoPanic.normal ?_
  go_wp2_with fail
  go_ret
  exact OwnFromW.some_ (w0 := w2) ⟨_, rfl, HO6.out, HX6.out⟩ HW.out

set_option maxHeartbeats 1600000 in
theorem ftk_32 (m : Img) (x : Mth) (f : Nat) (a b : Int) (k : Nat) (hs : slotOf m.classes a b = some (k : Int)) (y : Mth) (hy : m.methods[k]? = some y) (hal : 0 < y.args.length) (hal2 : y.args.length ≤ 1000) (h : Hnd) (w : World) (H : ImgIn w w.heap.size h m) :
    Calls Try.prog 57 #[imgV h m, insV 32 a b, .int .i64 f] w (SomeTypes (wantsOf m x 32 a b) w) := by
  have e00 : slotN m a b = (k : Int) := by unfold slotN; rw [hs]; rfl
  have e0 : mthN m (k : Int) = y := by unfold mthN; rw [Int.toNat_natCast, hy]; rfl
  obtain ⟨D, hD⟩ : ∃ D, y.args.drop 1 = D := ⟨_, rfl⟩
  have hDl : D.length ≤ 1000 := by rw [← hD, List.length_drop]; omega
  have HSL := Lib.hid hs
  have HY := Lib.hid hy
  have e1 : wantsOf m x 32 a b = (3, a) :: D := by rw [← hD]; simp [wantsOf, e0, e00]
  rw [e1]
  clear e1
  have HL : Hid (mkOf a [3] = [(3, a)]) := Lib.hid (by simp [mkOf, mkOne])
  have HD := Lib.hid hD
  have HCO : Hid (((3, a) :: D).length = 1 + D.length) := Lib.hid (by rw [List.length_cons, Nat.add_comm])
  clear e00 e0 hs hy hD
  obtain ⟨i0, hi, hz0, hz1, hz2⟩ := info_partsK info_type
  obtain ⟨hw, hp⟩ := take_parts h m 32 a b w
  have HW := Lib.hid hw
  have HP := Lib.hid hp
  have HI := Lib.hid (H.now hw)
  clear hw hp H
  go_enter Try.func57, Try.ntmps57
  go_upto_region 1 with fail
  change Code.wp _ _ _ _ (twoW h m 32 a b w)
  go_upto_region 2 with (go_at_call 74; (refine (maker_is (h := h) (m := m) (w := w)).mono ?_); rintro e w2 ⟨rfl, rfl⟩)
  generalize takeW h m 32 a b w = w2 at *
  have HX : Hid (Below w2.heap.size w2 w2) := Lib.hid (Below.refl _ _)
  have HN := Lib.hid HP.out.fnlt
  have HC := Lib.hid HP.out.fn
  obtain ⟨q0, q1, q2, q3, q4, q5, q6⟩ := HP.out.img
  have o0 := HP.out.ins 0 _ rfl
  have o1 := HP.out.ins 1 _ rfl
  have o2 := HP.out.ins 2 _ rfl
  go_wp2_with fail
  have HXD : Hid (Below w2.heap.size w2 w2.drew) := Lib.hid (Below.refl _ _).drew
  have HKP : Hid (∀ W, Below w2.heap.size w2 W → (fun w' => w'.cell? ⟨w.heap.size, 0, none⟩ = some (.slice h.A0 m.classes.length h.c0) ∧ w'.cell? ⟨w.heap.size, 1, none⟩ = some (.slice h.A1 m.statics.length h.c1) ∧ w'.cell? ⟨w.heap.size, 2, none⟩ = some (.slice h.A2 m.ints.length h.c2) ∧ w'.cell? ⟨w.heap.size, 3, none⟩ = some (.slice h.A3 m.methods.length h.c3) ∧ w'.cell? ⟨w.heap.size, 4, none⟩ = some (.slice h.A4 m.entries.length h.c4) ∧ w'.cell? ⟨w.heap.size, 5, none⟩ = some (.int .i64 m.stack) ∧ w'.cell? ⟨w.heap.size, 6, none⟩ = some (.int .i64 m.heap) ∧ w'.cell? ⟨w.heap.size + 1, 0, none⟩ = some (.int .i64 32) ∧ w'.cell? ⟨w.heap.size + 1, 1, none⟩ = some (.int .i64 a) ∧ w'.cell? ⟨w.heap.size + 1, 2, none⟩ = some (.int .i64 b)) W) := Lib.hid (fun W hW => by
    have hz := HP.out.size
    obtain ⟨d0, d1, d2, d3, d4, d5, d6⟩ := HP.out.img.keep hW (by omega)
    have di := HP.out.ins.keep hW (by omega)
    exact ⟨d0, d1, d2, d3, d4, d5, d6, di 0 _ rfl, di 1 _ rfl, di 2 _ rfl⟩)
  clear q0 q1 q2 q3 q4 q5 q6 o0 o1 o2
  refine wp_region_noPanic ?_
  refine wp_region_held_drew (S := (fun w' => w'.cell? ⟨w.heap.size, 0, none⟩ = some (.slice h.A0 m.classes.length h.c0) ∧ w'.cell? ⟨w.heap.size, 1, none⟩ = some (.slice h.A1 m.statics.length h.c1) ∧ w'.cell? ⟨w.heap.size, 2, none⟩ = some (.slice h.A2 m.ints.length h.c2) ∧ w'.cell? ⟨w.heap.size, 3, none⟩ = some (.slice h.A3 m.methods.length h.c3) ∧ w'.cell? ⟨w.heap.size, 4, none⟩ = some (.slice h.A4 m.entries.length h.c4) ∧ w'.cell? ⟨w.heap.size, 5, none⟩ = some (.int .i64 m.stack) ∧ w'.cell? ⟨w.heap.size, 6, none⟩ = some (.int .i64 m.heap) ∧ w'.cell? ⟨w.heap.size + 1, 0, none⟩ = some (.int .i64 32) ∧ w'.cell? ⟨w.heap.size + 1, 1, none⟩ = some (.int .i64 a) ∧ w'.cell? ⟨w.heap.size + 1, 2, none⟩ = some (.int .i64 b))) (by kernel_rfl) (HKP.out _ HXD.out) (fun hHeld => ?_)
  refine wpAnyH_take (i := 0) (oi := _) (v := ?_) rfl (by kernel_rfl) (by kernel_rfl) (by kernel_rfl) (fun _ _ _ h => h) (Or.inl ⟨by rfl, ?_⟩) (by assumption) ?_
  rotate_left
  · (intro w hSw; (try dsimp only at hSw); go_simp <;> with_reducible rfl)
  try simp only [List.getElem_toArray, List.getElem_cons_succ, List.getElem_cons_zero, Act.put, List.setIfInBounds_toArray, List.set_cons_zero, List.set_cons_succ]
  refine wpAnyH_take (i := 3) (oi := _) (v := ?_) rfl (by kernel_rfl) (by kernel_rfl) (by kernel_rfl) (fun _ _ _ h => h) (Or.inl ⟨by rfl, ?_⟩) (by assumption) ?_
  rotate_left
  · (intro w hSw; (try dsimp only at hSw); go_simp <;> with_reducible rfl)
  try simp only [List.getElem_toArray, List.getElem_cons_succ, List.getElem_cons_zero, Act.put, List.setIfInBounds_toArray, List.set_cons_zero, List.set_cons_succ]
  refine wpAnyH_take (i := 4) (oi := _) (v := ?_) rfl (by kernel_rfl) (by kernel_rfl) (by kernel_rfl) (fun _ _ _ h => h) (Or.inl ⟨by rfl, ?_⟩) (by assumption) ?_
  rotate_left
  · (intro w hSw; (try dsimp only at hSw); go_simp <;> with_reducible rfl)
  try simp only [List.getElem_toArray, List.getElem_cons_succ, List.getElem_cons_zero, Act.put, List.setIfInBounds_toArray, List.set_cons_zero, List.set_cons_succ]
  refine wpAnyH_take (i := 5) (oi := _) (v := ?_) rfl (by kernel_rfl) (by kernel_rfl) (by kernel_rfl) (fun _ _ _ h => h) (Or.inl ⟨by rfl, ?_⟩) (by assumption) ?_
  rotate_left
  · (intro w hSw; (try dsimp only at hSw); go_simp <;> with_reducible rfl)
  try simp only [List.getElem_toArray, List.getElem_cons_succ, List.getElem_cons_zero, Act.put, List.setIfInBounds_toArray, List.set_cons_zero, List.set_cons_succ]
  refine wpAnyH_ready (rs := [1]) (by kernel_rfl) (by simp) ?_
  refine AllReadyH.cons (o := _) rfl (fun K hK => ?_) AllReadyH.nil
  go_simp
  refine hK.out _ _ (HKP.out _ (HXD.out.alloc HXD.out.size _)) (fun hHeld => ?_)
  clear hK K
  try simp only [List.getElem_toArray, List.getElem_cons_succ, List.getElem_cons_zero, Act.put, List.setIfInBounds_toArray, List.set_cons_zero, List.set_cons_succ]
  refine wpAnyH_ready (rs := [2]) (by kernel_rfl) (by simp) ?_
  refine AllReadyH.cons (o := _) rfl (fun K hK => ?_) AllReadyH.nil
  go_simp
  go_wp2_with (go_at_call 90; (with_reducible refine (fmkd1_is HL HN HC).mono ?_); rintro e w3 ⟨v3, rfl, ho3, hb3⟩; have HO3 := Lib.hid ho3; have HX3 := Lib.hid hb3; clear ho3 hb3)
  refine hK.out _ _ (HKP.out _ HX3.out) (fun hHeld => ?_)
  clear hK K
  try simp only [List.getElem_toArray, List.getElem_cons_succ, List.getElem_cons_zero, Act.put, List.setIfInBounds_toArray, List.set_cons_zero, List.set_cons_succ]
  refine wpAnyH_ready (rs := [6]) (by kernel_rfl) (by simp) ?_
  refine AllReadyH.cons (o := _) rfl (fun K hK => ?_) AllReadyH.nil
  go_simp
  go_wp2_with (go_at_call 80; (with_reducible refine (fslot_is HI HX3 HSL).mono ?_); rintro e w4 ⟨rfl, hb⟩; have HX4 := Lib.hid (HX3.out.trans (hb.mono HX3.out.size)); have HO4 := Lib.hid (own_below HO3.out hb (own_block_lt HO3.out)); clear hb)
  refine hK.out _ _ (HKP.out _ HX4.out) (fun hHeld => ?_)
  clear hK K
  try simp only [List.getElem_toArray, List.getElem_cons_succ, List.getElem_cons_zero, Act.put, List.setIfInBounds_toArray, List.set_cons_zero, List.set_cons_succ]
  refine wpAnyH_ready (rs := [7]) (by kernel_rfl) (by simp) ?_
  refine AllReadyH.cons (o := _) rfl (fun K hK => ?_) AllReadyH.nil
  go_simp
  go_wp2_with (go_at_call 79; (with_reducible refine (fothers_is HI HX4 HY.out hal).mono ?_); rintro e w5 ⟨A5, c5, rfl, hs5, hb⟩; (try rw [HD.out] at hs5); have HT5 := Lib.hid (tys_lie hs5.row); have HX5 := Lib.hid (HX4.out.trans (hb.mono HX4.out.size)); have HO5 := Lib.hid (own_below HO4.out hb (own_block_lt HO4.out)); clear hb hs5; have HXB := HX5; have hsz := HX5.out.size; rw [HD.out])
  refine hK.out _ _ (HKP.out _ HX5.out) (fun hHeld => ?_)
  clear hK K
  try simp only [List.getElem_toArray, List.getElem_cons_succ, List.getElem_cons_zero, Act.put, List.setIfInBounds_toArray, List.set_cons_zero, List.set_cons_succ]
  refine wpAnyH_ready (rs := [8]) (by kernel_rfl) (by simp) ?_
  refine AllReadyH.cons (o := _) rfl (fun K hK => ?_) AllReadyH.nil
  (refine step_appK rfl _ _ 23 rfl w2.heap.size 39 i0 (.agg #[.int .i64 0, .int .i64 0]) 2 16 Try.underlying23 hi hz0 hz1 hz2 rfl (by decide) _ 1 (tysV [(3, a)]) rfl HO5.out A5 D.length c5 _ (tysV D) (tysV_len _) rfl HT5.out (tysV_one _) (by unfold maxLen; omega) (by omega) hsz ?_; intro v6 w6 hown hgrow; have HX6 := Lib.hid (appK_more HXB.out HO5.out hsz hgrow); have HO6 := Lib.hid hown; clear hown hgrow)
  refine hK.out _ _ (HKP.out _ HX6.out) (fun hHeld => ?_)
  clear hK K
  try simp only [List.getElem_toArray, List.getElem_cons_succ, List.getElem_cons_zero, Act.put, List.setIfInBounds_toArray, List.set_cons_zero, List.set_cons_succ]
  refine wpAnyH_take (i := 9) (oi := _) (v := ?_) rfl (by kernel_rfl) (by kernel_rfl) (by kernel_rfl) (fun _ _ _ h => h) (Or.inl ⟨by rfl, ?_⟩) (by assumption) ?_
  rotate_left
  · (intro w hSw; (try dsimp only at hSw); go_simp <;> with_reducible rfl)
  try simp only [List.getElem_toArray, List.getElem_cons_succ, List.getElem_cons_zero, Act.put, List.setIfInBounds_toArray, List.set_cons_zero, List.set_cons_succ]
  refine wpAnyH_done (by kernel_rfl) ?_ _
  refine NoPanic.normal ?_
  go_wp2_with fail
  go_ret
  exact OwnFromW.some_ (w0 := w2) ⟨_, rfl, by rw [HCO.out]; exact HO6.out, HX6.out⟩ HW.out

end Go.Proofs.Ytgpmdhdooglkfaa
