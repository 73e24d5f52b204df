/-
  What the document's own answer for the type of a local (Local) comes to.
  What the document's own answer for the method in a slot (Slot) comes to.
  Words for what an instruction takes and gives, in memory.
  What the document's own answer for a method's result (gives) comes to.
  What the program's own word for what a list has at a place (at) comes to: of classes, numbers and types; whether there is a class of a number (isClass).
-/
import Derived.Test.YtgpmdhdooglkfaaM03
import Derived.Test.YtgpmdhdooglkfaaM02
import Derived.RegionTactic
import Derived.ChangeAlike
import Derived.Deep.RegionHeld3
import Derived.Deep.QuietTactic
import Derived.BigQuiet
import Derived.Test.YtgpmdhdooglkfaaM01
namespace Go.Proofs.Ytgpmdhdooglkfaa
set_option maxRecDepth 100000
set_option linter.unusedVariables false
set_option linter.unusedSimpArgs false
open Go.ChangeShapes Go.WideShapes Go.ChangeAt Go.RowKit

set_option maxHeartbeats 1600000 in
theorem rlocal_any (x : Mth) (n : Int) (hs : n ≤ 9223372036854775807) (hx : MHnd) (w : World) (H : MthIn w w.heap.size hx x) (ha : x.args.length ≤ 1048576) (hl : x.locals.length ≤ 1048576) :
    Calls Try.prog 67 #[mthV hx x, .int .i64 n] w fun e w' => e = .returned (tyV (localOf x n).1 (localOf x n).2) ∧ Below w.heap.size w w' := by
  obtain ⟨i0, hi, hz0, hz1, hz2⟩ := info_partsK info_type
  have HW := Lib.hid (((Below.refl w.heap.size w).alloc (Nat.le_refl _) (.cells (mthL hx x).toArray 52)).alloc (by simp) (.cells #[.int .i64 0, .int .i64 0] 39))
  have HQ := Lib.hid (show Whole ((w.alloc (.cells (mthL hx x).toArray 52)).alloc (.cells #[.int .i64 0, .int .i64 0] 39)) (w.heap.size + 1) [.int .i64 0, .int .i64 0] 39 from Whole.at_ (by simp) _ _)
  have HC := Lib.hid ((cells_new w (mthL hx x) 52).keep ((Below.refl _ _).alloc (Nat.le_refl _) (.cells #[.int .i64 0, .int .i64 0] 39)) (by simp))
  have HM := Lib.hid (H.now HW.out)
  obtain ⟨t, ht⟩ : ∃ t, localOf x n = t := ⟨_, rfl⟩
  rw [ht]
  have HR := Lib.hid ht
  clear H ht
  go_enter Try.func67, Try.ntmps67
  go_upto_region 1 with fail
  generalize (w.alloc (.cells (mthL hx x).toArray 52)).alloc (.cells #[.int .i64 0, .int .i64 0] 39) = w1 at *
  have q0 := HC.out 0 _ rfl
  have q1 := HC.out 1 _ rfl
  have hlt := HQ.out.lt
  have HC0 : Hid (∀ W, Below w1.heap.size w1 W → W.cell? ⟨w.heap.size, 0, none⟩ = some (.slice hx.A0 x.args.length hx.k0)) := Lib.hid (fun W hW => (hW.cell (p := ⟨w.heap.size, 0, none⟩) (by show w.heap.size < _; omega)).trans q0)
  have HC1 : Hid (∀ W, Below w1.heap.size w1 W → W.cell? ⟨w.heap.size, 1, none⟩ = some (.slice hx.A1 x.locals.length hx.k1)) := Lib.hid (fun W hW => (hW.cell (p := ⟨w.heap.size, 1, none⟩) (by show w.heap.size < _; omega)).trans q1)
  have HA := Lib.hid (tys_lie HM.out.args.row)
  have HL := Lib.hid (tys_lie HM.out.locals.row)
  clear HC
  go_wp2
  refine wp_region_noPanic ?_
  refine wp_region_held_drew (S := (fun w' => w'.cell? ⟨w.heap.size, 0, none⟩ = some (.slice hx.A0 x.args.length hx.k0) ∧ w'.cell? ⟨w.heap.size, 1, none⟩ = some (.slice hx.A1 x.locals.length hx.k1))) (by kernel_rfl) ⟨q0, q1⟩ (fun hHeld => ?_)
  refine wpAnyH_take (i := 1) (oi := _) (v := ?_) rfl (by kernel_rfl) (by kernel_rfl) (by kernel_rfl) (fun _ _ _ h => h) (Or.inl ⟨by rfl, ?_⟩) (by assumption) ?_
  rotate_left
  · (intro w hSw; (try dsimp only at hSw); go_simp <;> with_reducible rfl)
  try simp only [List.getElem_toArray, List.getElem_cons_succ, List.getElem_cons_zero, Act.put, List.setIfInBounds_toArray, List.set_cons_zero, List.set_cons_succ]
  refine wpAnyH_take (i := 2) (oi := _) (v := ?_) rfl (by kernel_rfl) (by kernel_rfl) (by kernel_rfl) (fun _ _ _ h => h) (Or.inl ⟨by rfl, ?_⟩) (by assumption) ?_
  rotate_left
  · (intro w hSw; (try dsimp only at hSw); go_simp <;> with_reducible rfl)
  try simp only [List.getElem_toArray, List.getElem_cons_succ, List.getElem_cons_zero, Act.put, List.setIfInBounds_toArray, List.set_cons_zero, List.set_cons_succ]
  refine wpAnyH_take (i := 4) (oi := _) (v := ?_) rfl (by kernel_rfl) (by kernel_rfl) (by kernel_rfl) (fun _ _ _ h => h) (Or.inl ⟨by rfl, ?_⟩) (by assumption) ?_
  rotate_left
  · (intro w hSw; (try dsimp only at hSw); go_simp <;> with_reducible rfl)
  try simp only [List.getElem_toArray, List.getElem_cons_succ, List.getElem_cons_zero, Act.put, List.setIfInBounds_toArray, List.set_cons_zero, List.set_cons_succ]
  refine wpAnyH_take (i := 5) (oi := _) (v := ?_) rfl (by kernel_rfl) (by kernel_rfl) (by kernel_rfl) (fun _ _ _ h => h) (Or.inl ⟨by rfl, ?_⟩) (by assumption) ?_
  rotate_left
  · (intro w hSw; (try dsimp only at hSw); go_simp <;> with_reducible rfl)
  try simp only [List.getElem_toArray, List.getElem_cons_succ, List.getElem_cons_zero, Act.put, List.setIfInBounds_toArray, List.set_cons_zero, List.set_cons_succ]
  refine wpAnyH_ready (rs := [0]) (by kernel_rfl) (by simp) ?_
  refine AllReadyH.cons (o := _) rfl (fun K hK => ?_) AllReadyH.nil
  go_simp
  have HB0 := Lib.hid ((Below.refl w1.heap.size w1).drew.alloc (Nat.le_refl _) (.cells #[] 39)); have HO0 := Lib.hid (own_emptyK w1.drew 39 2); have HA0 := Lib.hid ((HA.out.below_to HB0.out (Nat.le_refl _)) : Lies (w1.drew.alloc (.cells #[] 39)) w1.heap.size hx.A0 (tysV x.args))
  refine hK.out _ _ ⟨HC0.out _ HB0.out, HC1.out _ HB0.out⟩ (fun hHeld => ?_)
  clear hK K
  try simp only [List.getElem_toArray, List.getElem_cons_succ, List.getElem_cons_zero, Act.put, List.setIfInBounds_toArray, List.set_cons_zero, List.set_cons_succ]
  refine wpAnyH_ready (rs := [3]) (by kernel_rfl) (by simp) ?_
  refine AllReadyH.cons (o := _) rfl (fun K hK => ?_) AllReadyH.nil
  (refine step_appK rfl _ _ 23 rfl w1.heap.size 39 i0 (.agg #[.int .i64 0, .int .i64 0]) 2 16 Try.underlying23 hi hz0 hz1 hz2 rfl (by decide) _ 0 [] rfl HO0.out hx.A0 x.args.length hx.k0 _ (tysV x.args) (tysV_len _) rfl HA0.out (tysV_one _) (by unfold maxLen; omega) (by omega) HB0.out.size ?_; intro v2 w2 hown hgrow; have HB2 := Lib.hid (appK_more HB0.out HO0.out HB0.out.size hgrow); have HO2 := Lib.hid hown; have HL2 := Lib.hid ((HL.out.below_to HB2.out (Nat.le_refl _)) : Lies w2 w1.heap.size hx.A1 (tysV x.locals)); clear hown hgrow)
  refine hK.out _ _ ⟨HC0.out _ HB2.out, HC1.out _ HB2.out⟩ (fun hHeld => ?_)
  clear hK K
  try simp only [List.getElem_toArray, List.getElem_cons_succ, List.getElem_cons_zero, Act.put, List.setIfInBounds_toArray, List.set_cons_zero, List.set_cons_succ]
  refine wpAnyH_ready (rs := [6]) (by kernel_rfl) (by simp) ?_
  refine AllReadyH.cons (o := _) rfl (fun K hK => ?_) AllReadyH.nil
  (refine step_appK rfl _ _ 23 rfl w1.heap.size 39 i0 (.agg #[.int .i64 0, .int .i64 0]) 2 16 Try.underlying23 hi hz0 hz1 hz2 rfl (by decide) _ (0 + x.args.length) ([] ++ tysV x.args) rfl HO2.out hx.A1 x.locals.length hx.k1 _ (tysV x.locals) (tysV_len _) rfl HL2.out (tysV_one _) (by unfold maxLen; omega) (by omega) HB2.out.size ?_; intro v3 w3 hown hgrow; have HB3 := Lib.hid (appK_more HB2.out HO2.out HB2.out.size hgrow); have HO3 := Lib.hid hown; clear hown hgrow)
  refine hK.out _ _ ⟨HC0.out _ HB3.out, HC1.out _ HB3.out⟩ (fun hHeld => ?_)
  clear hK K
  try simp only [List.getElem_toArray, List.getElem_cons_succ, List.getElem_cons_zero, Act.put, List.setIfInBounds_toArray, List.set_cons_zero, List.set_cons_succ]
  refine wpAnyH_take (i := 7) (oi := _) (v := ?_) rfl (by kernel_rfl) (by kernel_rfl) (by kernel_rfl) (fun _ _ _ h => h) (Or.inl ⟨by rfl, ?_⟩) (by assumption) ?_
  rotate_left
  · (intro w hSw; (try dsimp only at hSw); go_simp <;> with_reducible rfl)
  try simp only [List.getElem_toArray, List.getElem_cons_succ, List.getElem_cons_zero, Act.put, List.setIfInBounds_toArray, List.set_cons_zero, List.set_cons_succ]
  refine wpAnyH_done (by kernel_rfl) ?_ _
  refine NoPanic.normal ?_
  have HQ3 := Lib.hid (HQ.out.keep HB3.out hlt)
  obtain ⟨L, hL⟩ : ∃ L, x.args ++ x.locals = L := ⟨_, rfl⟩
  have hLl : L.length ≤ 2097152 := by rw [← hL, List.length_append]; omega
  have HE := Lib.hid (show localOf x n = if 0 ≤ n then L[n.toNat]?.getD (0, 0) else (0, 0) by rw [← hL]; rfl)
  have hO : w3.ownsRow w1.heap.size 39 2 v3 L.length (tysV L) := by
    have := HO3.out
    rw [← hL, List.length_append]
    unfold tysV at this ⊢
    rw [List.flatMap_append]
    simpa using this
  obtain ⟨A3, c3, rfl, hS, _⟩ := own_types hO
  have HS := Lib.hid hS
  have hlt3 := HQ3.out.lt
  have c0 := HQ3.out.cells 0 _ rfl
  have c1 := HQ3.out.cells 1 _ rfl
  have f0 := HQ3.out.free 0
  have f1 := HQ3.out.free 1
  clear hL hS hO HO3 HO2 HL2 HA0 HO0 hHeld q0 q1
  have hW3 := HB3.out.size
  have hW1 := HW.out.size
  by_cases h0 : n < 0
  · obtain rfl : t = (0, 0) := by rw [← HR.out, HE.out, if_neg (by omega)]
    clear HE HR
    go_wp2_with fail
    first
      | exact bodyPost_ret (v := tyV 0 0) (by simp [results, Try.results67, go_sem, c0, c1]) rfl ⟨rfl, HW.out.trans (HB3.out.mono hW1)⟩
      | (have HQ4 := (HQ3.out.set 0 (.int .i64 0)).set 1 (.int .i64 0)
         have d0 := HQ4.cells 0 _ rfl
         have d1 := HQ4.cells 1 _ rfl
         exact bodyPost_ret (v := tyV 0 0) (by simp [results, Try.results67, go_sem, d0, d1]) rfl ⟨rfl, HW.out.trans (((HB3.out.mono hW1).setCell (p := ⟨w.heap.size + 1, 0, none⟩) (by show w.heap.size ≤ w.heap.size + 1; omega) (.int .i64 0)).setCell (p := ⟨w.heap.size + 1, 1, none⟩) (by show w.heap.size ≤ w.heap.size + 1; omega) (.int .i64 0))⟩)
  · have h0' : 0 ≤ n := by omega
    by_cases h1 : n < L.length
    · obtain ⟨j, rfl⟩ := Int.eq_ofNat_of_zero_le h0'
      have hj : j < L.length := by omega
      obtain ⟨ad, rfl, hab, r0, r1⟩ := HS.out.row.at_ hj
      have HE2 := Lib.hid (show localOf x (j : Int) = L[j] by rw [HE.out, if_pos (by omega), Int.toNat_natCast, List.getElem?_eq_getElem hj]; rfl)
      have e : L[j] = t := HE2.out.symm.trans HR.out
      rw [e] at r0 r1
      clear HE HE2 HR e
      go_wp2_with fail
      have HQ4 := (HQ3.out.set 0 (.int .i64 t.1)).set 1 (.int .i64 t.2)
      have d0 := HQ4.cells 0 _ rfl
      have d1 := HQ4.cells 1 _ rfl
      exact bodyPost_ret (v := tyV t.1 t.2) (by simp [results, Try.results67, go_sem, d0, d1]) rfl ⟨rfl, HW.out.trans (((HB3.out.mono hW1).setCell (p := ⟨w.heap.size + 1, 0, none⟩) (by show w.heap.size ≤ w.heap.size + 1; omega) (.int .i64 t.1)).setCell (p := ⟨w.heap.size + 1, 1, none⟩) (by show w.heap.size ≤ w.heap.size + 1; omega) (.int .i64 t.2))⟩
    · have h1' : (L.length : Int) ≤ n := by omega
      have HE2 := Lib.hid (show localOf x n = (0, 0) by rw [HE.out, if_pos h0', List.getElem?_eq_none (by omega)]; rfl)
      obtain rfl : t = (0, 0) := HR.out.symm.trans HE2.out
      clear HE HE2 HR
      go_wp2_with fail
      first
        | exact bodyPost_ret (v := tyV 0 0) (by simp [results, Try.results67, go_sem, c0, c1]) rfl ⟨rfl, HW.out.trans (HB3.out.mono hW1)⟩
        | (have HQ4 := (HQ3.out.set 0 (.int .i64 0)).set 1 (.int .i64 0)
           have d0 := HQ4.cells 0 _ rfl
           have d1 := HQ4.cells 1 _ rfl
           exact bodyPost_ret (v := tyV 0 0) (by simp [results, Try.results67, go_sem, d0, d1]) rfl ⟨rfl, HW.out.trans (((HB3.out.mono hW1).setCell (p := ⟨w.heap.size + 1, 0, none⟩) (by show w.heap.size ≤ w.heap.size + 1; omega) (.int .i64 0)).setCell (p := ⟨w.heap.size + 1, 1, none⟩) (by show w.heap.size ≤ w.heap.size + 1; omega) (.int .i64 0))⟩)
end Go.Proofs.Ytgpmdhdooglkfaa
namespace Go.Proofs.Ytgpmdhdooglkfaa
set_option maxRecDepth 100000
set_option linter.unusedVariables false
set_option linter.unusedSimpArgs false
open Go.ChangeShapes Go.WideShapes Go.ChangeAt Go.RowKit

theorem rslot_any (m : Img) (c n : Int) (h : Hnd) (w : World) (H : ImgIn w w.heap.size h m) :
    Calls Try.prog 69 #[imgV h m, .int .i64 c, .int .i64 n] w (SlotOut (slotOf m.classes c n) w) := by
  have HW := Lib.hid ((Below.refl w.heap.size w).alloc (Nat.le_refl _) (imgO h m))
  have HIM := Lib.hid (H.now HW.out)
  have HBX := Lib.hid (img_box w h m)
  have hle := H.classes.le
  have hcap := H.classes.cap
  have hn63 : m.classes.length ≤ 9223372036854775807 := by omega
  clear H hle hcap
  by_cases hc : 0 ≤ c ∧ c < m.classes.length
  · obtain ⟨c0, c1⟩ := hc
    obtain ⟨i, rfl⟩ := Int.eq_ofNat_of_zero_le c0
    have hi : i < m.classes.length := by omega
    clear c0 c1
    obtain ⟨ad, e0, hab, s0, ⟨A1, k1, s1, hs1⟩, ⟨A2, k2, s2, hs2⟩, _⟩ := HIM.out.classes.row.at_ hi
    have HE := Lib.hid e0
    clear e0
    have l1 := hs2.le
    have l2 := hs2.cap
    have hs63 : m.classes[i].slots.length ≤ 9223372036854775807 := by omega
    have HSL := Lib.hid hs2
    clear hs1 hs2 l1 l2
    by_cases hnn : 0 ≤ n ∧ n < m.classes[i].slots.length
    · obtain ⟨n0, n1⟩ := hnn
      obtain ⟨j, rfl⟩ := Int.eq_ofNat_of_zero_le n0
      have hj : j < m.classes[i].slots.length := by omega
      clear n0 n1
      rw [slotOf_yes hi hj]
      obtain ⟨ad2, rfl, hab2, z0⟩ := HSL.out.row.at_ hj
      clear HSL
      rw [Nat.mul_one] at z0
      generalize m.classes[i].slots[j] = f at *
      generalize m.classes[i] = x at *
      have z0' : (w.alloc (imgO h m)).cell? (ad2.add j) = some (.int .i64 f) := z0
      clear z0
      go_enter Try.func69, Try.ntmps69
      go_upto_region 1 with fail
      generalize w.alloc (imgO h m) = w1 at *
      obtain ⟨q0, q1, q2, q3, q4, q5, q6⟩ := HBX.out
      rw [HE.out] at q0
      go_wp2_with fail
      go_ret2
      exact ⟨rfl, HW.out⟩
    · rw [slotOf_slot hi (by omega)]
      have hno : n < 0 ∨ (m.classes[i].slots.length : Int) ≤ n := by omega
      clear hnn HSL
      generalize m.classes[i] = x at *
      rcases hno with hno | hno
      · go_enter Try.func69, Try.ntmps69
        go_upto_region 1 with fail
        generalize w.alloc (imgO h m) = w1 at *
        obtain ⟨q0, q1, q2, q3, q4, q5, q6⟩ := HBX.out
        rw [HE.out] at q0
        go_wp2_with fail
        go_ret2
        exact ⟨rfl, HW.out⟩
      · have hn0 : 0 ≤ n := by omega
        go_enter Try.func69, Try.ntmps69
        go_upto_region 1 with fail
        generalize w.alloc (imgO h m) = w1 at *
        obtain ⟨q0, q1, q2, q3, q4, q5, q6⟩ := HBX.out
        rw [HE.out] at q0
        go_wp2_with fail
        go_ret2
        exact ⟨rfl, HW.out⟩
  · have hno : c < 0 ∨ (m.classes.length : Int) ≤ c := by omega
    rw [slotOf_class hno]
    clear hc
    rcases hno with hno | hno
    · go_enter Try.func69, Try.ntmps69
      go_upto_region 1 with fail
      generalize w.alloc (imgO h m) = w1 at *
      obtain ⟨q0, q1, q2, q3, q4, q5, q6⟩ := HBX.out
      go_wp2_with fail
      go_ret2
      exact ⟨rfl, HW.out⟩
    · have hn0 : 0 ≤ c := by omega
      go_enter Try.func69, Try.ntmps69
      go_upto_region 1 with fail
      generalize w.alloc (imgO h m) = w1 at *
      obtain ⟨q0, q1, q2, q3, q4, q5, q6⟩ := HBX.out
      go_wp2_with fail
      go_ret2
      exact ⟨rfl, HW.out⟩
theorem rslot_is {m : Img} {h : Hnd} {w0 w : World} {c n : Int} {o : Option Int} (HI : Hid (ImgIn w0 w0.heap.size h m)) (HX : Hid (Below w0.heap.size w0 w)) (HO : Hid (slotOf m.classes c n = o)) :
    Calls Try.prog 69 #[imgV h m, .int .i64 c, .int .i64 n] w (SlotOut o w) := by
  have H := rslot_any m c n h w (HI.out.now HX.out)
  rw [HO.out] at H
  exact H
end Go.Proofs.Ytgpmdhdooglkfaa
namespace Go.Proofs.Ytgpmdhdooglkfaa
set_option maxRecDepth 100000
set_option linter.unusedVariables false
set_option linter.unusedSimpArgs false
open Go.ChangeShapes Go.WideShapes Go.ChangeAt Go.RowKit

/-- Two lists of types, wherever they lie. -/
def TwoTypes (L M : List (Int × Int)) (w : World) (e : Ending) (w' : World) : Prop :=
  ∃ A c A' c', e = .returned (.tuple #[.slice A L.length c, .slice A' M.length c']) ∧ SlcIs TyAt 2 w' w'.heap.size A c L ∧ SlcIs TyAt 2 w' w'.heap.size A' c' M ∧ Below w.heap.size w w'
/-- The boxes with which it begins: the image, the instruction, five types. -/
abbrev ruleW (h : Hnd) (m : Img) (op a b : Int) (w : World) : World :=
  ((((((w.alloc (imgO h m)).alloc (.cells #[.int .i64 op, .int .i64 a, .int .i64 b] 49)).alloc (.cells #[.int .i64 1, .int .i64 0] 39)).alloc (.cells #[.int .i64 2, .int .i64 0] 39)).alloc
    (.cells #[.int .i64 4, .int .i64 0] 39)).alloc (.cells #[.int .i64 0, .int .i64 0] 39)).alloc (.cells #[.int .i64 3, .int .i64 a] 39)
structure RuleBox (w1 : World) (N : Nat) (h : Hnd) (m : Img) (op a b : Int) : Prop where
  img : ImgBox w1 N h m
  ins : Cells w1 (N + 1) [.int .i64 op, .int .i64 a, .int .i64 b]
  t1 : Cells w1 (N + 1 + 1) [.int .i64 1, .int .i64 0]
  t2 : Cells w1 (N + 1 + 1 + 1) [.int .i64 2, .int .i64 0]
  t4 : Cells w1 (N + 1 + 1 + 1 + 1) [.int .i64 4, .int .i64 0]
  t0 : Cells w1 (N + 1 + 1 + 1 + 1 + 1) [.int .i64 0, .int .i64 0]
  t3 : Cells w1 (N + 1 + 1 + 1 + 1 + 1 + 1) [.int .i64 3, .int .i64 a]
  size : w1.heap.size = N + 1 + 1 + 1 + 1 + 1 + 1 + 1
theorem rule_parts (h : Hnd) (m : Img) (op a b : Int) (w : World) : Below w.heap.size w (ruleW h m op a b w) ∧ RuleBox (ruleW h m op a b w) w.heap.size h m op a b := by
  have z0 : (w.alloc (imgO h m)).heap.size = w.heap.size + 1 := by simp
  obtain ⟨c1, z1, b1⟩ := cells_step z0 [.int .i64 op, .int .i64 a, .int .i64 b] 49
  obtain ⟨c2, z2, b2⟩ := cells_step z1 [.int .i64 1, .int .i64 0] 39
  obtain ⟨c3, z3, b3⟩ := cells_step z2 [.int .i64 2, .int .i64 0] 39
  obtain ⟨c4, z4, b4⟩ := cells_step z3 [.int .i64 4, .int .i64 0] 39
  obtain ⟨c5, z5, b5⟩ := cells_step z4 [.int .i64 0, .int .i64 0] 39
  obtain ⟨c6, z6, b6⟩ := cells_step z5 [.int .i64 3, .int .i64 a] 39
  have b5' := b5.trans (b6.mono (by omega))
  have b4' := b4.trans (b5'.mono (by omega))
  have b3' := b3.trans (b4'.mono (by omega))
  have b2' := b2.trans (b3'.mono (by omega))
  have b1' := b1.trans (b2'.mono (by omega))
  exact ⟨((Below.refl w.heap.size w).alloc (Nat.le_refl _) (imgO h m)).trans (b1'.mono (by omega)),
    (img_box w h m).keep b1' (by omega), c1.keep b2' (by omega), c2.keep b3' (by omega), c3.keep b4' (by omega), c4.keep b5' (by omega), c5.keep b6 (by omega), c6, z6⟩
theorem new_t1 {w : World} {g : Nat} {x y : Int} (hg : g < w.heap.size) (h0 : w.cell? ⟨g, 0, none⟩ = some (.int .i64 x)) (h1 : w.cell? ⟨g, 1, none⟩ = some (.int .i64 y)) : SlcIs TyAt 2 w w.heap.size (some ⟨g, 0, none⟩) 1 [(x, y)] :=
  ⟨Nat.le_refl _, by show 1 ≤ 9223372036854775807; omega, row_one ⟨h0, h1⟩ hg⟩
theorem new_t2 {w : World} {g : Nat} {x y z u : Int} (hg : g < w.heap.size) (h0 : w.cell? ⟨g, 0, none⟩ = some (.int .i64 x)) (h1 : w.cell? ⟨g, 1, none⟩ = some (.int .i64 y)) (h2 : w.cell? ⟨g, 2, none⟩ = some (.int .i64 z)) (h3 : w.cell? ⟨g, 3, none⟩ = some (.int .i64 u)) : SlcIs TyAt 2 w w.heap.size (some ⟨g, 0, none⟩) 2 [(x, y), (z, u)] :=
  ⟨Nat.le_refl _, by show 2 ≤ 9223372036854775807; omega, fun i t hi => by
    match i, hi with
    | 0, hi => simp at hi; subst hi; exact ⟨_, rfl, hg, by simpa [Addr.add] using h0, by simpa [Addr.add] using h1⟩
    | 1, hi => simp at hi; subst hi; exact ⟨_, rfl, hg, by simpa [Addr.add] using h2, by simpa [Addr.add] using h3⟩
    | i + 2, hi => simp at hi⟩
theorem new_t3 {w : World} {g : Nat} {x y z u v s : Int} (hg : g < w.heap.size) (h0 : w.cell? ⟨g, 0, none⟩ = some (.int .i64 x)) (h1 : w.cell? ⟨g, 1, none⟩ = some (.int .i64 y)) (h2 : w.cell? ⟨g, 2, none⟩ = some (.int .i64 z)) (h3 : w.cell? ⟨g, 3, none⟩ = some (.int .i64 u)) (h4 : w.cell? ⟨g, 4, none⟩ = some (.int .i64 v)) (h5 : w.cell? ⟨g, 5, none⟩ = some (.int .i64 s)) : SlcIs TyAt 2 w w.heap.size (some ⟨g, 0, none⟩) 3 [(x, y), (z, u), (v, s)] :=
  ⟨Nat.le_refl _, by show 3 ≤ 9223372036854775807; omega, fun i t hi => by
    match i, hi with
    | 0, hi => simp at hi; subst hi; exact ⟨_, rfl, hg, by simpa [Addr.add] using h0, by simpa [Addr.add] using h1⟩
    | 1, hi => simp at hi; subst hi; exact ⟨_, rfl, hg, by simpa [Addr.add] using h2, by simpa [Addr.add] using h3⟩
    | 2, hi => simp at hi; subst hi; exact ⟨_, rfl, hg, by simpa [Addr.add] using h4, by simpa [Addr.add] using h5⟩
    | i + 3, hi => simp at hi⟩
end Go.Proofs.Ytgpmdhdooglkfaa
namespace Go.Proofs.Ytgpmdhdooglkfaa
set_option maxRecDepth 100000
set_option linter.unusedVariables false
set_option linter.unusedSimpArgs false
open Go.ChangeShapes Go.WideShapes Go.ChangeAt Go.RowKit

/-- A list of types, wherever it lies. -/
def SomeTypes (L : List (Int × Int)) (w : World) (e : Ending) (w' : World) : Prop := ∃ A c, e = .returned (.slice A L.length c) ∧ SlcIs TyAt 2 w' w'.heap.size A c L ∧ Below w.heap.size w w'
theorem rgives_any (x : Mth) (hx : MHnd) (w : World) : Calls Try.prog 68 #[mthV hx x] w (SomeTypes (givesOf x) w) := by
  have HW := Lib.hid ((Below.refl w.heap.size w).alloc (Nat.le_refl _) (.cells (mthL hx x).toArray 52))
  have HC := Lib.hid (cells_new w (mthL hx x) 52)
  have hz : Hid ((w.alloc (.cells (mthL hx x).toArray 52)).heap.size = w.heap.size + 1) := Lib.hid (by simp)
  by_cases h5 : x.ret.1 = 5
  · have e : givesOf x = [] := by unfold givesOf; rw [if_pos h5]
    rw [e]
    have H5 := Lib.hid h5
    clear e h5
    go_enter Try.func68, Try.ntmps68
    go_upto_region 1 with fail
    generalize w.alloc (.cells (mthL hx x).toArray 52) = w1 at *
    have q2 := HC.out 2 _ rfl
    rw [H5.out] at q2
    go_wp2_with fail
    go_ret
    exact ⟨none, 0, rfl, slc_none, HW.out⟩
  · have e : givesOf x = [x.ret] := by unfold givesOf; rw [if_neg h5]
    rw [e]
    clear e
    go_enter Try.func68, Try.ntmps68
    go_upto_region 1 with fail
    generalize w.alloc (.cells (mthL hx x).toArray 52) = w1 at *
    have q2 := HC.out 2 _ rfl
    have q3 := HC.out 3 _ rfl
    have hz := hz.out
    go_wp2_with fail
    go_ret
    refine ⟨_, _, rfl, new_t1 (by simp; try omega) (by go_simp) (by go_simp), HW.out.trans ((Below.refl _ _).alloc (by omega) _)⟩
theorem rgives_is {x : Mth} {hx : MHnd} {w : World} {L : List (Int × Int)} (HL : Hid (givesOf x = L)) : Calls Try.prog 68 #[mthV hx x] w (SomeTypes L w) := by
  have H := rgives_any x hx w
  rw [HL.out] at H
  exact H
theorem rlocal_is {x : Mth} {n : Int} {hx : MHnd} {w0 w : World} {t : Int × Int} (HM : Hid (MthIn w0 w0.heap.size hx x)) (HX : Hid (Below w0.heap.size w0 w)) (HR : Hid (localOf x n = t)) (hs : n ≤ 9223372036854775807) (ha : x.args.length ≤ 1048576) (hl : x.locals.length ≤ 1048576) :
    Calls Try.prog 67 #[mthV hx x, .int .i64 n] w fun e w' => e = .returned (.agg #[.int .i64 t.1, .int .i64 t.2]) ∧ Below w.heap.size w w' := by
  have H := rlocal_any x n hs hx w (HM.out.now HX.out) ha hl
  rw [HR.out] at H
  exact H
end Go.Proofs.Ytgpmdhdooglkfaa
namespace Go.Proofs.Ytgpmdhdooglkfaa
set_option maxRecDepth 100000
set_option linter.unusedVariables false
set_option linter.unusedSimpArgs false
open Go.ChangeShapes Go.WideShapes Go.ChangeAt Go.RowKit

theorem atcls_yes (k n cap : Nat) (ad : Addr) (s : Int) (A1 A2 : Option Addr) (n1 c1 n2 c2 : Nat) (w : World) (hk : k < n) (hn : n ≤ 9223372036854775807) (hab : ad.block < w.heap.size)
    (r0 : w.cell? (ad.add (k * 3)) = some (.int .i64 s)) (r1 : w.cell? (off_ (ad.add (k * 3)) 1) = some (.slice A1 n1 c1)) (r2 : w.cell? (off_ (ad.add (k * 3)) 2) = some (.slice A2 n2 c2)) :
    Calls Try.prog 98 #[.slice (some ad) n cap, .int .i64 k] w fun e w' => e = .returned (.tuple #[.agg #[.int .i64 s, .slice A1 n1 c1, .slice A2 n2 c2], .bool true]) ∧ Below w.heap.size w w' := by
  have HW := Lib.hid ((Below.refl w.heap.size w).alloc (Nat.le_refl _) (.cells #[.int .i64 0, .slice none 0 0, .slice none 0 0] 88))
  have r0 := (HW.out.cell (p := ad.add (k * 3)) (by rw [addr_add_block]; exact hab)).trans r0
  have r1 := (HW.out.cell (p := off_ (ad.add (k * 3)) 1) (by show (ad.add _).block < _; rw [addr_add_block]; exact hab)).trans r1
  have r2 := (HW.out.cell (p := off_ (ad.add (k * 3)) 2) (by show (ad.add _).block < _; rw [addr_add_block]; exact hab)).trans r2
  go_enter Try.func98, Try.ntmps98
  go_wp2
  exact bodyPost_ret (v := .tuple #[.agg #[.int .i64 s, .slice A1 n1 c1, .slice A2 n2 c2], .bool true]) (by simp [results, Try.results98, go_sem]) rfl ⟨rfl, (Below.refl _ _).alloc (Nat.le_refl _) _⟩
theorem atcls_no (k : Int) (n cap : Nat) (A : Option Addr) (w : World) (hn : n ≤ 9223372036854775807) (hk : k < 0 ∨ (n : Int) ≤ k) :
    Calls Try.prog 98 #[.slice A n cap, .int .i64 k] w fun e w' => e = .returned (.tuple #[.agg #[.int .i64 0, .slice none 0 0, .slice none 0 0], .bool false]) ∧ Below w.heap.size w w' := by
  by_cases h0 : k < 0
  · clear hk
    go_enter Try.func98, Try.ntmps98
    go_wp2
    exact bodyPost_ret (v := .tuple #[.agg #[.int .i64 0, .slice none 0 0, .slice none 0 0], .bool false]) (by simp [results, Try.results98, go_sem]) rfl ⟨rfl, ((Below.refl _ _).alloc (Nat.le_refl _) _).alloc (by simp) _⟩
  · have h1 : (n : Int) ≤ k := by omega
    have h2 : 0 ≤ k := by omega
    clear hk h0
    go_enter Try.func98, Try.ntmps98
    go_wp2
    exact bodyPost_ret (v := .tuple #[.agg #[.int .i64 0, .slice none 0 0, .slice none 0 0], .bool false]) (by simp [results, Try.results98, go_sem]) rfl ⟨rfl, ((Below.refl _ _).alloc (Nat.le_refl _) _).alloc (by simp) _⟩

theorem atint_yes (k n cap : Nat) (ad : Addr) (z : Int) (w : World) (hk : k < n) (hn : n ≤ 9223372036854775807) (r0 : w.cell? (ad.add k) = some (.int .i64 z)) :
    Calls Try.prog 99 #[.slice (some ad) n cap, .int .i64 k] w fun e w' => e = .returned (.tuple #[.int .i64 z, .bool true]) ∧ w = w' := by
  go_enter Try.func99, Try.ntmps99
  go_wp2
  go_ret2
  exact ⟨rfl, rfl⟩
theorem atint_no (k : Int) (n cap : Nat) (A : Option Addr) (w : World) (hn : n ≤ 9223372036854775807) (hk : k < 0 ∨ (n : Int) ≤ k) :
    Calls Try.prog 99 #[.slice A n cap, .int .i64 k] w fun e w' => e = .returned (.tuple #[.int .i64 0, .bool false]) ∧ Below w.heap.size w w' := by
  by_cases h0 : k < 0
  · clear hk
    go_enter Try.func99, Try.ntmps99
    go_wp2
    go_ret2
    exact ⟨rfl, by first | exact Below.refl _ _ | exact (Below.refl _ _).alloc (Nat.le_refl _) _⟩
  · have h1 : (n : Int) ≤ k := by omega
    have h2 : 0 ≤ k := by omega
    clear hk h0
    go_enter Try.func99, Try.ntmps99
    go_wp2
    go_ret2
    exact ⟨rfl, by first | exact Below.refl _ _ | exact (Below.refl _ _).alloc (Nat.le_refl _) _⟩

theorem attyp_yes (k n cap : Nat) (ad : Addr) (x y : Int) (w : World) (hk : k < n) (hn : n ≤ 9223372036854775807) (hab : ad.block < w.heap.size)
    (r0 : w.cell? (ad.add (k * 2)) = some (.int .i64 x)) (r1 : w.cell? (off_ (ad.add (k * 2)) 1) = some (.int .i64 y)) :
    Calls Try.prog 95 #[.slice (some ad) n cap, .int .i64 k] w fun e w' => e = .returned (.tuple #[tyV x y, .bool true]) ∧ Below w.heap.size w w' := by
  have HW := Lib.hid ((Below.refl w.heap.size w).alloc (Nat.le_refl _) (.cells #[.int .i64 0, .int .i64 0] 39))
  have r0 := (HW.out.cell (p := ad.add (k * 2)) (by rw [addr_add_block]; exact hab)).trans r0
  have r1 := (HW.out.cell (p := off_ (ad.add (k * 2)) 1) (by show (ad.add _).block < _; rw [addr_add_block]; exact hab)).trans r1
  go_enter Try.func95, Try.ntmps95
  go_wp2
  exact bodyPost_ret (v := .tuple #[tyV x y, .bool true]) (by simp [results, Try.results95, go_sem]) rfl ⟨rfl, (Below.refl _ _).alloc (Nat.le_refl _) _⟩
theorem attyp_no (k : Int) (n cap : Nat) (A : Option Addr) (w : World) (hn : n ≤ 9223372036854775807) (hk : k < 0 ∨ (n : Int) ≤ k) :
    Calls Try.prog 95 #[.slice A n cap, .int .i64 k] w fun e w' => e = .returned (.tuple #[tyV 0 0, .bool false]) ∧ Below w.heap.size w w' := by
  by_cases h0 : k < 0
  · clear hk
    go_enter Try.func95, Try.ntmps95
    go_wp2
    exact bodyPost_ret (v := .tuple #[tyV 0 0, .bool false]) (by simp [results, Try.results95, go_sem]) rfl ⟨rfl, ((Below.refl _ _).alloc (Nat.le_refl _) _).alloc (by simp) _⟩
  · have h1 : (n : Int) ≤ k := by omega
    have h2 : 0 ≤ k := by omega
    clear hk h0
    go_enter Try.func95, Try.ntmps95
    go_wp2
    exact bodyPost_ret (v := .tuple #[tyV 0 0, .bool false]) (by simp [results, Try.results95, go_sem]) rfl ⟨rfl, ((Below.refl _ _).alloc (Nat.le_refl _) _).alloc (by simp) _⟩

theorem isclass_yes (cl : List Cls) (k : Nat) (hk : k < cl.length) (A : Option Addr) (cap : Nat) (w : World) (h : SlcIs ClsAt 3 w w.heap.size A cap cl) :
    Calls Try.prog 101 #[.slice A cl.length cap, .int .i64 k] w fun e w' => e = .returned (.bool true) ∧ Below w.heap.size w w' := by
  have h1 := h.le
  have h2 := h.cap
  obtain ⟨ad, rfl, hab, r0, ⟨A1, k1, r1, _⟩, ⟨A2, k2, r2, _⟩, _⟩ := h.row.at_ hk
  clear h
  have hn : cl.length ≤ 9223372036854775807 := by omega
  generalize cl[k] = x at *
  generalize cl.length = n at *
  go_enter Try.func101, Try.ntmps101
  go_wp2_with (go_at_call 98; (with_reducible refine (atcls_yes k n cap ad _ _ _ _ _ _ _ w hk hn hab r0 r1 r2).mono ?_); rintro e w' ⟨rfl, hb⟩; have HB := Lib.hid hb; clear hb)
  go_ret
  exact ⟨rfl, by first | exact HB.out | exact HB.out.alloc HB.out.size _⟩
theorem isclass_no (cl : List Cls) (k : Int) (hk : k < 0 ∨ (cl.length : Int) ≤ k) (A : Option Addr) (cap : Nat) (w : World) (h : SlcIs ClsAt 3 w w.heap.size A cap cl) :
    Calls Try.prog 101 #[.slice A cl.length cap, .int .i64 k] w fun e w' => e = .returned (.bool false) ∧ Below w.heap.size w w' := by
  have h1 := h.le
  have h2 := h.cap
  have hn : cl.length ≤ 9223372036854775807 := by omega
  clear h
  generalize cl.length = n at *
  go_enter Try.func101, Try.ntmps101
  go_wp2_with (go_at_call 98; (with_reducible refine (atcls_no k n cap A w hn hk).mono ?_); rintro e w' ⟨rfl, hb⟩; have HB := Lib.hid hb; clear hb)
  go_ret
  exact ⟨rfl, by first | exact HB.out | exact HB.out.alloc HB.out.size _⟩

end Go.Proofs.Ytgpmdhdooglkfaa
