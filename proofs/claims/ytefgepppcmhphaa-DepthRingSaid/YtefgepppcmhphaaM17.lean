/-
  What the document's own answer for the type of a local (Local) comes to.
  Words for what an instruction takes and gives, in memory.
-/
import Derived.Test.YtefgepppcmhphaaM13
import Derived.Test.YtefgepppcmhphaaM02
import Derived.Test.YtefgepppcmhphaaM14
import Derived.Test.YtefgepppcmhphaaM05
import Derived.RegionTactic
import Derived.ChangeAlike
import Derived.Deep.RegionHeld3
import Derived.Deep.QuietTactic
import Derived.BigQuiet
namespace Go.Proofs.Ytefgepppcmhphaa
set_option maxRecDepth 100000
set_option linter.unusedVariables false
set_option linter.unusedSimpArgs false
open Go.ChangeShapes Go.WideShapes Go.ChangeAt Go.RowKit

set_option maxHeartbeats 1600000 in
theorem rlocal_any (x : Mth) (n : Int) (hs : n ≤ 9223372036854775807) (hx : MHnd) (w : World) (H : MthIn w w.heap.size hx x) (ha : x.args.length ≤ 1048576) (hl : x.locals.length ≤ 1048576) :
    Calls Try.prog 63 #[mthV hx x, .int .i64 n] w fun e w' => e = .returned (tyV (localOf x n).1 (localOf x n).2) ∧ Below w.heap.size w w' := by
  obtain ⟨i0, hi, hz0, hz1, hz2⟩ := info_partsK info_type
  have HW := Lib.hid (((Below.refl w.heap.size w).alloc (Nat.le_refl _) (.cells (mthL hx x).toArray 54)).alloc (by simp) (.cells #[.int .i64 0, .int .i64 0] 49))
  have HQ := Lib.hid (show Whole ((w.alloc (.cells (mthL hx x).toArray 54)).alloc (.cells #[.int .i64 0, .int .i64 0] 49)) (w.heap.size + 1) [.int .i64 0, .int .i64 0] 49 from Whole.at_ (by simp) _ _)
  have HC := Lib.hid ((cells_new w (mthL hx x) 54).keep ((Below.refl _ _).alloc (Nat.le_refl _) (.cells #[.int .i64 0, .int .i64 0] 49)) (by simp))
  have HM := Lib.hid (H.now HW.out)
  obtain ⟨t, ht⟩ : ∃ t, localOf x n = t := ⟨_, rfl⟩
  rw [ht]
  have HR := Lib.hid ht
  clear H ht
  go_enter Try.func63, Try.ntmps63
  go_upto_region 1 with fail
  generalize (w.alloc (.cells (mthL hx x).toArray 54)).alloc (.cells #[.int .i64 0, .int .i64 0] 49) = w1 at *
  have q0 := HC.out 0 _ rfl
  have q1 := HC.out 1 _ rfl
  have hlt := HQ.out.lt
  have HC0 : Hid (∀ W, Below w1.heap.size w1 W → W.cell? ⟨w.heap.size, 0, none⟩ = some (.slice hx.A0 x.args.length hx.k0)) := Lib.hid (fun W hW => (hW.cell (p := ⟨w.heap.size, 0, none⟩) (by show w.heap.size < _; omega)).trans q0)
  have HC1 : Hid (∀ W, Below w1.heap.size w1 W → W.cell? ⟨w.heap.size, 1, none⟩ = some (.slice hx.A1 x.locals.length hx.k1)) := Lib.hid (fun W hW => (hW.cell (p := ⟨w.heap.size, 1, none⟩) (by show w.heap.size < _; omega)).trans q1)
  have HA := Lib.hid (tys_lie HM.out.args.row)
  have HL := Lib.hid (tys_lie HM.out.locals.row)
  clear HC
  go_wp2
  refine wp_region_noPanic ?_
  refine wp_region_held_drew (S := (fun w' => w'.cell? ⟨w.heap.size, 0, none⟩ = some (.slice hx.A0 x.args.length hx.k0) ∧ w'.cell? ⟨w.heap.size, 1, none⟩ = some (.slice hx.A1 x.locals.length hx.k1))) (by kernel_rfl) ⟨q0, q1⟩ (fun hHeld => ?_)
  refine wpAnyH_take (i := 1) (oi := _) (v := ?_) rfl (by kernel_rfl) (by kernel_rfl) (by kernel_rfl) (fun _ _ _ h => h) (Or.inl ⟨by rfl, ?_⟩) (by assumption) ?_
  rotate_left
  · (intro w hSw; (try dsimp only at hSw); go_simp <;> with_reducible rfl)
  try simp only [List.getElem_toArray, List.getElem_cons_succ, List.getElem_cons_zero, Act.put, List.setIfInBounds_toArray, List.set_cons_zero, List.set_cons_succ]
  refine wpAnyH_take (i := 2) (oi := _) (v := ?_) rfl (by kernel_rfl) (by kernel_rfl) (by kernel_rfl) (fun _ _ _ h => h) (Or.inl ⟨by rfl, ?_⟩) (by assumption) ?_
  rotate_left
  · (intro w hSw; (try dsimp only at hSw); go_simp <;> with_reducible rfl)
  try simp only [List.getElem_toArray, List.getElem_cons_succ, List.getElem_cons_zero, Act.put, List.setIfInBounds_toArray, List.set_cons_zero, List.set_cons_succ]
  refine wpAnyH_take (i := 4) (oi := _) (v := ?_) rfl (by kernel_rfl) (by kernel_rfl) (by kernel_rfl) (fun _ _ _ h => h) (Or.inl ⟨by rfl, ?_⟩) (by assumption) ?_
  rotate_left
  · (intro w hSw; (try dsimp only at hSw); go_simp <;> with_reducible rfl)
  try simp only [List.getElem_toArray, List.getElem_cons_succ, List.getElem_cons_zero, Act.put, List.setIfInBounds_toArray, List.set_cons_zero, List.set_cons_succ]
  refine wpAnyH_take (i := 5) (oi := _) (v := ?_) rfl (by kernel_rfl) (by kernel_rfl) (by kernel_rfl) (fun _ _ _ h => h) (Or.inl ⟨by rfl, ?_⟩) (by assumption) ?_
  rotate_left
  · (intro w hSw; (try dsimp only at hSw); go_simp <;> with_reducible rfl)
  try simp only [List.getElem_toArray, List.getElem_cons_succ, List.getElem_cons_zero, Act.put, List.setIfInBounds_toArray, List.set_cons_zero, List.set_cons_succ]
  refine wpAnyH_ready (rs := [0]) (by kernel_rfl) (by simp) ?_
  refine AllReadyH.cons (o := _) rfl (fun K hK => ?_) AllReadyH.nil
  go_simp
  have HB0 := Lib.hid ((Below.refl w1.heap.size w1).drew.alloc (Nat.le_refl _) (.cells #[] 49)); have HO0 := Lib.hid (own_emptyK w1.drew 49 2); have HA0 := Lib.hid ((HA.out.below_to HB0.out (Nat.le_refl _)) : Lies (w1.drew.alloc (.cells #[] 49)) w1.heap.size hx.A0 (tysV x.args))
  refine hK.out _ _ ⟨HC0.out _ HB0.out, HC1.out _ HB0.out⟩ (fun hHeld => ?_)
  clear hK K
  try simp only [List.getElem_toArray, List.getElem_cons_succ, List.getElem_cons_zero, Act.put, List.setIfInBounds_toArray, List.set_cons_zero, List.set_cons_succ]
  refine wpAnyH_ready (rs := [3]) (by kernel_rfl) (by simp) ?_
  refine AllReadyH.cons (o := _) rfl (fun K hK => ?_) AllReadyH.nil
  (refine step_appK rfl _ _ 23 rfl w1.heap.size 49 i0 (.agg #[.int .i64 0, .int .i64 0]) 2 16 Try.underlying23 hi hz0 hz1 hz2 rfl (by decide) _ 0 [] rfl HO0.out hx.A0 x.args.length hx.k0 _ (tysV x.args) (tysV_len _) rfl HA0.out (tysV_one _) (by unfold maxLen; omega) (by omega) HB0.out.size ?_; intro v2 w2 hown hgrow; have HB2 := Lib.hid (appK_more HB0.out HO0.out HB0.out.size hgrow); have HO2 := Lib.hid hown; have HL2 := Lib.hid ((HL.out.below_to HB2.out (Nat.le_refl _)) : Lies w2 w1.heap.size hx.A1 (tysV x.locals)); clear hown hgrow)
  refine hK.out _ _ ⟨HC0.out _ HB2.out, HC1.out _ HB2.out⟩ (fun hHeld => ?_)
  clear hK K
  try simp only [List.getElem_toArray, List.getElem_cons_succ, List.getElem_cons_zero, Act.put, List.setIfInBounds_toArray, List.set_cons_zero, List.set_cons_succ]
  refine wpAnyH_ready (rs := [6]) (by kernel_rfl) (by simp) ?_
  refine AllReadyH.cons (o := _) rfl (fun K hK => ?_) AllReadyH.nil
  (refine step_appK rfl _ _ 23 rfl w1.heap.size 49 i0 (.agg #[.int .i64 0, .int .i64 0]) 2 16 Try.underlying23 hi hz0 hz1 hz2 rfl (by decide) _ (0 + x.args.length) ([] ++ tysV x.args) rfl HO2.out hx.A1 x.locals.length hx.k1 _ (tysV x.locals) (tysV_len _) rfl HL2.out (tysV_one _) (by unfold maxLen; omega) (by omega) HB2.out.size ?_; intro v3 w3 hown hgrow; have HB3 := Lib.hid (appK_more HB2.out HO2.out HB2.out.size hgrow); have HO3 := Lib.hid hown; clear hown hgrow)
  refine hK.out _ _ ⟨HC0.out _ HB3.out, HC1.out _ HB3.out⟩ (fun hHeld => ?_)
  clear hK K
  try simp only [List.getElem_toArray, List.getElem_cons_succ, List.getElem_cons_zero, Act.put, List.setIfInBounds_toArray, List.set_cons_zero, List.set_cons_succ]
  refine wpAnyH_take (i := 7) (oi := _) (v := ?_) rfl (by kernel_rfl) (by kernel_rfl) (by kernel_rfl) (fun _ _ _ h => h) (Or.inl ⟨by rfl, ?_⟩) (by assumption) ?_
  rotate_left
  · (intro w hSw; (try dsimp only at hSw); go_simp <;> with_reducible rfl)
  try simp only [List.getElem_toArray, List.getElem_cons_succ, List.getElem_cons_zero, Act.put, List.setIfInBounds_toArray, List.set_cons_zero, List.set_cons_succ]
  refine wpAnyH_done (by kernel_rfl) ?_ _
  refine NoPanic.normal ?_
  have HQ3 := Lib.hid (HQ.out.keep HB3.out hlt)
  obtain ⟨L, hL⟩ : ∃ L, x.args ++ x.locals = L := ⟨_, rfl⟩
  have hLl : L.length ≤ 2097152 := by rw [← hL, List.length_append]; omega
  have HE := Lib.hid (show localOf x n = if 0 ≤ n then L[n.toNat]?.getD (0, 0) else (0, 0) by rw [← hL]; rfl)
  have hO : w3.ownsRow w1.heap.size 49 2 v3 L.length (tysV L) := by
    have := HO3.out
    rw [← hL, List.length_append]
    unfold tysV at this ⊢
    rw [List.flatMap_append]
    simpa using this
  obtain ⟨A3, c3, rfl, hS, _⟩ := own_types hO
  have HS := Lib.hid hS
  have hlt3 := HQ3.out.lt
  have c0 := HQ3.out.cells 0 _ rfl
  have c1 := HQ3.out.cells 1 _ rfl
  have f0 := HQ3.out.free 0
  have f1 := HQ3.out.free 1
  clear hL hS hO HO3 HO2 HL2 HA0 HO0 hHeld q0 q1
  have hW3 := HB3.out.size
  have hW1 := HW.out.size
  by_cases h0 : n < 0
  · obtain rfl : t = (0, 0) := by rw [← HR.out, HE.out, if_neg (by omega)]
    clear HE HR
    go_wp2_with fail
    first
      | exact bodyPost_ret (v := tyV 0 0) (by simp [results, Try.results63, go_sem, c0, c1]) rfl ⟨rfl, HW.out.trans (HB3.out.mono hW1)⟩
      | (have HQ4 := (HQ3.out.set 0 (.int .i64 0)).set 1 (.int .i64 0)
         have d0 := HQ4.cells 0 _ rfl
         have d1 := HQ4.cells 1 _ rfl
         exact bodyPost_ret (v := tyV 0 0) (by simp [results, Try.results63, go_sem, d0, d1]) rfl ⟨rfl, HW.out.trans (((HB3.out.mono hW1).setCell (p := ⟨w.heap.size + 1, 0, none⟩) (by show w.heap.size ≤ w.heap.size + 1; omega) (.int .i64 0)).setCell (p := ⟨w.heap.size + 1, 1, none⟩) (by show w.heap.size ≤ w.heap.size + 1; omega) (.int .i64 0))⟩)
  · have h0' : 0 ≤ n := by omega
    by_cases h1 : n < L.length
    · obtain ⟨j, rfl⟩ := Int.eq_ofNat_of_zero_le h0'
      have hj : j < L.length := by omega
      obtain ⟨ad, rfl, hab, r0, r1⟩ := HS.out.row.at_ hj
      have HE2 := Lib.hid (show localOf x (j : Int) = L[j] by rw [HE.out, if_pos (by omega), Int.toNat_natCast, List.getElem?_eq_getElem hj]; rfl)
      have e : L[j] = t := HE2.out.symm.trans HR.out
      rw [e] at r0 r1
      clear HE HE2 HR e
      go_wp2_with fail
      have HQ4 := (HQ3.out.set 0 (.int .i64 t.1)).set 1 (.int .i64 t.2)
      have d0 := HQ4.cells 0 _ rfl
      have d1 := HQ4.cells 1 _ rfl
      exact bodyPost_ret (v := tyV t.1 t.2) (by simp [results, Try.results63, go_sem, d0, d1]) rfl ⟨rfl, HW.out.trans (((HB3.out.mono hW1).setCell (p := ⟨w.heap.size + 1, 0, none⟩) (by show w.heap.size ≤ w.heap.size + 1; omega) (.int .i64 t.1)).setCell (p := ⟨w.heap.size + 1, 1, none⟩) (by show w.heap.size ≤ w.heap.size + 1; omega) (.int .i64 t.2))⟩
    · have h1' : (L.length : Int) ≤ n := by omega
      have HE2 := Lib.hid (show localOf x n = (0, 0) by rw [HE.out, if_pos h0', List.getElem?_eq_none (by omega)]; rfl)
      obtain rfl : t = (0, 0) := HR.out.symm.trans HE2.out
      clear HE HE2 HR
      go_wp2_with fail
      first
        | exact bodyPost_ret (v := tyV 0 0) (by simp [results, Try.results63, go_sem, c0, c1]) rfl ⟨rfl, HW.out.trans (HB3.out.mono hW1)⟩
        | (have HQ4 := (HQ3.out.set 0 (.int .i64 0)).set 1 (.int .i64 0)
           have d0 := HQ4.cells 0 _ rfl
           have d1 := HQ4.cells 1 _ rfl
           exact bodyPost_ret (v := tyV 0 0) (by simp [results, Try.results63, go_sem, d0, d1]) rfl ⟨rfl, HW.out.trans (((HB3.out.mono hW1).setCell (p := ⟨w.heap.size + 1, 0, none⟩) (by show w.heap.size ≤ w.heap.size + 1; omega) (.int .i64 0)).setCell (p := ⟨w.heap.size + 1, 1, none⟩) (by show w.heap.size ≤ w.heap.size + 1; omega) (.int .i64 0))⟩)
end Go.Proofs.Ytefgepppcmhphaa
namespace Go.Proofs.Ytefgepppcmhphaa
set_option maxRecDepth 100000
set_option linter.unusedVariables false
set_option linter.unusedSimpArgs false
open Go.ChangeShapes Go.WideShapes Go.ChangeAt Go.RowKit

/-- Two lists of types, wherever they lie. -/
def TwoTypes (L M : List (Int × Int)) (w : World) (e : Ending) (w' : World) : Prop :=
  ∃ A c A' c', e = .returned (.tuple #[.slice A L.length c, .slice A' M.length c']) ∧ SlcIs TyAt 2 w' w'.heap.size A c L ∧ SlcIs TyAt 2 w' w'.heap.size A' c' M ∧ Below w.heap.size w w'
/-- The boxes with which it begins: the image, the instruction, five types. -/
abbrev ruleW (h : Hnd) (m : Img) (op a b : Int) (w : World) : World :=
  ((((((w.alloc (imgO h m)).alloc (.cells #[.int .i64 op, .int .i64 a, .int .i64 b] 51)).alloc (.cells #[.int .i64 1, .int .i64 0] 49)).alloc (.cells #[.int .i64 2, .int .i64 0] 49)).alloc
    (.cells #[.int .i64 4, .int .i64 0] 49)).alloc (.cells #[.int .i64 0, .int .i64 0] 49)).alloc (.cells #[.int .i64 3, .int .i64 a] 49)
structure RuleBox (w1 : World) (N : Nat) (h : Hnd) (m : Img) (op a b : Int) : Prop where
  img : ImgBox w1 N h m
  ins : Cells w1 (N + 1) [.int .i64 op, .int .i64 a, .int .i64 b]
  t1 : Cells w1 (N + 1 + 1) [.int .i64 1, .int .i64 0]
  t2 : Cells w1 (N + 1 + 1 + 1) [.int .i64 2, .int .i64 0]
  t4 : Cells w1 (N + 1 + 1 + 1 + 1) [.int .i64 4, .int .i64 0]
  t0 : Cells w1 (N + 1 + 1 + 1 + 1 + 1) [.int .i64 0, .int .i64 0]
  t3 : Cells w1 (N + 1 + 1 + 1 + 1 + 1 + 1) [.int .i64 3, .int .i64 a]
  size : w1.heap.size = N + 1 + 1 + 1 + 1 + 1 + 1 + 1
theorem rule_parts (h : Hnd) (m : Img) (op a b : Int) (w : World) : Below w.heap.size w (ruleW h m op a b w) ∧ RuleBox (ruleW h m op a b w) w.heap.size h m op a b := by
  have z0 : (w.alloc (imgO h m)).heap.size = w.heap.size + 1 := by simp
  obtain ⟨c1, z1, b1⟩ := cells_step z0 [.int .i64 op, .int .i64 a, .int .i64 b] 51
  obtain ⟨c2, z2, b2⟩ := cells_step z1 [.int .i64 1, .int .i64 0] 49
  obtain ⟨c3, z3, b3⟩ := cells_step z2 [.int .i64 2, .int .i64 0] 49
  obtain ⟨c4, z4, b4⟩ := cells_step z3 [.int .i64 4, .int .i64 0] 49
  obtain ⟨c5, z5, b5⟩ := cells_step z4 [.int .i64 0, .int .i64 0] 49
  obtain ⟨c6, z6, b6⟩ := cells_step z5 [.int .i64 3, .int .i64 a] 49
  have b5' := b5.trans (b6.mono (by omega))
  have b4' := b4.trans (b5'.mono (by omega))
  have b3' := b3.trans (b4'.mono (by omega))
  have b2' := b2.trans (b3'.mono (by omega))
  have b1' := b1.trans (b2'.mono (by omega))
  exact ⟨((Below.refl w.heap.size w).alloc (Nat.le_refl _) (imgO h m)).trans (b1'.mono (by omega)),
    (img_box w h m).keep b1' (by omega), c1.keep b2' (by omega), c2.keep b3' (by omega), c3.keep b4' (by omega), c4.keep b5' (by omega), c5.keep b6 (by omega), c6, z6⟩
theorem new_t1 {w : World} {g : Nat} {x y : Int} (hg : g < w.heap.size) (h0 : w.cell? ⟨g, 0, none⟩ = some (.int .i64 x)) (h1 : w.cell? ⟨g, 1, none⟩ = some (.int .i64 y)) : SlcIs TyAt 2 w w.heap.size (some ⟨g, 0, none⟩) 1 [(x, y)] :=
  ⟨Nat.le_refl _, by show 1 ≤ 9223372036854775807; omega, row_one ⟨h0, h1⟩ hg⟩
theorem new_t2 {w : World} {g : Nat} {x y z u : Int} (hg : g < w.heap.size) (h0 : w.cell? ⟨g, 0, none⟩ = some (.int .i64 x)) (h1 : w.cell? ⟨g, 1, none⟩ = some (.int .i64 y)) (h2 : w.cell? ⟨g, 2, none⟩ = some (.int .i64 z)) (h3 : w.cell? ⟨g, 3, none⟩ = some (.int .i64 u)) : SlcIs TyAt 2 w w.heap.size (some ⟨g, 0, none⟩) 2 [(x, y), (z, u)] :=
  ⟨Nat.le_refl _, by show 2 ≤ 9223372036854775807; omega, fun i t hi => by
    match i, hi with
    | 0, hi => simp at hi; subst hi; exact ⟨_, rfl, hg, by simpa [Addr.add] using h0, by simpa [Addr.add] using h1⟩
    | 1, hi => simp at hi; subst hi; exact ⟨_, rfl, hg, by simpa [Addr.add] using h2, by simpa [Addr.add] using h3⟩
    | i + 2, hi => simp at hi⟩
theorem new_t3 {w : World} {g : Nat} {x y z u v s : Int} (hg : g < w.heap.size) (h0 : w.cell? ⟨g, 0, none⟩ = some (.int .i64 x)) (h1 : w.cell? ⟨g, 1, none⟩ = some (.int .i64 y)) (h2 : w.cell? ⟨g, 2, none⟩ = some (.int .i64 z)) (h3 : w.cell? ⟨g, 3, none⟩ = some (.int .i64 u)) (h4 : w.cell? ⟨g, 4, none⟩ = some (.int .i64 v)) (h5 : w.cell? ⟨g, 5, none⟩ = some (.int .i64 s)) : SlcIs TyAt 2 w w.heap.size (some ⟨g, 0, none⟩) 3 [(x, y), (z, u), (v, s)] :=
  ⟨Nat.le_refl _, by show 3 ≤ 9223372036854775807; omega, fun i t hi => by
    match i, hi with
    | 0, hi => simp at hi; subst hi; exact ⟨_, rfl, hg, by simpa [Addr.add] using h0, by simpa [Addr.add] using h1⟩
    | 1, hi => simp at hi; subst hi; exact ⟨_, rfl, hg, by simpa [Addr.add] using h2, by simpa [Addr.add] using h3⟩
    | 2, hi => simp at hi; subst hi; exact ⟨_, rfl, hg, by simpa [Addr.add] using h4, by simpa [Addr.add] using h5⟩
    | i + 3, hi => simp at hi⟩
end Go.Proofs.Ytefgepppcmhphaa
