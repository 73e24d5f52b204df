/-
  What the program's own calledAlike comes to.
-/
import Derived.Test.YtjgfoialajgfhaaSaneCount
namespace Go.Proofs.Ytjgfoialajgfhaa
set_option maxRecDepth 100000
set_option linter.unusedVariables false
set_option linter.unusedSimpArgs false
open Go.ChangeShapes Go.WideShapes Go.ChangeAt Go.RowKit
set_option linter.unusedVariables false
set_option linter.unusedSimpArgs false

theorem eqTypes_n_is {l m : List (Int × Int)} {A A' : Option Addr} {cap cap' n n' : Nat} {w0 w : World} {r : Bool} (HL : Hid (SlcIs TyAt 2 w0 w0.heap.size A cap l)) (HM : Hid (SlcIs TyAt 2 w0 w0.heap.size A' cap' m)) (HX : Hid (Below w0.heap.size w0 w)) (HN : Hid (l.length = n)) (HN' : Hid (m.length = n')) (HR : Hid (decide (l = m) = r)) :
    Calls Try.prog 61 #[.slice A n cap, .slice A' n' cap'] w fun e w' => e = .returned (.bool r) ∧ Below w.heap.size w w' := by
  obtain rfl := HN.out
  obtain rfl := HN'.out
  have h := eqTypes_any l m A A' cap cap' w0.heap.size w HX.out.size (HL.out.below_to TyAt.keeps HX.out (Nat.le_refl _)) (HM.out.below_to TyAt.keeps HX.out (Nat.le_refl _))
  rw [HR.out] at h
  exact h
/-- Does who calls one need not know which one of the two it is? -/
def alikeB (x y : Mth) : Bool := decide (x.args.drop 1 = y.args.drop 1) && decide (x.ret = y.ret)

set_option maxHeartbeats 3200000 in
theorem salike_any (x y : Mth) (hx hy : MHnd) (w : World) (H : MthIn w w.heap.size hx x) (H' : MthIn w w.heap.size hy y) (hfp : 0 < x.args.length) (hgp : 0 < y.args.length) :
    Calls Try.prog 50 #[mthV hx x, mthV hy y] w fun e w' => e = .returned (.bool (alikeB x y)) ∧ Below w.heap.size w w' := by
  obtain ⟨hq, hp, hb, hz⟩ := two_boxesU w (mthL hx x) (mthL hy y) 38 38
  have HFB := Lib.hid hq
  have HGB := Lib.hid hp
  have HW := Lib.hid hb
  have HSfa := Lib.hid (H.now hb).args
  have HSga := Lib.hid (H'.now hb).args
  have HFBZ : Hid (w.heap.size < ((w.alloc (.cells (mthL hx x).toArray 38)).alloc (.cells (mthL hy y).toArray 38)).heap.size) := Lib.hid (by omega)
  have HGBZ : Hid (w.heap.size + 1 < ((w.alloc (.cells (mthL hx x).toArray 38)).alloc (.cells (mthL hy y).toArray 38)).heap.size) := Lib.hid (by omega)
  have HZw : Hid (w.heap.size ≤ ((w.alloc (.cells (mthL hx x).toArray 38)).alloc (.cells (mthL hy y).toArray 38)).heap.size) := Lib.hid (by omega)
  have hj0 := H.args.le
  have hj0c := H.args.cap
  have hi0 := H'.args.le
  have hi0c := H'.args.cap
  clear hq hp hb hz H H'
  go_enter Try.func50, Try.ntmps50
  go_upto_region 1 with fail
  generalize (w.alloc (.cells (mthL hx x).toArray 38)).alloc (.cells (mthL hy y).toArray 38) = w1 at *
  obtain ⟨A0f, A1f, A4f, A7f, j0, j1, j4, j7⟩ := hx
  obtain ⟨A0g, A1g, A4g, A7g, i0, i1, i4, i7⟩ := hy
  obtain ⟨fa, fl, ⟨fr0, fr1⟩, fc, fd, fp, fh⟩ := x
  obtain ⟨ga, gl, ⟨gr0, gr1⟩, gc, gd, gp, gh⟩ := y
  dsimp only at *
  obtain ⟨adt, rfl, _, _⟩ := HSfa.out.row.at_ hfp
  obtain ⟨adg, rfl, _, _⟩ := HSga.out.row.at_ hgp
  have hb0 := HFB.out 0 _ rfl
  have hb2 := HFB.out 2 _ rfl
  have hb3 := HFB.out 3 _ rfl
  have hg0 := HGB.out 0 _ rfl
  have hg2 := HGB.out 2 _ rfl
  have hg3 := HGB.out 3 _ rfl
  have HXd : Hid (Below w1.heap.size w1 w1.drew) := Lib.hid (Below.refl _ _).drew
  have hf1 : (1 : Int) ≤ (fa.length : Int) := by omega
  have hf2 : 1 ≤ fa.length := hfp
  have hf3 : (fa.length : Int) ≤ (j0 : Int) := by omega
  have hg1' : (1 : Int) ≤ (ga.length : Int) := by omega
  have hg2' : 1 ≤ ga.length := hgp
  have hg3' : (ga.length : Int) ≤ (i0 : Int) := by omega
  obtain ⟨d5, hd5⟩ : ∃ d, decide (fa.drop 1 = ga.drop 1) = d := ⟨_, rfl⟩
  have D5 := Lib.hid hd5
  clear hd5
  by_cases hj1 : j0 = 1
  · subst hj1
    have HSfd := Lib.hid (slc_drop1 HSfa.out hfp)
    by_cases hi1 : i0 = 1
    · subst hi1
      have HSgd := Lib.hid (slc_drop1 HSga.out hgp)
      have HNf : Hid ((fa.drop 1).length = 0) := Lib.hid (by rw [List.length_drop]; omega)
      have HNg : Hid ((ga.drop 1).length = 0) := Lib.hid (by rw [List.length_drop]; omega)
      cases d5
      · have E2 := Lib.hid (show alikeB ⟨fa, fl, (fr0, fr1), fc, fd, fp, fh⟩ ⟨ga, gl, (gr0, gr1), gc, gd, gp, gh⟩ = false by unfold alikeB; dsimp only; rw [D5.out]; rfl)
        refine wp_region_noPanic ?_
        refine wp_region_held_drew (S := (fun w' => w'.cell? ⟨w.heap.size, 0, none⟩ = some (.slice (some adt) fa.length 1) ∧ w'.cell? ⟨w.heap.size, 2, none⟩ = some (.int .i64 fr0) ∧ w'.cell? ⟨w.heap.size, 3, none⟩ = some (.int .i64 fr1) ∧ w'.cell? ⟨w.heap.size + 1, 0, none⟩ = some (.slice (some adg) ga.length 1) ∧ w'.cell? ⟨w.heap.size + 1, 2, none⟩ = some (.int .i64 gr0) ∧ w'.cell? ⟨w.heap.size + 1, 3, none⟩ = some (.int .i64 gr1))) (by kernel_rfl) ⟨hb0, hb2, hb3, hg0, hg2, hg3⟩ (fun hHeld => ?_)
        refine wpAnyH_take (i := 0) (oi := _) (v := ?_) rfl (by kernel_rfl) (by kernel_rfl) (by kernel_rfl) (fun _ _ _ h => h) (Or.inl ⟨by rfl, ?_⟩) (by assumption) ?_
        rotate_left
        · (intro w hSw; (try dsimp only at hSw); go_simp <;> with_reducible rfl)
        try simp only [List.getElem_toArray, List.getElem_cons_succ, List.getElem_cons_zero, Act.put, List.setIfInBounds_toArray, List.set_cons_zero, List.set_cons_succ]
        refine wpAnyH_take (i := 1) (oi := _) (v := ?_) rfl (by kernel_rfl) (by kernel_rfl) (by kernel_rfl) (fun _ _ _ h => h) (Or.inl ⟨by rfl, ?_⟩) (by assumption) ?_
        rotate_left
        · (intro w hSw; (try dsimp only at hSw); go_simp <;> with_reducible rfl)
        try simp only [List.getElem_toArray, List.getElem_cons_succ, List.getElem_cons_zero, Act.put, List.setIfInBounds_toArray, List.set_cons_zero, List.set_cons_succ]
        refine wpAnyH_take (i := 2) (oi := _) (v := ?_) rfl (by kernel_rfl) (by kernel_rfl) (by kernel_rfl) (fun _ _ _ h => h) (Or.inl ⟨by rfl, ?_⟩) (by assumption) ?_
        rotate_left
        · (intro w hSw; (try dsimp only at hSw); go_simp <;> with_reducible rfl)
        try simp only [List.getElem_toArray, List.getElem_cons_succ, List.getElem_cons_zero, Act.put, List.setIfInBounds_toArray, List.set_cons_zero, List.set_cons_succ]
        refine wpAnyH_take (i := 3) (oi := _) (v := ?_) rfl (by kernel_rfl) (by kernel_rfl) (by kernel_rfl) (fun _ _ _ h => h) (Or.inl ⟨by rfl, ?_⟩) (by assumption) ?_
        rotate_left
        · (intro w hSw; (try dsimp only at hSw); go_simp <;> with_reducible rfl)
        try simp only [List.getElem_toArray, List.getElem_cons_succ, List.getElem_cons_zero, Act.put, List.setIfInBounds_toArray, List.set_cons_zero, List.set_cons_succ]
        refine wpAnyH_take (i := 4) (oi := _) (v := ?_) rfl (by kernel_rfl) (by kernel_rfl) (by kernel_rfl) (fun _ _ _ h => h) (Or.inl ⟨by rfl, ?_⟩) (by assumption) ?_
        rotate_left
        · (intro w hSw; (try dsimp only at hSw); go_simp <;> with_reducible rfl)
        try simp only [List.getElem_toArray, List.getElem_cons_succ, List.getElem_cons_zero, Act.put, List.setIfInBounds_toArray, List.set_cons_zero, List.set_cons_succ]
        refine wpAnyH_take (i := 5) (oi := _) (v := ?_) rfl (by kernel_rfl) (by kernel_rfl) (by kernel_rfl) (fun _ _ _ h => h) (Or.inl ⟨by rfl, ?_⟩) (by assumption) ?_
        rotate_left
        · (intro w hSw; (try dsimp only at hSw); go_simp <;> with_reducible rfl)
        try simp only [List.getElem_toArray, List.getElem_cons_succ, List.getElem_cons_zero, Act.put, List.setIfInBounds_toArray, List.set_cons_zero, List.set_cons_succ]
        refine wpAnyH_ready (rs := [6]) (by kernel_rfl) (by simp) ?_
        refine AllReadyH.cons (o := _) rfl (fun K hK => ?_) AllReadyH.nil
        go_simp
        (go_at_call 61; (with_reducible refine (eqTypes_n_is HSfd HSgd HXd HNf HNg D5).mono ?_); rintro e w5 ⟨rfl, hb⟩; have HX := Lib.hid (HXd.out.trans (hb.mono HXd.out.size)); have hb0 := (HFB.out.keep HX.out HFBZ.out) 0 _ rfl; have hb2 := (HFB.out.keep HX.out HFBZ.out) 2 _ rfl; have hb3 := (HFB.out.keep HX.out HFBZ.out) 3 _ rfl; have hg0 := (HGB.out.keep HX.out HGBZ.out) 0 _ rfl; have hg2 := (HGB.out.keep HX.out HGBZ.out) 2 _ rfl; have hg3 := (HGB.out.keep HX.out HGBZ.out) 3 _ rfl; clear hb)
        refine hK.out _ _ ⟨hb0, hb2, hb3, hg0, hg2, hg3⟩ (fun hHeld => ?_)
        clear hK K
        try simp only [List.getElem_toArray, List.getElem_cons_succ, List.getElem_cons_zero, Act.put, List.setIfInBounds_toArray, List.set_cons_zero, List.set_cons_succ]
        refine wpAnyH_take (i := 7) (oi := _) (v := ?_) rfl (by kernel_rfl) (by kernel_rfl) (by kernel_rfl) (fun _ _ _ h => h) (Or.inl ⟨by rfl, ?_⟩) (by assumption) ?_
        rotate_left
        · (intro w hSw; (try dsimp only at hSw); go_simp <;> with_reducible rfl)
        try simp only [List.getElem_toArray, List.getElem_cons_succ, List.getElem_cons_zero, Act.put, List.setIfInBounds_toArray, List.set_cons_zero, List.set_cons_succ]
        refine wpAnyH_take (i := 8) (oi := _) (v := undef) rfl (by kernel_rfl) (by kernel_rfl) (by kernel_rfl) (fun _ _ _ h => h) (Or.inr ⟨by rfl, rfl⟩) (by assumption) ?_
        try simp only [List.getElem_toArray, List.getElem_cons_succ, List.getElem_cons_zero, Act.put, List.setIfInBounds_toArray, List.set_cons_zero, List.set_cons_succ]
        refine wpAnyH_take (i := 9) (oi := _) (v := undef) rfl (by kernel_rfl) (by kernel_rfl) (by kernel_rfl) (fun _ _ _ h => h) (Or.inr ⟨by rfl, rfl⟩) (by assumption) ?_
        try simp only [List.getElem_toArray, List.getElem_cons_succ, List.getElem_cons_zero, Act.put, List.setIfInBounds_toArray, List.set_cons_zero, List.set_cons_succ]
        refine wpAnyH_take (i := 10) (oi := _) (v := undef) rfl (by kernel_rfl) (by kernel_rfl) (by kernel_rfl) (fun _ _ _ h => h) (Or.inr ⟨by rfl, rfl⟩) (by assumption) ?_
        try simp only [List.getElem_toArray, List.getElem_cons_succ, List.getElem_cons_zero, Act.put, List.setIfInBounds_toArray, List.set_cons_zero, List.set_cons_succ]
        refine wpAnyH_take (i := 11) (oi := _) (v := undef) rfl (by kernel_rfl) (by kernel_rfl) (by kernel_rfl) (fun _ _ _ h => h) (Or.inr ⟨by rfl, rfl⟩) (by assumption) ?_
        try simp only [List.getElem_toArray, List.getElem_cons_succ, List.getElem_cons_zero, Act.put, List.setIfInBounds_toArray, List.set_cons_zero, List.set_cons_succ]
        refine wpAnyH_take (i := 12) (oi := _) (v := undef) rfl (by kernel_rfl) (by kernel_rfl) (by kernel_rfl) (fun _ _ _ h => h) (Or.inr ⟨by rfl, rfl⟩) (by assumption) ?_
        try simp only [List.getElem_toArray, List.getElem_cons_succ, List.getElem_cons_zero, Act.put, List.setIfInBounds_toArray, List.set_cons_zero, List.set_cons_succ]
        refine wpAnyH_take (i := 13) (oi := _) (v := ?_) rfl (by kernel_rfl) (by kernel_rfl) (by kernel_rfl) (fun _ _ _ h => h) (Or.inl ⟨by rfl, ?_⟩) (by assumption) ?_
        rotate_left
        · (intro w hSw; (try dsimp only at hSw); go_simp <;> with_reducible rfl)
        try simp only [List.getElem_toArray, List.getElem_cons_succ, List.getElem_cons_zero, Act.put, List.setIfInBounds_toArray, List.set_cons_zero, List.set_cons_succ]
        refine wpAnyH_take (i := 14) (oi := _) (v := ?_) rfl (by kernel_rfl) (by kernel_rfl) (by kernel_rfl) (fun _ _ _ h => h) (Or.inl ⟨by rfl, ?_⟩) (by assumption) ?_
        rotate_left
        · (intro w hSw; (try dsimp only at hSw); go_simp <;> with_reducible rfl)
        try simp only [List.getElem_toArray, List.getElem_cons_succ, List.getElem_cons_zero, Act.put, List.setIfInBounds_toArray, List.set_cons_zero, List.set_cons_succ]
        refine wpAnyH_done (by kernel_rfl) ?_ _
        refine NoPanic.normal ?_
        go_wp2_with fail
        go_ret
        exact ⟨by rw [E2.out]; rfl, HW.out.trans (HX.out.mono HZw.out)⟩
      · by_cases hret : fr0 = gr0 ∧ fr1 = gr1
        · obtain ⟨rfl, rfl⟩ := hret
          have E2 := Lib.hid (show alikeB ⟨fa, fl, (fr0, fr1), fc, fd, fp, fh⟩ ⟨ga, gl, (fr0, fr1), gc, gd, gp, gh⟩ = true by unfold alikeB; dsimp only; rw [D5.out, decide_eq_true (rfl : (fr0, fr1) = (fr0, fr1))]; rfl)
          go_region_held3 (fun w' => w'.cell? ⟨w.heap.size, 0, none⟩ = some (.slice (some adt) fa.length 1) ∧ w'.cell? ⟨w.heap.size, 2, none⟩ = some (.int .i64 fr0) ∧ w'.cell? ⟨w.heap.size, 3, none⟩ = some (.int .i64 fr1) ∧ w'.cell? ⟨w.heap.size + 1, 0, none⟩ = some (.slice (some adg) ga.length 1) ∧ w'.cell? ⟨w.heap.size + 1, 2, none⟩ = some (.int .i64 fr0) ∧ w'.cell? ⟨w.heap.size + 1, 3, none⟩ = some (.int .i64 fr1)) (first | exact ⟨hb0, hb2, hb3, hg0, hg2, hg3⟩) (first | (go_at_call 61; (with_reducible refine (eqTypes_n_is HSfd HSgd HXd HNf HNg D5).mono ?_); rintro e w5 ⟨rfl, hb⟩; have HX := Lib.hid (HXd.out.trans (hb.mono HXd.out.size)); have hb0 := (HFB.out.keep HX.out HFBZ.out) 0 _ rfl; have hb2 := (HFB.out.keep HX.out HFBZ.out) 2 _ rfl; have hb3 := (HFB.out.keep HX.out HFBZ.out) 3 _ rfl; have hg0 := (HGB.out.keep HX.out HGBZ.out) 0 _ rfl; have hg2 := (HGB.out.keep HX.out HGBZ.out) 2 _ rfl; have hg3 := (HGB.out.keep HX.out HGBZ.out) 3 _ rfl; clear hb))
          go_wp2_with fail
          go_ret
          exact ⟨by rw [E2.out]; rfl, HW.out.trans (HX.out.mono HZw.out)⟩
        · have E2 := Lib.hid (show alikeB ⟨fa, fl, (fr0, fr1), fc, fd, fp, fh⟩ ⟨ga, gl, (gr0, gr1), gc, gd, gp, gh⟩ = false by unfold alikeB; dsimp only; rw [decide_eq_false (show ¬ (fr0, fr1) = (gr0, gr1) by simpa using hret)]; simp)
          have hxx : ¬ fr0 = gr0 ∨ (fr0 = gr0 ∧ ¬ fr1 = gr1) := by omega
          clear hret
          rcases hxx with hxx | ⟨rfl, hxx⟩
          · go_region_held3 (fun w' => w'.cell? ⟨w.heap.size, 0, none⟩ = some (.slice (some adt) fa.length 1) ∧ w'.cell? ⟨w.heap.size, 2, none⟩ = some (.int .i64 fr0) ∧ w'.cell? ⟨w.heap.size, 3, none⟩ = some (.int .i64 fr1) ∧ w'.cell? ⟨w.heap.size + 1, 0, none⟩ = some (.slice (some adg) ga.length 1) ∧ w'.cell? ⟨w.heap.size + 1, 2, none⟩ = some (.int .i64 gr0) ∧ w'.cell? ⟨w.heap.size + 1, 3, none⟩ = some (.int .i64 gr1)) (first | exact ⟨hb0, hb2, hb3, hg0, hg2, hg3⟩) (first | (go_at_call 61; (with_reducible refine (eqTypes_n_is HSfd HSgd HXd HNf HNg D5).mono ?_); rintro e w5 ⟨rfl, hb⟩; have HX := Lib.hid (HXd.out.trans (hb.mono HXd.out.size)); have hb0 := (HFB.out.keep HX.out HFBZ.out) 0 _ rfl; have hb2 := (HFB.out.keep HX.out HFBZ.out) 2 _ rfl; have hb3 := (HFB.out.keep HX.out HFBZ.out) 3 _ rfl; have hg0 := (HGB.out.keep HX.out HGBZ.out) 0 _ rfl; have hg2 := (HGB.out.keep HX.out HGBZ.out) 2 _ rfl; have hg3 := (HGB.out.keep HX.out HGBZ.out) 3 _ rfl; clear hb))
            go_wp2_with fail
            go_ret
            exact ⟨by rw [E2.out]; rfl, HW.out.trans (HX.out.mono HZw.out)⟩
          · go_region_held3 (fun w' => w'.cell? ⟨w.heap.size, 0, none⟩ = some (.slice (some adt) fa.length 1) ∧ w'.cell? ⟨w.heap.size, 2, none⟩ = some (.int .i64 fr0) ∧ w'.cell? ⟨w.heap.size, 3, none⟩ = some (.int .i64 fr1) ∧ w'.cell? ⟨w.heap.size + 1, 0, none⟩ = some (.slice (some adg) ga.length 1) ∧ w'.cell? ⟨w.heap.size + 1, 2, none⟩ = some (.int .i64 fr0) ∧ w'.cell? ⟨w.heap.size + 1, 3, none⟩ = some (.int .i64 gr1)) (first | exact ⟨hb0, hb2, hb3, hg0, hg2, hg3⟩) (first | (go_at_call 61; (with_reducible refine (eqTypes_n_is HSfd HSgd HXd HNf HNg D5).mono ?_); rintro e w5 ⟨rfl, hb⟩; have HX := Lib.hid (HXd.out.trans (hb.mono HXd.out.size)); have hb0 := (HFB.out.keep HX.out HFBZ.out) 0 _ rfl; have hb2 := (HFB.out.keep HX.out HFBZ.out) 2 _ rfl; have hb3 := (HFB.out.keep HX.out HFBZ.out) 3 _ rfl; have hg0 := (HGB.out.keep HX.out HGBZ.out) 0 _ rfl; have hg2 := (HGB.out.keep HX.out HGBZ.out) 2 _ rfl; have hg3 := (HGB.out.keep HX.out HGBZ.out) 3 _ rfl; clear hb))
            go_wp2_with fail
            go_ret
            exact ⟨by rw [E2.out]; rfl, HW.out.trans (HX.out.mono HZw.out)⟩
    · have HSgd := Lib.hid (slc_drop HSga.out hgp)
      have HNf : Hid ((fa.drop 1).length = 0) := Lib.hid (by rw [List.length_drop]; omega)
      have HNg : Hid ((ga.drop 1).length = ga.length - 1) := Lib.hid List.length_drop
      cases d5
      · have E2 := Lib.hid (show alikeB ⟨fa, fl, (fr0, fr1), fc, fd, fp, fh⟩ ⟨ga, gl, (gr0, gr1), gc, gd, gp, gh⟩ = false by unfold alikeB; dsimp only; rw [D5.out]; rfl)
        refine wp_region_noPanic ?_
        refine wp_region_held_drew (S := (fun w' => w'.cell? ⟨w.heap.size, 0, none⟩ = some (.slice (some adt) fa.length 1) ∧ w'.cell? ⟨w.heap.size, 2, none⟩ = some (.int .i64 fr0) ∧ w'.cell? ⟨w.heap.size, 3, none⟩ = some (.int .i64 fr1) ∧ w'.cell? ⟨w.heap.size + 1, 0, none⟩ = some (.slice (some adg) ga.length i0) ∧ w'.cell? ⟨w.heap.size + 1, 2, none⟩ = some (.int .i64 gr0) ∧ w'.cell? ⟨w.heap.size + 1, 3, none⟩ = some (.int .i64 gr1))) (by kernel_rfl) ⟨hb0, hb2, hb3, hg0, hg2, hg3⟩ (fun hHeld => ?_)
        refine wpAnyH_take (i := 0) (oi := _) (v := ?_) rfl (by kernel_rfl) (by kernel_rfl) (by kernel_rfl) (fun _ _ _ h => h) (Or.inl ⟨by rfl, ?_⟩) (by assumption) ?_
        rotate_left
        · (intro w hSw; (try dsimp only at hSw); go_simp <;> with_reducible rfl)
        try simp only [List.getElem_toArray, List.getElem_cons_succ, List.getElem_cons_zero, Act.put, List.setIfInBounds_toArray, List.set_cons_zero, List.set_cons_succ]
        refine wpAnyH_take (i := 1) (oi := _) (v := ?_) rfl (by kernel_rfl) (by kernel_rfl) (by kernel_rfl) (fun _ _ _ h => h) (Or.inl ⟨by rfl, ?_⟩) (by assumption) ?_
        rotate_left
        · (intro w hSw; (try dsimp only at hSw); go_simp <;> with_reducible rfl)
        try simp only [List.getElem_toArray, List.getElem_cons_succ, List.getElem_cons_zero, Act.put, List.setIfInBounds_toArray, List.set_cons_zero, List.set_cons_succ]
        refine wpAnyH_take (i := 2) (oi := _) (v := ?_) rfl (by kernel_rfl) (by kernel_rfl) (by kernel_rfl) (fun _ _ _ h => h) (Or.inl ⟨by rfl, ?_⟩) (by assumption) ?_
        rotate_left
        · (intro w hSw; (try dsimp only at hSw); go_simp <;> with_reducible rfl)
        try simp only [List.getElem_toArray, List.getElem_cons_succ, List.getElem_cons_zero, Act.put, List.setIfInBounds_toArray, List.set_cons_zero, List.set_cons_succ]
        refine wpAnyH_take (i := 3) (oi := _) (v := ?_) rfl (by kernel_rfl) (by kernel_rfl) (by kernel_rfl) (fun _ _ _ h => h) (Or.inl ⟨by rfl, ?_⟩) (by assumption) ?_
        rotate_left
        · (intro w hSw; (try dsimp only at hSw); go_simp <;> with_reducible rfl)
        try simp only [List.getElem_toArray, List.getElem_cons_succ, List.getElem_cons_zero, Act.put, List.setIfInBounds_toArray, List.set_cons_zero, List.set_cons_succ]
        refine wpAnyH_take (i := 4) (oi := _) (v := ?_) rfl (by kernel_rfl) (by kernel_rfl) (by kernel_rfl) (fun _ _ _ h => h) (Or.inl ⟨by rfl, ?_⟩) (by assumption) ?_
        rotate_left
        · (intro w hSw; (try dsimp only at hSw); go_simp <;> with_reducible rfl)
        try simp only [List.getElem_toArray, List.getElem_cons_succ, List.getElem_cons_zero, Act.put, List.setIfInBounds_toArray, List.set_cons_zero, List.set_cons_succ]
        refine wpAnyH_take (i := 5) (oi := _) (v := ?_) rfl (by kernel_rfl) (by kernel_rfl) (by kernel_rfl) (fun _ _ _ h => h) (Or.inl ⟨by rfl, ?_⟩) (by assumption) ?_
        rotate_left
        · (intro w hSw; (try dsimp only at hSw); go_simp <;> with_reducible rfl)
        try simp only [List.getElem_toArray, List.getElem_cons_succ, List.getElem_cons_zero, Act.put, List.setIfInBounds_toArray, List.set_cons_zero, List.set_cons_succ]
        refine wpAnyH_ready (rs := [6]) (by kernel_rfl) (by simp) ?_
        refine AllReadyH.cons (o := _) rfl (fun K hK => ?_) AllReadyH.nil
        go_simp
        (go_at_call 61; (with_reducible refine (eqTypes_n_is HSfd HSgd HXd HNf HNg D5).mono ?_); rintro e w5 ⟨rfl, hb⟩; have HX := Lib.hid (HXd.out.trans (hb.mono HXd.out.size)); have hb0 := (HFB.out.keep HX.out HFBZ.out) 0 _ rfl; have hb2 := (HFB.out.keep HX.out HFBZ.out) 2 _ rfl; have hb3 := (HFB.out.keep HX.out HFBZ.out) 3 _ rfl; have hg0 := (HGB.out.keep HX.out HGBZ.out) 0 _ rfl; have hg2 := (HGB.out.keep HX.out HGBZ.out) 2 _ rfl; have hg3 := (HGB.out.keep HX.out HGBZ.out) 3 _ rfl; clear hb)
        refine hK.out _ _ ⟨hb0, hb2, hb3, hg0, hg2, hg3⟩ (fun hHeld => ?_)
        clear hK K
        try simp only [List.getElem_toArray, List.getElem_cons_succ, List.getElem_cons_zero, Act.put, List.setIfInBounds_toArray, List.set_cons_zero, List.set_cons_succ]
        refine wpAnyH_take (i := 7) (oi := _) (v := ?_) rfl (by kernel_rfl) (by kernel_rfl) (by kernel_rfl) (fun _ _ _ h => h) (Or.inl ⟨by rfl, ?_⟩) (by assumption) ?_
        rotate_left
        · (intro w hSw; (try dsimp only at hSw); go_simp <;> with_reducible rfl)
        try simp only [List.getElem_toArray, List.getElem_cons_succ, List.getElem_cons_zero, Act.put, List.setIfInBounds_toArray, List.set_cons_zero, List.set_cons_succ]
        refine wpAnyH_take (i := 8) (oi := _) (v := undef) rfl (by kernel_rfl) (by kernel_rfl) (by kernel_rfl) (fun _ _ _ h => h) (Or.inr ⟨by rfl, rfl⟩) (by assumption) ?_
        try simp only [List.getElem_toArray, List.getElem_cons_succ, List.getElem_cons_zero, Act.put, List.setIfInBounds_toArray, List.set_cons_zero, List.set_cons_succ]
        refine wpAnyH_take (i := 9) (oi := _) (v := undef) rfl (by kernel_rfl) (by kernel_rfl) (by kernel_rfl) (fun _ _ _ h => h) (Or.inr ⟨by rfl, rfl⟩) (by assumption) ?_
        try simp only [List.getElem_toArray, List.getElem_cons_succ, List.getElem_cons_zero, Act.put, List.setIfInBounds_toArray, List.set_cons_zero, List.set_cons_succ]
        refine wpAnyH_take (i := 10) (oi := _) (v := undef) rfl (by kernel_rfl) (by kernel_rfl) (by kernel_rfl) (fun _ _ _ h => h) (Or.inr ⟨by rfl, rfl⟩) (by assumption) ?_
        try simp only [List.getElem_toArray, List.getElem_cons_succ, List.getElem_cons_zero, Act.put, List.setIfInBounds_toArray, List.set_cons_zero, List.set_cons_succ]
        refine wpAnyH_take (i := 11) (oi := _) (v := undef) rfl (by kernel_rfl) (by kernel_rfl) (by kernel_rfl) (fun _ _ _ h => h) (Or.inr ⟨by rfl, rfl⟩) (by assumption) ?_
        try simp only [List.getElem_toArray, List.getElem_cons_succ, List.getElem_cons_zero, Act.put, List.setIfInBounds_toArray, List.set_cons_zero, List.set_cons_succ]
        refine wpAnyH_take (i := 12) (oi := _) (v := undef) rfl (by kernel_rfl) (by kernel_rfl) (by kernel_rfl) (fun _ _ _ h => h) (Or.inr ⟨by rfl, rfl⟩) (by assumption) ?_
        try simp only [List.getElem_toArray, List.getElem_cons_succ, List.getElem_cons_zero, Act.put, List.setIfInBounds_toArray, List.set_cons_zero, List.set_cons_succ]
        refine wpAnyH_take (i := 13) (oi := _) (v := ?_) rfl (by kernel_rfl) (by kernel_rfl) (by kernel_rfl) (fun _ _ _ h => h) (Or.inl ⟨by rfl, ?_⟩) (by assumption) ?_
        rotate_left
        · (intro w hSw; (try dsimp only at hSw); go_simp <;> with_reducible rfl)
        try simp only [List.getElem_toArray, List.getElem_cons_succ, List.getElem_cons_zero, Act.put, List.setIfInBounds_toArray, List.set_cons_zero, List.set_cons_succ]
        refine wpAnyH_take (i := 14) (oi := _) (v := ?_) rfl (by kernel_rfl) (by kernel_rfl) (by kernel_rfl) (fun _ _ _ h => h) (Or.inl ⟨by rfl, ?_⟩) (by assumption) ?_
        rotate_left
        · (intro w hSw; (try dsimp only at hSw); go_simp <;> with_reducible rfl)
        try simp only [List.getElem_toArray, List.getElem_cons_succ, List.getElem_cons_zero, Act.put, List.setIfInBounds_toArray, List.set_cons_zero, List.set_cons_succ]
        refine wpAnyH_done (by kernel_rfl) ?_ _
        refine NoPanic.normal ?_
        go_wp2_with fail
        go_ret
        exact ⟨by rw [E2.out]; rfl, HW.out.trans (HX.out.mono HZw.out)⟩
      · by_cases hret : fr0 = gr0 ∧ fr1 = gr1
        · obtain ⟨rfl, rfl⟩ := hret
          have E2 := Lib.hid (show alikeB ⟨fa, fl, (fr0, fr1), fc, fd, fp, fh⟩ ⟨ga, gl, (fr0, fr1), gc, gd, gp, gh⟩ = true by unfold alikeB; dsimp only; rw [D5.out, decide_eq_true (rfl : (fr0, fr1) = (fr0, fr1))]; rfl)
          go_region_held3 (fun w' => w'.cell? ⟨w.heap.size, 0, none⟩ = some (.slice (some adt) fa.length 1) ∧ w'.cell? ⟨w.heap.size, 2, none⟩ = some (.int .i64 fr0) ∧ w'.cell? ⟨w.heap.size, 3, none⟩ = some (.int .i64 fr1) ∧ w'.cell? ⟨w.heap.size + 1, 0, none⟩ = some (.slice (some adg) ga.length i0) ∧ w'.cell? ⟨w.heap.size + 1, 2, none⟩ = some (.int .i64 fr0) ∧ w'.cell? ⟨w.heap.size + 1, 3, none⟩ = some (.int .i64 fr1)) (first | exact ⟨hb0, hb2, hb3, hg0, hg2, hg3⟩) (first | (go_at_call 61; (with_reducible refine (eqTypes_n_is HSfd HSgd HXd HNf HNg D5).mono ?_); rintro e w5 ⟨rfl, hb⟩; have HX := Lib.hid (HXd.out.trans (hb.mono HXd.out.size)); have hb0 := (HFB.out.keep HX.out HFBZ.out) 0 _ rfl; have hb2 := (HFB.out.keep HX.out HFBZ.out) 2 _ rfl; have hb3 := (HFB.out.keep HX.out HFBZ.out) 3 _ rfl; have hg0 := (HGB.out.keep HX.out HGBZ.out) 0 _ rfl; have hg2 := (HGB.out.keep HX.out HGBZ.out) 2 _ rfl; have hg3 := (HGB.out.keep HX.out HGBZ.out) 3 _ rfl; clear hb))
          go_wp2_with fail
          go_ret
          exact ⟨by rw [E2.out]; rfl, HW.out.trans (HX.out.mono HZw.out)⟩
        · have E2 := Lib.hid (show alikeB ⟨fa, fl, (fr0, fr1), fc, fd, fp, fh⟩ ⟨ga, gl, (gr0, gr1), gc, gd, gp, gh⟩ = false by unfold alikeB; dsimp only; rw [decide_eq_false (show ¬ (fr0, fr1) = (gr0, gr1) by simpa using hret)]; simp)
          have hxx : ¬ fr0 = gr0 ∨ (fr0 = gr0 ∧ ¬ fr1 = gr1) := by omega
          clear hret
          rcases hxx with hxx | ⟨rfl, hxx⟩
          · go_region_held3 (fun w' => w'.cell? ⟨w.heap.size, 0, none⟩ = some (.slice (some adt) fa.length 1) ∧ w'.cell? ⟨w.heap.size, 2, none⟩ = some (.int .i64 fr0) ∧ w'.cell? ⟨w.heap.size, 3, none⟩ = some (.int .i64 fr1) ∧ w'.cell? ⟨w.heap.size + 1, 0, none⟩ = some (.slice (some adg) ga.length i0) ∧ w'.cell? ⟨w.heap.size + 1, 2, none⟩ = some (.int .i64 gr0) ∧ w'.cell? ⟨w.heap.size + 1, 3, none⟩ = some (.int .i64 gr1)) (first | exact ⟨hb0, hb2, hb3, hg0, hg2, hg3⟩) (first | (go_at_call 61; (with_reducible refine (eqTypes_n_is HSfd HSgd HXd HNf HNg D5).mono ?_); rintro e w5 ⟨rfl, hb⟩; have HX := Lib.hid (HXd.out.trans (hb.mono HXd.out.size)); have hb0 := (HFB.out.keep HX.out HFBZ.out) 0 _ rfl; have hb2 := (HFB.out.keep HX.out HFBZ.out) 2 _ rfl; have hb3 := (HFB.out.keep HX.out HFBZ.out) 3 _ rfl; have hg0 := (HGB.out.keep HX.out HGBZ.out) 0 _ rfl; have hg2 := (HGB.out.keep HX.out HGBZ.out) 2 _ rfl; have hg3 := (HGB.out.keep HX.out HGBZ.out) 3 _ rfl; clear hb))
            go_wp2_with fail
            go_ret
            exact ⟨by rw [E2.out]; rfl, HW.out.trans (HX.out.mono HZw.out)⟩
          · go_region_held3 (fun w' => w'.cell? ⟨w.heap.size, 0, none⟩ = some (.slice (some adt) fa.length 1) ∧ w'.cell? ⟨w.heap.size, 2, none⟩ = some (.int .i64 fr0) ∧ w'.cell? ⟨w.heap.size, 3, none⟩ = some (.int .i64 fr1) ∧ w'.cell? ⟨w.heap.size + 1, 0, none⟩ = some (.slice (some adg) ga.length i0) ∧ w'.cell? ⟨w.heap.size + 1, 2, none⟩ = some (.int .i64 fr0) ∧ w'.cell? ⟨w.heap.size + 1, 3, none⟩ = some (.int .i64 gr1)) (first | exact ⟨hb0, hb2, hb3, hg0, hg2, hg3⟩) (first | (go_at_call 61; (with_reducible refine (eqTypes_n_is HSfd HSgd HXd HNf HNg D5).mono ?_); rintro e w5 ⟨rfl, hb⟩; have HX := Lib.hid (HXd.out.trans (hb.mono HXd.out.size)); have hb0 := (HFB.out.keep HX.out HFBZ.out) 0 _ rfl; have hb2 := (HFB.out.keep HX.out HFBZ.out) 2 _ rfl; have hb3 := (HFB.out.keep HX.out HFBZ.out) 3 _ rfl; have hg0 := (HGB.out.keep HX.out HGBZ.out) 0 _ rfl; have hg2 := (HGB.out.keep HX.out HGBZ.out) 2 _ rfl; have hg3 := (HGB.out.keep HX.out HGBZ.out) 3 _ rfl; clear hb))
            go_wp2_with fail
            go_ret
            exact ⟨by rw [E2.out]; rfl, HW.out.trans (HX.out.mono HZw.out)⟩
  · have HSfd := Lib.hid (slc_drop HSfa.out hfp)
    by_cases hi1 : i0 = 1
    · subst hi1
      have HSgd := Lib.hid (slc_drop1 HSga.out hgp)
      have HNf : Hid ((fa.drop 1).length = fa.length - 1) := Lib.hid List.length_drop
      have HNg : Hid ((ga.drop 1).length = 0) := Lib.hid (by rw [List.length_drop]; omega)
      cases d5
      · have E2 := Lib.hid (show alikeB ⟨fa, fl, (fr0, fr1), fc, fd, fp, fh⟩ ⟨ga, gl, (gr0, gr1), gc, gd, gp, gh⟩ = false by unfold alikeB; dsimp only; rw [D5.out]; rfl)
        refine wp_region_noPanic ?_
        refine wp_region_held_drew (S := (fun w' => w'.cell? ⟨w.heap.size, 0, none⟩ = some (.slice (some adt) fa.length j0) ∧ w'.cell? ⟨w.heap.size, 2, none⟩ = some (.int .i64 fr0) ∧ w'.cell? ⟨w.heap.size, 3, none⟩ = some (.int .i64 fr1) ∧ w'.cell? ⟨w.heap.size + 1, 0, none⟩ = some (.slice (some adg) ga.length 1) ∧ w'.cell? ⟨w.heap.size + 1, 2, none⟩ = some (.int .i64 gr0) ∧ w'.cell? ⟨w.heap.size + 1, 3, none⟩ = some (.int .i64 gr1))) (by kernel_rfl) ⟨hb0, hb2, hb3, hg0, hg2, hg3⟩ (fun hHeld => ?_)
        refine wpAnyH_take (i := 0) (oi := _) (v := ?_) rfl (by kernel_rfl) (by kernel_rfl) (by kernel_rfl) (fun _ _ _ h => h) (Or.inl ⟨by rfl, ?_⟩) (by assumption) ?_
        rotate_left
        · (intro w hSw; (try dsimp only at hSw); go_simp <;> with_reducible rfl)
        try simp only [List.getElem_toArray, List.getElem_cons_succ, List.getElem_cons_zero, Act.put, List.setIfInBounds_toArray, List.set_cons_zero, List.set_cons_succ]
        refine wpAnyH_take (i := 1) (oi := _) (v := ?_) rfl (by kernel_rfl) (by kernel_rfl) (by kernel_rfl) (fun _ _ _ h => h) (Or.inl ⟨by rfl, ?_⟩) (by assumption) ?_
        rotate_left
        · (intro w hSw; (try dsimp only at hSw); go_simp <;> with_reducible rfl)
        try simp only [List.getElem_toArray, List.getElem_cons_succ, List.getElem_cons_zero, Act.put, List.setIfInBounds_toArray, List.set_cons_zero, List.set_cons_succ]
        refine wpAnyH_take (i := 2) (oi := _) (v := ?_) rfl (by kernel_rfl) (by kernel_rfl) (by kernel_rfl) (fun _ _ _ h => h) (Or.inl ⟨by rfl, ?_⟩) (by assumption) ?_
        rotate_left
        · (intro w hSw; (try dsimp only at hSw); go_simp <;> with_reducible rfl)
        try simp only [List.getElem_toArray, List.getElem_cons_succ, List.getElem_cons_zero, Act.put, List.setIfInBounds_toArray, List.set_cons_zero, List.set_cons_succ]
        refine wpAnyH_take (i := 3) (oi := _) (v := ?_) rfl (by kernel_rfl) (by kernel_rfl) (by kernel_rfl) (fun _ _ _ h => h) (Or.inl ⟨by rfl, ?_⟩) (by assumption) ?_
        rotate_left
        · (intro w hSw; (try dsimp only at hSw); go_simp <;> with_reducible rfl)
        try simp only [List.getElem_toArray, List.getElem_cons_succ, List.getElem_cons_zero, Act.put, List.setIfInBounds_toArray, List.set_cons_zero, List.set_cons_succ]
        refine wpAnyH_take (i := 4) (oi := _) (v := ?_) rfl (by kernel_rfl) (by kernel_rfl) (by kernel_rfl) (fun _ _ _ h => h) (Or.inl ⟨by rfl, ?_⟩) (by assumption) ?_
        rotate_left
        · (intro w hSw; (try dsimp only at hSw); go_simp <;> with_reducible rfl)
        try simp only [List.getElem_toArray, List.getElem_cons_succ, List.getElem_cons_zero, Act.put, List.setIfInBounds_toArray, List.set_cons_zero, List.set_cons_succ]
        refine wpAnyH_take (i := 5) (oi := _) (v := ?_) rfl (by kernel_rfl) (by kernel_rfl) (by kernel_rfl) (fun _ _ _ h => h) (Or.inl ⟨by rfl, ?_⟩) (by assumption) ?_
        rotate_left
        · (intro w hSw; (try dsimp only at hSw); go_simp <;> with_reducible rfl)
        try simp only [List.getElem_toArray, List.getElem_cons_succ, List.getElem_cons_zero, Act.put, List.setIfInBounds_toArray, List.set_cons_zero, List.set_cons_succ]
        refine wpAnyH_ready (rs := [6]) (by kernel_rfl) (by simp) ?_
        refine AllReadyH.cons (o := _) rfl (fun K hK => ?_) AllReadyH.nil
        go_simp
        (go_at_call 61; (with_reducible refine (eqTypes_n_is HSfd HSgd HXd HNf HNg D5).mono ?_); rintro e w5 ⟨rfl, hb⟩; have HX := Lib.hid (HXd.out.trans (hb.mono HXd.out.size)); have hb0 := (HFB.out.keep HX.out HFBZ.out) 0 _ rfl; have hb2 := (HFB.out.keep HX.out HFBZ.out) 2 _ rfl; have hb3 := (HFB.out.keep HX.out HFBZ.out) 3 _ rfl; have hg0 := (HGB.out.keep HX.out HGBZ.out) 0 _ rfl; have hg2 := (HGB.out.keep HX.out HGBZ.out) 2 _ rfl; have hg3 := (HGB.out.keep HX.out HGBZ.out) 3 _ rfl; clear hb)
        refine hK.out _ _ ⟨hb0, hb2, hb3, hg0, hg2, hg3⟩ (fun hHeld => ?_)
        clear hK K
        try simp only [List.getElem_toArray, List.getElem_cons_succ, List.getElem_cons_zero, Act.put, List.setIfInBounds_toArray, List.set_cons_zero, List.set_cons_succ]
        refine wpAnyH_take (i := 7) (oi := _) (v := ?_) rfl (by kernel_rfl) (by kernel_rfl) (by kernel_rfl) (fun _ _ _ h => h) (Or.inl ⟨by rfl, ?_⟩) (by assumption) ?_
        rotate_left
        · (intro w hSw; (try dsimp only at hSw); go_simp <;> with_reducible rfl)
        try simp only [List.getElem_toArray, List.getElem_cons_succ, List.getElem_cons_zero, Act.put, List.setIfInBounds_toArray, List.set_cons_zero, List.set_cons_succ]
        refine wpAnyH_take (i := 8) (oi := _) (v := undef) rfl (by kernel_rfl) (by kernel_rfl) (by kernel_rfl) (fun _ _ _ h => h) (Or.inr ⟨by rfl, rfl⟩) (by assumption) ?_
        try simp only [List.getElem_toArray, List.getElem_cons_succ, List.getElem_cons_zero, Act.put, List.setIfInBounds_toArray, List.set_cons_zero, List.set_cons_succ]
        refine wpAnyH_take (i := 9) (oi := _) (v := undef) rfl (by kernel_rfl) (by kernel_rfl) (by kernel_rfl) (fun _ _ _ h => h) (Or.inr ⟨by rfl, rfl⟩) (by assumption) ?_
        try simp only [List.getElem_toArray, List.getElem_cons_succ, List.getElem_cons_zero, Act.put, List.setIfInBounds_toArray, List.set_cons_zero, List.set_cons_succ]
        refine wpAnyH_take (i := 10) (oi := _) (v := undef) rfl (by kernel_rfl) (by kernel_rfl) (by kernel_rfl) (fun _ _ _ h => h) (Or.inr ⟨by rfl, rfl⟩) (by assumption) ?_
        try simp only [List.getElem_toArray, List.getElem_cons_succ, List.getElem_cons_zero, Act.put, List.setIfInBounds_toArray, List.set_cons_zero, List.set_cons_succ]
        refine wpAnyH_take (i := 11) (oi := _) (v := undef) rfl (by kernel_rfl) (by kernel_rfl) (by kernel_rfl) (fun _ _ _ h => h) (Or.inr ⟨by rfl, rfl⟩) (by assumption) ?_
        try simp only [List.getElem_toArray, List.getElem_cons_succ, List.getElem_cons_zero, Act.put, List.setIfInBounds_toArray, List.set_cons_zero, List.set_cons_succ]
        refine wpAnyH_take (i := 12) (oi := _) (v := undef) rfl (by kernel_rfl) (by kernel_rfl) (by kernel_rfl) (fun _ _ _ h => h) (Or.inr ⟨by rfl, rfl⟩) (by assumption) ?_
        try simp only [List.getElem_toArray, List.getElem_cons_succ, List.getElem_cons_zero, Act.put, List.setIfInBounds_toArray, List.set_cons_zero, List.set_cons_succ]
        refine wpAnyH_take (i := 13) (oi := _) (v := ?_) rfl (by kernel_rfl) (by kernel_rfl) (by kernel_rfl) (fun _ _ _ h => h) (Or.inl ⟨by rfl, ?_⟩) (by assumption) ?_
        rotate_left
        · (intro w hSw; (try dsimp only at hSw); go_simp <;> with_reducible rfl)
        try simp only [List.getElem_toArray, List.getElem_cons_succ, List.getElem_cons_zero, Act.put, List.setIfInBounds_toArray, List.set_cons_zero, List.set_cons_succ]
        refine wpAnyH_take (i := 14) (oi := _) (v := ?_) rfl (by kernel_rfl) (by kernel_rfl) (by kernel_rfl) (fun _ _ _ h => h) (Or.inl ⟨by rfl, ?_⟩) (by assumption) ?_
        rotate_left
        · (intro w hSw; (try dsimp only at hSw); go_simp <;> with_reducible rfl)
        try simp only [List.getElem_toArray, List.getElem_cons_succ, List.getElem_cons_zero, Act.put, List.setIfInBounds_toArray, List.set_cons_zero, List.set_cons_succ]
        refine wpAnyH_done (by kernel_rfl) ?_ _
        refine NoPanic.normal ?_
        go_wp2_with fail
        go_ret
        exact ⟨by rw [E2.out]; rfl, HW.out.trans (HX.out.mono HZw.out)⟩
      · by_cases hret : fr0 = gr0 ∧ fr1 = gr1
        · obtain ⟨rfl, rfl⟩ := hret
          have E2 := Lib.hid (show alikeB ⟨fa, fl, (fr0, fr1), fc, fd, fp, fh⟩ ⟨ga, gl, (fr0, fr1), gc, gd, gp, gh⟩ = true by unfold alikeB; dsimp only; rw [D5.out, decide_eq_true (rfl : (fr0, fr1) = (fr0, fr1))]; rfl)
          go_region_held3 (fun w' => w'.cell? ⟨w.heap.size, 0, none⟩ = some (.slice (some adt) fa.length j0) ∧ w'.cell? ⟨w.heap.size, 2, none⟩ = some (.int .i64 fr0) ∧ w'.cell? ⟨w.heap.size, 3, none⟩ = some (.int .i64 fr1) ∧ w'.cell? ⟨w.heap.size + 1, 0, none⟩ = some (.slice (some adg) ga.length 1) ∧ w'.cell? ⟨w.heap.size + 1, 2, none⟩ = some (.int .i64 fr0) ∧ w'.cell? ⟨w.heap.size + 1, 3, none⟩ = some (.int .i64 fr1)) (first | exact ⟨hb0, hb2, hb3, hg0, hg2, hg3⟩) (first | (go_at_call 61; (with_reducible refine (eqTypes_n_is HSfd HSgd HXd HNf HNg D5).mono ?_); rintro e w5 ⟨rfl, hb⟩; have HX := Lib.hid (HXd.out.trans (hb.mono HXd.out.size)); have hb0 := (HFB.out.keep HX.out HFBZ.out) 0 _ rfl; have hb2 := (HFB.out.keep HX.out HFBZ.out) 2 _ rfl; have hb3 := (HFB.out.keep HX.out HFBZ.out) 3 _ rfl; have hg0 := (HGB.out.keep HX.out HGBZ.out) 0 _ rfl; have hg2 := (HGB.out.keep HX.out HGBZ.out) 2 _ rfl; have hg3 := (HGB.out.keep HX.out HGBZ.out) 3 _ rfl; clear hb))
          go_wp2_with fail
          go_ret
          exact ⟨by rw [E2.out]; rfl, HW.out.trans (HX.out.mono HZw.out)⟩
        · have E2 := Lib.hid (show alikeB ⟨fa, fl, (fr0, fr1), fc, fd, fp, fh⟩ ⟨ga, gl, (gr0, gr1), gc, gd, gp, gh⟩ = false by unfold alikeB; dsimp only; rw [decide_eq_false (show ¬ (fr0, fr1) = (gr0, gr1) by simpa using hret)]; simp)
          have hxx : ¬ fr0 = gr0 ∨ (fr0 = gr0 ∧ ¬ fr1 = gr1) := by omega
          clear hret
          rcases hxx with hxx | ⟨rfl, hxx⟩
          · go_region_held3 (fun w' => w'.cell? ⟨w.heap.size, 0, none⟩ = some (.slice (some adt) fa.length j0) ∧ w'.cell? ⟨w.heap.size, 2, none⟩ = some (.int .i64 fr0) ∧ w'.cell? ⟨w.heap.size, 3, none⟩ = some (.int .i64 fr1) ∧ w'.cell? ⟨w.heap.size + 1, 0, none⟩ = some (.slice (some adg) ga.length 1) ∧ w'.cell? ⟨w.heap.size + 1, 2, none⟩ = some (.int .i64 gr0) ∧ w'.cell? ⟨w.heap.size + 1, 3, none⟩ = some (.int .i64 gr1)) (first | exact ⟨hb0, hb2, hb3, hg0, hg2, hg3⟩) (first | (go_at_call 61; (with_reducible refine (eqTypes_n_is HSfd HSgd HXd HNf HNg D5).mono ?_); rintro e w5 ⟨rfl, hb⟩; have HX := Lib.hid (HXd.out.trans (hb.mono HXd.out.size)); have hb0 := (HFB.out.keep HX.out HFBZ.out) 0 _ rfl; have hb2 := (HFB.out.keep HX.out HFBZ.out) 2 _ rfl; have hb3 := (HFB.out.keep HX.out HFBZ.out) 3 _ rfl; have hg0 := (HGB.out.keep HX.out HGBZ.out) 0 _ rfl; have hg2 := (HGB.out.keep HX.out HGBZ.out) 2 _ rfl; have hg3 := (HGB.out.keep HX.out HGBZ.out) 3 _ rfl; clear hb))
            go_wp2_with fail
            go_ret
            exact ⟨by rw [E2.out]; rfl, HW.out.trans (HX.out.mono HZw.out)⟩
          · go_region_held3 (fun w' => w'.cell? ⟨w.heap.size, 0, none⟩ = some (.slice (some adt) fa.length j0) ∧ w'.cell? ⟨w.heap.size, 2, none⟩ = some (.int .i64 fr0) ∧ w'.cell? ⟨w.heap.size, 3, none⟩ = some (.int .i64 fr1) ∧ w'.cell? ⟨w.heap.size + 1, 0, none⟩ = some (.slice (some adg) ga.length 1) ∧ w'.cell? ⟨w.heap.size + 1, 2, none⟩ = some (.int .i64 fr0) ∧ w'.cell? ⟨w.heap.size + 1, 3, none⟩ = some (.int .i64 gr1)) (first | exact ⟨hb0, hb2, hb3, hg0, hg2, hg3⟩) (first | (go_at_call 61; (with_reducible refine (eqTypes_n_is HSfd HSgd HXd HNf HNg D5).mono ?_); rintro e w5 ⟨rfl, hb⟩; have HX := Lib.hid (HXd.out.trans (hb.mono HXd.out.size)); have hb0 := (HFB.out.keep HX.out HFBZ.out) 0 _ rfl; have hb2 := (HFB.out.keep HX.out HFBZ.out) 2 _ rfl; have hb3 := (HFB.out.keep HX.out HFBZ.out) 3 _ rfl; have hg0 := (HGB.out.keep HX.out HGBZ.out) 0 _ rfl; have hg2 := (HGB.out.keep HX.out HGBZ.out) 2 _ rfl; have hg3 := (HGB.out.keep HX.out HGBZ.out) 3 _ rfl; clear hb))
            go_wp2_with fail
            go_ret
            exact ⟨by rw [E2.out]; rfl, HW.out.trans (HX.out.mono HZw.out)⟩
    · have HSgd := Lib.hid (slc_drop HSga.out hgp)
      have HNf : Hid ((fa.drop 1).length = fa.length - 1) := Lib.hid List.length_drop
      have HNg : Hid ((ga.drop 1).length = ga.length - 1) := Lib.hid List.length_drop
      cases d5
      · have E2 := Lib.hid (show alikeB ⟨fa, fl, (fr0, fr1), fc, fd, fp, fh⟩ ⟨ga, gl, (gr0, gr1), gc, gd, gp, gh⟩ = false by unfold alikeB; dsimp only; rw [D5.out]; rfl)
        refine wp_region_noPanic ?_
        refine wp_region_held_drew (S := (fun w' => w'.cell? ⟨w.heap.size, 0, none⟩ = some (.slice (some adt) fa.length j0) ∧ w'.cell? ⟨w.heap.size, 2, none⟩ = some (.int .i64 fr0) ∧ w'.cell? ⟨w.heap.size, 3, none⟩ = some (.int .i64 fr1) ∧ w'.cell? ⟨w.heap.size + 1, 0, none⟩ = some (.slice (some adg) ga.length i0) ∧ w'.cell? ⟨w.heap.size + 1, 2, none⟩ = some (.int .i64 gr0) ∧ w'.cell? ⟨w.heap.size + 1, 3, none⟩ = some (.int .i64 gr1))) (by kernel_rfl) ⟨hb0, hb2, hb3, hg0, hg2, hg3⟩ (fun hHeld => ?_)
        refine wpAnyH_take (i := 0) (oi := _) (v := ?_) rfl (by kernel_rfl) (by kernel_rfl) (by kernel_rfl) (fun _ _ _ h => h) (Or.inl ⟨by rfl, ?_⟩) (by assumption) ?_
        rotate_left
        · (intro w hSw; (try dsimp only at hSw); go_simp <;> with_reducible rfl)
        try simp only [List.getElem_toArray, List.getElem_cons_succ, List.getElem_cons_zero, Act.put, List.setIfInBounds_toArray, List.set_cons_zero, List.set_cons_succ]
        refine wpAnyH_take (i := 1) (oi := _) (v := ?_) rfl (by kernel_rfl) (by kernel_rfl) (by kernel_rfl) (fun _ _ _ h => h) (Or.inl ⟨by rfl, ?_⟩) (by assumption) ?_
        rotate_left
        · (intro w hSw; (try dsimp only at hSw); go_simp <;> with_reducible rfl)
        try simp only [List.getElem_toArray, List.getElem_cons_succ, List.getElem_cons_zero, Act.put, List.setIfInBounds_toArray, List.set_cons_zero, List.set_cons_succ]
        refine wpAnyH_take (i := 2) (oi := _) (v := ?_) rfl (by kernel_rfl) (by kernel_rfl) (by kernel_rfl) (fun _ _ _ h => h) (Or.inl ⟨by rfl, ?_⟩) (by assumption) ?_
        rotate_left
        · (intro w hSw; (try dsimp only at hSw); go_simp <;> with_reducible rfl)
        try simp only [List.getElem_toArray, List.getElem_cons_succ, List.getElem_cons_zero, Act.put, List.setIfInBounds_toArray, List.set_cons_zero, List.set_cons_succ]
        refine wpAnyH_take (i := 3) (oi := _) (v := ?_) rfl (by kernel_rfl) (by kernel_rfl) (by kernel_rfl) (fun _ _ _ h => h) (Or.inl ⟨by rfl, ?_⟩) (by assumption) ?_
        rotate_left
        · (intro w hSw; (try dsimp only at hSw); go_simp <;> with_reducible rfl)
        try simp only [List.getElem_toArray, List.getElem_cons_succ, List.getElem_cons_zero, Act.put, List.setIfInBounds_toArray, List.set_cons_zero, List.set_cons_succ]
        refine wpAnyH_take (i := 4) (oi := _) (v := ?_) rfl (by kernel_rfl) (by kernel_rfl) (by kernel_rfl) (fun _ _ _ h => h) (Or.inl ⟨by rfl, ?_⟩) (by assumption) ?_
        rotate_left
        · (intro w hSw; (try dsimp only at hSw); go_simp <;> with_reducible rfl)
        try simp only [List.getElem_toArray, List.getElem_cons_succ, List.getElem_cons_zero, Act.put, List.setIfInBounds_toArray, List.set_cons_zero, List.set_cons_succ]
        refine wpAnyH_take (i := 5) (oi := _) (v := ?_) rfl (by kernel_rfl) (by kernel_rfl) (by kernel_rfl) (fun _ _ _ h => h) (Or.inl ⟨by rfl, ?_⟩) (by assumption) ?_
        rotate_left
        · (intro w hSw; (try dsimp only at hSw); go_simp <;> with_reducible rfl)
        try simp only [List.getElem_toArray, List.getElem_cons_succ, List.getElem_cons_zero, Act.put, List.setIfInBounds_toArray, List.set_cons_zero, List.set_cons_succ]
        refine wpAnyH_ready (rs := [6]) (by kernel_rfl) (by simp) ?_
        refine AllReadyH.cons (o := _) rfl (fun K hK => ?_) AllReadyH.nil
        go_simp
        (go_at_call 61; (with_reducible refine (eqTypes_n_is HSfd HSgd HXd HNf HNg D5).mono ?_); rintro e w5 ⟨rfl, hb⟩; have HX := Lib.hid (HXd.out.trans (hb.mono HXd.out.size)); have hb0 := (HFB.out.keep HX.out HFBZ.out) 0 _ rfl; have hb2 := (HFB.out.keep HX.out HFBZ.out) 2 _ rfl; have hb3 := (HFB.out.keep HX.out HFBZ.out) 3 _ rfl; have hg0 := (HGB.out.keep HX.out HGBZ.out) 0 _ rfl; have hg2 := (HGB.out.keep HX.out HGBZ.out) 2 _ rfl; have hg3 := (HGB.out.keep HX.out HGBZ.out) 3 _ rfl; clear hb)
        refine hK.out _ _ ⟨hb0, hb2, hb3, hg0, hg2, hg3⟩ (fun hHeld => ?_)
        clear hK K
        try simp only [List.getElem_toArray, List.getElem_cons_succ, List.getElem_cons_zero, Act.put, List.setIfInBounds_toArray, List.set_cons_zero, List.set_cons_succ]
        refine wpAnyH_take (i := 7) (oi := _) (v := ?_) rfl (by kernel_rfl) (by kernel_rfl) (by kernel_rfl) (fun _ _ _ h => h) (Or.inl ⟨by rfl, ?_⟩) (by assumption) ?_
        rotate_left
        · (intro w hSw; (try dsimp only at hSw); go_simp <;> with_reducible rfl)
        try simp only [List.getElem_toArray, List.getElem_cons_succ, List.getElem_cons_zero, Act.put, List.setIfInBounds_toArray, List.set_cons_zero, List.set_cons_succ]
        refine wpAnyH_take (i := 8) (oi := _) (v := undef) rfl (by kernel_rfl) (by kernel_rfl) (by kernel_rfl) (fun _ _ _ h => h) (Or.inr ⟨by rfl, rfl⟩) (by assumption) ?_
        try simp only [List.getElem_toArray, List.getElem_cons_succ, List.getElem_cons_zero, Act.put, List.setIfInBounds_toArray, List.set_cons_zero, List.set_cons_succ]
        refine wpAnyH_take (i := 9) (oi := _) (v := undef) rfl (by kernel_rfl) (by kernel_rfl) (by kernel_rfl) (fun _ _ _ h => h) (Or.inr ⟨by rfl, rfl⟩) (by assumption) ?_
        try simp only [List.getElem_toArray, List.getElem_cons_succ, List.getElem_cons_zero, Act.put, List.setIfInBounds_toArray, List.set_cons_zero, List.set_cons_succ]
        refine wpAnyH_take (i := 10) (oi := _) (v := undef) rfl (by kernel_rfl) (by kernel_rfl) (by kernel_rfl) (fun _ _ _ h => h) (Or.inr ⟨by rfl, rfl⟩) (by assumption) ?_
        try simp only [List.getElem_toArray, List.getElem_cons_succ, List.getElem_cons_zero, Act.put, List.setIfInBounds_toArray, List.set_cons_zero, List.set_cons_succ]
        refine wpAnyH_take (i := 11) (oi := _) (v := undef) rfl (by kernel_rfl) (by kernel_rfl) (by kernel_rfl) (fun _ _ _ h => h) (Or.inr ⟨by rfl, rfl⟩) (by assumption) ?_
        try simp only [List.getElem_toArray, List.getElem_cons_succ, List.getElem_cons_zero, Act.put, List.setIfInBounds_toArray, List.set_cons_zero, List.set_cons_succ]
        refine wpAnyH_take (i := 12) (oi := _) (v := undef) rfl (by kernel_rfl) (by kernel_rfl) (by kernel_rfl) (fun _ _ _ h => h) (Or.inr ⟨by rfl, rfl⟩) (by assumption) ?_
        try simp only [List.getElem_toArray, List.getElem_cons_succ, List.getElem_cons_zero, Act.put, List.setIfInBounds_toArray, List.set_cons_zero, List.set_cons_succ]
        refine wpAnyH_take (i := 13) (oi := _) (v := ?_) rfl (by kernel_rfl) (by kernel_rfl) (by kernel_rfl) (fun _ _ _ h => h) (Or.inl ⟨by rfl, ?_⟩) (by assumption) ?_
        rotate_left
        · (intro w hSw; (try dsimp only at hSw); go_simp <;> with_reducible rfl)
        try simp only [List.getElem_toArray, List.getElem_cons_succ, List.getElem_cons_zero, Act.put, List.setIfInBounds_toArray, List.set_cons_zero, List.set_cons_succ]
        refine wpAnyH_take (i := 14) (oi := _) (v := ?_) rfl (by kernel_rfl) (by kernel_rfl) (by kernel_rfl) (fun _ _ _ h => h) (Or.inl ⟨by rfl, ?_⟩) (by assumption) ?_
        rotate_left
        · (intro w hSw; (try dsimp only at hSw); go_simp <;> with_reducible rfl)
        try simp only [List.getElem_toArray, List.getElem_cons_succ, List.getElem_cons_zero, Act.put, List.setIfInBounds_toArray, List.set_cons_zero, List.set_cons_succ]
        refine wpAnyH_done (by kernel_rfl) ?_ _
        refine NoPanic.normal ?_
        go_wp2_with fail
        go_ret
        exact ⟨by rw [E2.out]; rfl, HW.out.trans (HX.out.mono HZw.out)⟩
      · by_cases hret : fr0 = gr0 ∧ fr1 = gr1
        · obtain ⟨rfl, rfl⟩ := hret
          have E2 := Lib.hid (show alikeB ⟨fa, fl, (fr0, fr1), fc, fd, fp, fh⟩ ⟨ga, gl, (fr0, fr1), gc, gd, gp, gh⟩ = true by unfold alikeB; dsimp only; rw [D5.out, decide_eq_true (rfl : (fr0, fr1) = (fr0, fr1))]; rfl)
          go_region_held3 (fun w' => w'.cell? ⟨w.heap.size, 0, none⟩ = some (.slice (some adt) fa.length j0) ∧ w'.cell? ⟨w.heap.size, 2, none⟩ = some (.int .i64 fr0) ∧ w'.cell? ⟨w.heap.size, 3, none⟩ = some (.int .i64 fr1) ∧ w'.cell? ⟨w.heap.size + 1, 0, none⟩ = some (.slice (some adg) ga.length i0) ∧ w'.cell? ⟨w.heap.size + 1, 2, none⟩ = some (.int .i64 fr0) ∧ w'.cell? ⟨w.heap.size + 1, 3, none⟩ = some (.int .i64 fr1)) (first | exact ⟨hb0, hb2, hb3, hg0, hg2, hg3⟩) (first | (go_at_call 61; (with_reducible refine (eqTypes_n_is HSfd HSgd HXd HNf HNg D5).mono ?_); rintro e w5 ⟨rfl, hb⟩; have HX := Lib.hid (HXd.out.trans (hb.mono HXd.out.size)); have hb0 := (HFB.out.keep HX.out HFBZ.out) 0 _ rfl; have hb2 := (HFB.out.keep HX.out HFBZ.out) 2 _ rfl; have hb3 := (HFB.out.keep HX.out HFBZ.out) 3 _ rfl; have hg0 := (HGB.out.keep HX.out HGBZ.out) 0 _ rfl; have hg2 := (HGB.out.keep HX.out HGBZ.out) 2 _ rfl; have hg3 := (HGB.out.keep HX.out HGBZ.out) 3 _ rfl; clear hb))
          go_wp2_with fail
          go_ret
          exact ⟨by rw [E2.out]; rfl, HW.out.trans (HX.out.mono HZw.out)⟩
        · have E2 := Lib.hid (show alikeB ⟨fa, fl, (fr0, fr1), fc, fd, fp, fh⟩ ⟨ga, gl, (gr0, gr1), gc, gd, gp, gh⟩ = false by unfold alikeB; dsimp only; rw [decide_eq_false (show ¬ (fr0, fr1) = (gr0, gr1) by simpa using hret)]; simp)
          have hxx : ¬ fr0 = gr0 ∨ (fr0 = gr0 ∧ ¬ fr1 = gr1) := by omega
          clear hret
          rcases hxx with hxx | ⟨rfl, hxx⟩
          · go_region_held3 (fun w' => w'.cell? ⟨w.heap.size, 0, none⟩ = some (.slice (some adt) fa.length j0) ∧ w'.cell? ⟨w.heap.size, 2, none⟩ = some (.int .i64 fr0) ∧ w'.cell? ⟨w.heap.size, 3, none⟩ = some (.int .i64 fr1) ∧ w'.cell? ⟨w.heap.size + 1, 0, none⟩ = some (.slice (some adg) ga.length i0) ∧ w'.cell? ⟨w.heap.size + 1, 2, none⟩ = some (.int .i64 gr0) ∧ w'.cell? ⟨w.heap.size + 1, 3, none⟩ = some (.int .i64 gr1)) (first | exact ⟨hb0, hb2, hb3, hg0, hg2, hg3⟩) (first | (go_at_call 61; (with_reducible refine (eqTypes_n_is HSfd HSgd HXd HNf HNg D5).mono ?_); rintro e w5 ⟨rfl, hb⟩; have HX := Lib.hid (HXd.out.trans (hb.mono HXd.out.size)); have hb0 := (HFB.out.keep HX.out HFBZ.out) 0 _ rfl; have hb2 := (HFB.out.keep HX.out HFBZ.out) 2 _ rfl; have hb3 := (HFB.out.keep HX.out HFBZ.out) 3 _ rfl; have hg0 := (HGB.out.keep HX.out HGBZ.out) 0 _ rfl; have hg2 := (HGB.out.keep HX.out HGBZ.out) 2 _ rfl; have hg3 := (HGB.out.keep HX.out HGBZ.out) 3 _ rfl; clear hb))
            go_wp2_with fail
            go_ret
            exact ⟨by rw [E2.out]; rfl, HW.out.trans (HX.out.mono HZw.out)⟩
          · go_region_held3 (fun w' => w'.cell? ⟨w.heap.size, 0, none⟩ = some (.slice (some adt) fa.length j0) ∧ w'.cell? ⟨w.heap.size, 2, none⟩ = some (.int .i64 fr0) ∧ w'.cell? ⟨w.heap.size, 3, none⟩ = some (.int .i64 fr1) ∧ w'.cell? ⟨w.heap.size + 1, 0, none⟩ = some (.slice (some adg) ga.length i0) ∧ w'.cell? ⟨w.heap.size + 1, 2, none⟩ = some (.int .i64 fr0) ∧ w'.cell? ⟨w.heap.size + 1, 3, none⟩ = some (.int .i64 gr1)) (first | exact ⟨hb0, hb2, hb3, hg0, hg2, hg3⟩) (first | (go_at_call 61; (with_reducible refine (eqTypes_n_is HSfd HSgd HXd HNf HNg D5).mono ?_); rintro e w5 ⟨rfl, hb⟩; have HX := Lib.hid (HXd.out.trans (hb.mono HXd.out.size)); have hb0 := (HFB.out.keep HX.out HFBZ.out) 0 _ rfl; have hb2 := (HFB.out.keep HX.out HFBZ.out) 2 _ rfl; have hb3 := (HFB.out.keep HX.out HFBZ.out) 3 _ rfl; have hg0 := (HGB.out.keep HX.out HGBZ.out) 0 _ rfl; have hg2 := (HGB.out.keep HX.out HGBZ.out) 2 _ rfl; have hg3 := (HGB.out.keep HX.out HGBZ.out) 3 _ rfl; clear hb))
            go_wp2_with fail
            go_ret
            exact ⟨by rw [E2.out]; rfl, HW.out.trans (HX.out.mono HZw.out)⟩
end Go.Proofs.Ytjgfoialajgfhaa
