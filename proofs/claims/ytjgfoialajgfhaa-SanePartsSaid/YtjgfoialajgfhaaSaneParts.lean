/-
  The statement on a sane image's parts (SaneParts), walked: it answers true at any image and number.
-/
import Derived.Test.YtjgfoialajgfhaaPartsRows
import Derived.Deep.RegionHeld3
namespace Go.Proofs.Ytjgfoialajgfhaa
set_option maxRecDepth 100000
set_option linter.unusedVariables false
set_option linter.unusedSimpArgs false
open Go.ChangeShapes Go.WideShapes Go.ChangeAt Go.RowKit
set_option linter.unusedVariables false
set_option linter.unusedSimpArgs false

/-- An image's cells, in a block of the call's own, stored whole. -/
theorem Whole.image {w : World} {N : Nat} {vs : List Value} {T : TypeId} {a0 a1 a2 a3 a4 a5 a6 : Value} (h : Whole w N vs T) (hl : vs.length = 7) :
    Whole (((((((w.setCell ⟨N, 0, none⟩ a0).setCell ⟨N, 1, none⟩ a1).setCell ⟨N, 2, none⟩ a2).setCell ⟨N, 3, none⟩ a3).setCell ⟨N, 4, none⟩ a4).setCell ⟨N, 5, none⟩ a5).setCell ⟨N, 6, none⟩ a6) N [a0, a1, a2, a3, a4, a5, a6] T := by
  have H := ((((((h.set 0 a0).set 1 a1).set 2 a2).set 3 a3).set 4 a4).set 5 a5).set 6 a6
  match vs, hl with
  | [b0, b1, b2, b3, b4, b5, b6], _ => exact H

theorem below_image {w0 w : World} {N B : Nat} {a0 a1 a2 a3 a4 a5 a6 : Value} (h : Below B w0 w) (hN : B ≤ N) :
    Below B w0 (((((((w.setCell ⟨N, 0, none⟩ a0).setCell ⟨N, 1, none⟩ a1).setCell ⟨N, 2, none⟩ a2).setCell ⟨N, 3, none⟩ a3).setCell ⟨N, 4, none⟩ a4).setCell ⟨N, 5, none⟩ a5).setCell ⟨N, 6, none⟩ a6) :=
  ((((((h.setCell (p := ⟨N, 0, none⟩) hN a0).setCell (p := ⟨N, 1, none⟩) hN a1).setCell (p := ⟨N, 2, none⟩) hN a2).setCell (p := ⟨N, 3, none⟩) hN a3).setCell (p := ⟨N, 4, none⟩) hN a4).setCell (p := ⟨N, 5, none⟩) hN a5).setCell (p := ⟨N, 6, none⟩) hN a6
theorem own_form {w : World} {B e size n : Nat} {v : Value} {xs : List Value} (h : w.ownsRow B e size v n xs) (hn : 0 < n) : ∃ g c, v = .slice (some ⟨g, 0, none⟩) n c := by
  rcases ownK_slice h with ⟨_, hz⟩ | ⟨g, c, e, _⟩
  · omega
  · exact ⟨g, c, e⟩
theorem lng1_one {n : Int} : ∀ u ∈ ([.int .i32 n] : List Value), u.oneCell' = true := fun u hu => by simp at hu; subst hu; rfl
theorem ty1_one : ∀ u ∈ ([.int .i64 2, .int .i64 0] : List Value), u.oneCell' = true := fun u hu => by simp at hu; rcases hu with rfl | rfl <;> rfl
theorem cls1_one : ∀ u ∈ ([.int .i64 (-1), .slice none 0 0, .slice none 0 0] : List Value), u.oneCell' = true := fun u hu => by simp at hu; rcases hu with rfl | rfl <;> rfl

set_option maxHeartbeats 6400000 in
theorem saneParts_any (m : Img) (h : Hnd) (n : Int) (w : World) (n0 : -2147483648 ≤ n) (n1 : n ≤ 2147483647) (H : ImgIn w w.heap.size h m) :
    Calls Try.prog 5 #[imgV h m, .int .i32 n] w fun e w' => e = .returned (.bool true) ∧ Below w.heap.size w w' := by
  obtain ⟨j0, ji, jz0, jz1, jz2⟩ := info_partsK info_long
  obtain ⟨t0, ti, tz0, tz1, tz2⟩ := info_partsK info_type
  obtain ⟨i0, hi, hz0, hz1, hz2⟩ := info_partsK info_cls
  have HW := Lib.hid (below_box (w := w) (h := h) (m := m))
  have HBX := Lib.hid (img_box w h m)
  have HZ : Hid (w.heap.size < (w.alloc (imgO h m)).heap.size) := Lib.hid (by simp)
  have HI := Lib.hid (H.now HW.out)
  obtain ⟨r, hr⟩ : ∃ r, saneR m = r := ⟨_, rfl⟩
  have HR := Lib.hid hr
  clear H hr
  go_enter Try.func5, Try.ntmps5
  go_upto_region 1 with fail
  generalize w.alloc (imgO h m) = w1 at *
  obtain ⟨q0, q1, q2, q3, q4, q5, q6⟩ := HBX.out
  have HX : Hid (Below w1.heap.size w1 w1) := Lib.hid (Below.refl _ _)
  by_cases hr0 : r = 0
  rotate_left
  · have ht : (r != 0) = true := bne_iff_ne.mpr hr0
    clear hr0
    go_wp2_with (first | (go_at_call 6; (with_reducible refine (small_is HI HX).mono ?_); rintro e w2 ⟨b, rfl, hb⟩; have HX := Lib.hid (HX.out.trans (hb.mono HX.out.size)); obtain ⟨q0, q1, q2, q3, q4, q5, q6⟩ := HBX.out.keep HX.out HZ.out; clear hb; cases b) | (go_at_call 8; (with_reducible refine (scheck_is HI HX HR).mono ?_); rintro e w7 ⟨rfl, hb⟩; have HX := Lib.hid (HX.out.trans (hb.mono HX.out.size)); obtain ⟨q0, q1, q2, q3, q4, q5, q6⟩ := HBX.out.keep HX.out HZ.out; clear hb) | (go_at_call 7; (with_reducible refine (saneAwake_any _).mono ?_); rintro e w7 ⟨rfl, hb⟩; have HX := Lib.hid (HX.out.trans (hb.mono HX.out.size)); obtain ⟨q0, q1, q2, q3, q4, q5, q6⟩ := HBX.out.keep HX.out HZ.out; clear hb))
    all_goals
      go_ret
      exact ⟨rfl, HW.out.trans (HX.out.mono (Nat.le_of_lt HZ.out))⟩
  subst hr0
  have HF := Lib.hid (imgFits (sane_iff.mp HR.out).1)
  have l0 := HF.out.cl
  have l1 := HF.out.sl
  have l2 := HF.out.il
  go_upto_region 3 with (first | (go_at_call 6; (with_reducible refine (small_is HI HX).mono ?_); rintro e w2 ⟨b, rfl, hb⟩; have HX := Lib.hid (HX.out.trans (hb.mono HX.out.size)); obtain ⟨q0, q1, q2, q3, q4, q5, q6⟩ := HBX.out.keep HX.out HZ.out; clear hb; cases b) | (go_at_call 8; (with_reducible refine (scheck_is HI HX HR).mono ?_); rintro e w7 ⟨rfl, hb⟩; have HX := Lib.hid (HX.out.trans (hb.mono HX.out.size)); obtain ⟨q0, q1, q2, q3, q4, q5, q6⟩ := HBX.out.keep HX.out HZ.out; clear hb) | (go_at_call 7; (with_reducible refine (saneAwake_any _).mono ?_); rintro e w7 ⟨rfl, hb⟩; have HX := Lib.hid (HX.out.trans (hb.mono HX.out.size)); obtain ⟨q0, q1, q2, q3, q4, q5, q6⟩ := HBX.out.keep HX.out HZ.out; clear hb))
  · go_ret
    exact ⟨rfl, HW.out.trans (HX.out.mono (Nat.le_of_lt HZ.out))⟩
  have hx3 : Whole (w7.alloc (.cells ([.slice h.A0 m.classes.length h.c0, .slice h.A1 m.statics.length h.c1, .slice h.A2 m.ints.length h.c2, .slice h.A3 m.methods.length h.c3, .slice none 0 0, .int .i64 m.stack, .int .i64 m.heap] : List Value).toArray 28)) w7.heap.size [.slice h.A0 m.classes.length h.c0, .slice h.A1 m.statics.length h.c1, .slice h.A2 m.ints.length h.c2, .slice h.A3 m.methods.length h.c3, .slice none 0 0, .int .i64 m.stack, .int .i64 m.heap] 28 := Whole.new _ _ _
  have HX3 := Lib.hid (HX.out.alloc HX.out.size (.cells ([.slice h.A0 m.classes.length h.c0, .slice h.A1 m.statics.length h.c1, .slice h.A2 m.ints.length h.c2, .slice h.A3 m.methods.length h.c3, .slice none 0 0, .int .i64 m.stack, .int .i64 m.heap] : List Value).toArray 28))
  have HN : Hid (w1.heap.size ≤ w7.heap.size) := Lib.hid HX.out.size
  go_upto_region 5 with fail
  change Code.wp _ _ _ _ (w7.alloc (.cells ([.slice h.A0 m.classes.length h.c0, .slice h.A1 m.statics.length h.c1, .slice h.A2 m.ints.length h.c2, .slice h.A3 m.methods.length h.c3, .slice none 0 0, .int .i64 m.stack, .int .i64 m.heap] : List Value).toArray 28))
  have HXN := Lib.hid hx3
  clear hx3 HX q0 q1 q2 q3 q4 q5 q6
  generalize w7.alloc (.cells ([.slice h.A0 m.classes.length h.c0, .slice h.A1 m.statics.length h.c1, .slice h.A2 m.ints.length h.c2, .slice h.A3 m.methods.length h.c3, .slice none 0 0, .int .i64 m.stack, .int .i64 m.heap] : List Value).toArray 28) = w3 at *
  generalize w7.heap.size = N at *
  have HX := HX3
  obtain ⟨q0, q1, q2, q3, q4, q5, q6⟩ := HBX.out.keep HX.out HZ.out
  have p0 := HXN.out.cells 0 _ rfl
  have p1 := HXN.out.cells 1 _ rfl
  have p2 := HXN.out.cells 2 _ rfl
  have p3 := HXN.out.cells 3 _ rfl
  have p4 := HXN.out.cells 4 _ rfl
  have p5 := HXN.out.cells 5 _ rfl
  have p6 := HXN.out.cells 6 _ rfl
  have HE := Lib.hid (parts_ent HR.out)
  go_upto_region 7 with (go_at_call 8; (with_reducible refine (check_ent HI HX HE).mono ?_); rintro e w4 ⟨rfl, hb⟩; have HX := Lib.hid (HX.out.trans (hb.mono HX.out.size)); have HXN := Lib.hid (HXN.out.keep hb HXN.out.lt); clear hb)
  clear p0 p1 p2 p3 p4 p5 p6 q0 q1 q2 q3 q4 q5 q6
  obtain ⟨q0, q1, q2, q3, q4, q5, q6⟩ := HBX.out.keep HX.out HZ.out
  have p0 := HXN.out.cells 0 _ rfl
  have p1 := HXN.out.cells 1 _ rfl
  have p2 := HXN.out.cells 2 _ rfl
  have p3 := HXN.out.cells 3 _ rfl
  have p4 := HXN.out.cells 4 _ rfl
  have p5 := HXN.out.cells 5 _ rfl
  have p6 := HXN.out.cells 6 _ rfl
  have f0 := HXN.out.free 0
  have f1 := HXN.out.free 1
  have f2 := HXN.out.free 2
  have f3 := HXN.out.free 3
  have f4 := HXN.out.free 4
  have f5 := HXN.out.free 5
  have f6 := HXN.out.free 6
  have hlt := HXN.out.lt
  go_upto_region 8 with fail

  have hx5 := HXN.out.image (a0 := .slice h.A0 m.classes.length h.c0) (a1 := .slice h.A1 m.statics.length h.c1) (a2 := .slice h.A2 m.ints.length h.c2) (a3 := .slice h.A3 m.methods.length h.c3) (a4 := .slice h.A4 m.entries.length h.c4) (a5 := .int .i64 m.stack) (a6 := .int .i64 m.heap) rfl
  have HX5 := Lib.hid (below_image (a0 := .slice h.A0 m.classes.length h.c0) (a1 := .slice h.A1 m.statics.length h.c1) (a2 := .slice h.A2 m.ints.length h.c2) (a3 := .slice h.A3 m.methods.length h.c3) (a4 := .slice h.A4 m.entries.length h.c4) (a5 := .int .i64 m.stack) (a6 := .int .i64 m.heap) HX.out HN.out)
  have HXN5 := Lib.hid hx5
  clear hx5 HXN HX hlt p0 p1 p2 p3 p4 p5 p6 q0 q1 q2 q3 q4 q5 q6 f0 f1 f2 f3 f4 f5 f6
  generalize (((((((w4.setCell ⟨N, 0, none⟩ (.slice h.A0 m.classes.length h.c0)).setCell ⟨N, 1, none⟩ (.slice h.A1 m.statics.length h.c1)).setCell ⟨N, 2, none⟩ (.slice h.A2 m.ints.length h.c2)).setCell ⟨N, 3, none⟩ (.slice h.A3 m.methods.length h.c3)).setCell ⟨N, 4, none⟩ (.slice h.A4 m.entries.length h.c4)).setCell ⟨N, 5, none⟩ (.int .i64 m.stack)).setCell ⟨N, 6, none⟩ (.int .i64 m.heap)) = w5 at *
  have HX := HX5
  have HXN := HXN5
  clear HX5 HXN5
  obtain ⟨q0, q1, q2, q3, q4, q5, q6⟩ := HBX.out.keep HX.out HZ.out
  have qe := (World.cell?_alloc_lt w5 (.cells #[] 21) ⟨w.heap.size, 2, none⟩ (World.block_lt_of_cell? w5 _ q2)).trans q2
  have HCL := Lib.hid (lng_lie (HI.out.ints.below_to LongAt.keeps HX.out (Nat.le_refl _)).row)
  have HXS := Lib.hid HX.out.size
  go_upto_region 9 with (first | (at_builtin; refine append_liesK rfl (.tmp 21) (.tmp 23) 24 rfl w5.heap.size 21 j0 (.int .i32 0) 1 4 Try.underlying24 ji jz0 jz1 jz2 rfl (by decide) _ 0 [] rfl (own_emptyK w5 _ 1) h.A2 m.ints.length h.c2 _ (lngV m.ints) (lngV_len _) rfl (lies_alloc HCL HXS _) (lngV_one _) (by unfold maxLen; omega) (by omega) (by simp) ?_; intro v6 w6 hown hgrow; have HB6 := Lib.hid (appK_more ((Below.refl w5.heap.size w5).alloc (Nat.le_refl _) (.cells #[] 21)) (own_emptyK w5 21 1) (by simp) hgrow); have HO6 : Hid (w6.ownsRow w5.heap.size 21 1 v6 m.ints.length (lngV m.ints)) := Lib.hid (by simpa using hown); clear hown hgrow) | (at_builtin; refine append_liesK rfl (.tmp 24) (.tmp 26) 24 rfl w5.heap.size 21 j0 (.int .i32 0) 1 4 Try.underlying24 ji jz0 jz1 jz2 rfl (by decide) _ m.ints.length (lngV m.ints) rfl (HO6.out.alloc _) (some ⟨w6.heap.size, 0, none⟩) 1 1 _ [.int .i32 n] rfl rfl (lies_new w6 [.int .i32 n] 21) lng1_one (by unfold maxLen; omega) (by omega) (by have := HB6.out.size; simp; omega) ?_; intro v7 w7 hown hgrow; obtain ⟨ga, ca, rfl⟩ := own_form hown (by omega); have HB7 := Lib.hid (appK_more (HB6.out.alloc HB6.out.size (.cells ([.int .i32 n] : List Value).toArray 21)) (HO6.out.alloc _) (by have := HB6.out.size; simp; omega) hgrow); have HO7 : Hid (w7.ownsRow w5.heap.size 21 1 (.slice (some ⟨ga, 0, none⟩) (m.ints.length + 1) ca) (m.ints.length + 1) ((lngV m.ints) ++ [.int .i32 n])) := Lib.hid hown; have px := (HXN.out.keep HB7.out HXN.out.lt).cells 2 _ rfl; have fx := (HXN.out.keep HB7.out HXN.out.lt).free 2; clear hown hgrow))
  have hlt := HXN.out.lt
  have ho8 := ownsRow_setCell_below HO7.out (a := ⟨N, 2, none⟩) hlt (.slice (some ⟨ga, 0, none⟩) (m.ints.length + 1) ca)
  have HX8 := Lib.hid ((HX.out.trans (HB7.out.mono HX.out.size)).setCell (p := ⟨N, 2, none⟩) HN.out (.slice (some ⟨ga, 0, none⟩) (m.ints.length + 1) ca))
  have HXN8 := Lib.hid ((HXN.out.keep HB7.out hlt).set 2 (.slice (some ⟨ga, 0, none⟩) (m.ints.length + 1) ca))
  clear HX HXN HB6 HB7 HO6 HO7 HCL HXS hlt px fx qe q0 q1 q2 q3 q4 q5 q6
  generalize w7.setCell ⟨N, 2, none⟩ (.slice (some ⟨ga, 0, none⟩) (m.ints.length + 1) ca) = w8 at *
  have HX := HX8
  have HXN := HXN8
  clear HX8 HXN8
  have HS8 : Hid (SlcIs LongAt 1 w8 w8.heap.size (some ⟨ga, 0, none⟩) ca (m.ints ++ [n])) := Lib.hid (by
    obtain ⟨g', c', e, hs⟩ := own_longs1 ho8 (row_long HI.out.ints.row) ⟨n0, n1⟩
    injection e with e1 _ e2
    rw [e1, e2]
    exact hs)
  clear ho8
  have HI8 := Lib.hid (HI.out.now HX.out)
  have HY : Hid (Below w8.heap.size w8 w8.drew) := Lib.hid (Below.refl _ _).drew
  obtain ⟨ra, hr⟩ : ∃ ra, saneR (oneInt m n) = ra := ⟨_, rfl⟩
  have HE := Lib.hid hr
  have hd := parts_int n HR.out
  rw [hr] at hd
  obtain ⟨ba, hb⟩ : ∃ ba : Bool, decide (m.ints.length < 16) = ba := ⟨_, rfl⟩
  have hd1 : (ra == 0) = ba := by rw [← hb]; rw [Bool.eq_iff_iff]; simp; exact hd
  have hd2 : decide ((m.ints.length : Int) < 16) = ba := by rw [← hb]; rw [Bool.eq_iff_iff]; simp; omega
  clear hr hd hb
  obtain ⟨q0, q1, q2, q3, q4, q5, q6⟩ := HBX.out.keep HX.out HZ.out
  have p0 := HXN.out.cells 0 _ rfl
  have p1 := HXN.out.cells 1 _ rfl
  have p2 := HXN.out.cells 2 _ rfl
  have p3 := HXN.out.cells 3 _ rfl
  have p4 := HXN.out.cells 4 _ rfl
  have p5 := HXN.out.cells 5 _ rfl
  have p6 := HXN.out.cells 6 _ rfl
  have HX := Lib.hid HX.out.drew
  have HXN : Hid (Whole w8.drew N [.slice h.A0 m.classes.length h.c0, .slice h.A1 m.statics.length h.c1, .slice (some ⟨ga, 0, none⟩) (m.ints.length + 1) ca, .slice h.A3 m.methods.length h.c3, .slice h.A4 m.entries.length h.c4, .int .i64 m.stack, .int .i64 m.heap] 28) := HXN
  go_region_held3 (fun w' => w'.cell? ⟨w.heap.size, 0, none⟩ = some (.slice h.A0 m.classes.length h.c0) ∧ w'.cell? ⟨w.heap.size, 1, none⟩ = some (.slice h.A1 m.statics.length h.c1) ∧ w'.cell? ⟨w.heap.size, 2, none⟩ = some (.slice h.A2 m.ints.length h.c2) ∧ w'.cell? ⟨w.heap.size, 3, none⟩ = some (.slice h.A3 m.methods.length h.c3) ∧ w'.cell? ⟨w.heap.size, 4, none⟩ = some (.slice h.A4 m.entries.length h.c4) ∧ w'.cell? ⟨w.heap.size, 5, none⟩ = some (.int .i64 m.stack) ∧ w'.cell? ⟨w.heap.size, 6, none⟩ = some (.int .i64 m.heap) ∧ w'.cell? ⟨N, 0, none⟩ = some (.slice h.A0 m.classes.length h.c0) ∧ w'.cell? ⟨N, 1, none⟩ = some (.slice h.A1 m.statics.length h.c1) ∧ w'.cell? ⟨N, 2, none⟩ = some (.slice (some ⟨ga, 0, none⟩) (m.ints.length + 1) ca) ∧ w'.cell? ⟨N, 3, none⟩ = some (.slice h.A3 m.methods.length h.c3) ∧ w'.cell? ⟨N, 4, none⟩ = some (.slice h.A4 m.entries.length h.c4) ∧ w'.cell? ⟨N, 5, none⟩ = some (.int .i64 m.stack) ∧ w'.cell? ⟨N, 6, none⟩ = some (.int .i64 m.heap)) (first | exact ⟨q0, q1, q2, q3, q4, q5, q6, p0, p1, p2, p3, p4, p5, p6⟩) (first | (go_at_call 8; (with_reducible refine (check_int HI8 HS8 HY HE).mono ?_); rintro e w9 ⟨rfl, hb⟩; have HX := Lib.hid (HX.out.trans (hb.mono HX.out.size)); have HY := Lib.hid (HY.out.trans (hb.mono HY.out.size)); have HXN := Lib.hid (HXN.out.keep hb HXN.out.lt); clear hb; obtain ⟨q0, q1, q2, q3, q4, q5, q6⟩ := HBX.out.keep HX.out HZ.out; have p0 := HXN.out.cells 0 _ rfl; have p1 := HXN.out.cells 1 _ rfl; have p2 := HXN.out.cells 2 _ rfl; have p3 := HXN.out.cells 3 _ rfl; have p4 := HXN.out.cells 4 _ rfl; have p5 := HXN.out.cells 5 _ rfl; have p6 := HXN.out.cells 6 _ rfl))
  clear HI8 HS8 HY HE hd1 hd2 p0 p1 p2 p3 p4 p5 p6 q0 q1 q2 q3 q4 q5 q6
  obtain ⟨q0, q1, q2, q3, q4, q5, q6⟩ := HBX.out.keep HX.out HZ.out
  have p0 := HXN.out.cells 0 _ rfl
  have p1 := HXN.out.cells 1 _ rfl
  have p2 := HXN.out.cells 2 _ rfl
  have p3 := HXN.out.cells 3 _ rfl
  have p4 := HXN.out.cells 4 _ rfl
  have p5 := HXN.out.cells 5 _ rfl
  have p6 := HXN.out.cells 6 _ rfl
  have f0 := HXN.out.free 0
  have f1 := HXN.out.free 1
  have f2 := HXN.out.free 2
  have f3 := HXN.out.free 3
  have f4 := HXN.out.free 4
  have f5 := HXN.out.free 5
  have f6 := HXN.out.free 6
  have hlt := HXN.out.lt
  go_upto_region 12 with fail

  have hx5 := HXN.out.image (a0 := .slice h.A0 m.classes.length h.c0) (a1 := .slice h.A1 m.statics.length h.c1) (a2 := .slice h.A2 m.ints.length h.c2) (a3 := .slice h.A3 m.methods.length h.c3) (a4 := .slice h.A4 m.entries.length h.c4) (a5 := .int .i64 m.stack) (a6 := .int .i64 m.heap) rfl
  have HX5 := Lib.hid (below_image (a0 := .slice h.A0 m.classes.length h.c0) (a1 := .slice h.A1 m.statics.length h.c1) (a2 := .slice h.A2 m.ints.length h.c2) (a3 := .slice h.A3 m.methods.length h.c3) (a4 := .slice h.A4 m.entries.length h.c4) (a5 := .int .i64 m.stack) (a6 := .int .i64 m.heap) HX.out HN.out)
  have HXN5 := Lib.hid hx5
  clear hx5 HXN HX hlt p0 p1 p2 p3 p4 p5 p6 q0 q1 q2 q3 q4 q5 q6 f0 f1 f2 f3 f4 f5 f6
  generalize (((((((w9.setCell ⟨N, 0, none⟩ (.slice h.A0 m.classes.length h.c0)).setCell ⟨N, 1, none⟩ (.slice h.A1 m.statics.length h.c1)).setCell ⟨N, 2, none⟩ (.slice h.A2 m.ints.length h.c2)).setCell ⟨N, 3, none⟩ (.slice h.A3 m.methods.length h.c3)).setCell ⟨N, 4, none⟩ (.slice h.A4 m.entries.length h.c4)).setCell ⟨N, 5, none⟩ (.int .i64 m.stack)).setCell ⟨N, 6, none⟩ (.int .i64 m.heap)) = w5 at *
  have HX := HX5
  have HXN := HXN5
  clear HX5 HXN5
  obtain ⟨q0, q1, q2, q3, q4, q5, q6⟩ := HBX.out.keep HX.out HZ.out
  have qe := (World.cell?_alloc_lt w5 (.cells #[] 35) ⟨w.heap.size, 1, none⟩ (World.block_lt_of_cell? w5 _ q1)).trans q1
  have HCL := Lib.hid (tys_lie (HI.out.statics.below_to TyAt.keeps HX.out (Nat.le_refl _)).row)
  have HXS := Lib.hid HX.out.size
  go_upto_region 13 with (first | (at_builtin; refine append_liesK rfl (.tmp 38) (.tmp 40) 23 rfl w5.heap.size 35 t0 (.agg #[.int .i64 0, .int .i64 0]) 2 16 Try.underlying23 ti tz0 tz1 tz2 rfl (by decide) _ 0 [] rfl (own_emptyK w5 _ 2) h.A1 m.statics.length h.c1 _ (tysV m.statics) (tysV_len _) rfl (lies_alloc HCL HXS _) (tysV_one _) (by unfold maxLen; omega) (by omega) (by simp) ?_; intro v6 w6 hown hgrow; have HB6 := Lib.hid (appK_more ((Below.refl w5.heap.size w5).alloc (Nat.le_refl _) (.cells #[] 35)) (own_emptyK w5 35 2) (by simp) hgrow); have HO6 : Hid (w6.ownsRow w5.heap.size 35 2 v6 m.statics.length (tysV m.statics)) := Lib.hid (by simpa using hown); clear hown hgrow) | (at_builtin; refine append_liesK rfl (.tmp 41) (.tmp 43) 23 rfl w5.heap.size 35 t0 (.agg #[.int .i64 0, .int .i64 0]) 2 16 Try.underlying23 ti tz0 tz1 tz2 rfl (by decide) _ m.statics.length (tysV m.statics) rfl (HO6.out.alloc _) (some ⟨w6.heap.size, 0, none⟩) 1 1 _ [.int .i64 2, .int .i64 0] rfl rfl (lies_new w6 [.int .i64 2, .int .i64 0] 35) ty1_one (by unfold maxLen; omega) (by omega) (by have := HB6.out.size; simp; omega) ?_; intro v7 w7 hown hgrow; obtain ⟨gb, cb, rfl⟩ := own_form hown (by omega); have HB7 := Lib.hid (appK_more (HB6.out.alloc HB6.out.size (.cells ([.int .i64 2, .int .i64 0] : List Value).toArray 35)) (HO6.out.alloc _) (by have := HB6.out.size; simp; omega) hgrow); have HO7 : Hid (w7.ownsRow w5.heap.size 35 2 (.slice (some ⟨gb, 0, none⟩) (m.statics.length + 1) cb) (m.statics.length + 1) ((tysV m.statics) ++ [.int .i64 2, .int .i64 0])) := Lib.hid hown; have px := (HXN.out.keep HB7.out HXN.out.lt).cells 1 _ rfl; have fx := (HXN.out.keep HB7.out HXN.out.lt).free 1; clear hown hgrow))
  have hlt := HXN.out.lt
  have ho8 := ownsRow_setCell_below HO7.out (a := ⟨N, 1, none⟩) hlt (.slice (some ⟨gb, 0, none⟩) (m.statics.length + 1) cb)
  have HX8 := Lib.hid ((HX.out.trans (HB7.out.mono HX.out.size)).setCell (p := ⟨N, 1, none⟩) HN.out (.slice (some ⟨gb, 0, none⟩) (m.statics.length + 1) cb))
  have HXN8 := Lib.hid ((HXN.out.keep HB7.out hlt).set 1 (.slice (some ⟨gb, 0, none⟩) (m.statics.length + 1) cb))
  clear HX HXN HB6 HB7 HO6 HO7 HCL HXS hlt px fx qe q0 q1 q2 q3 q4 q5 q6
  generalize w7.setCell ⟨N, 1, none⟩ (.slice (some ⟨gb, 0, none⟩) (m.statics.length + 1) cb) = w8 at *
  have HX := HX8
  have HXN := HXN8
  clear HX8 HXN8
  have HS8 : Hid (SlcIs TyAt 2 w8 w8.heap.size (some ⟨gb, 0, none⟩) cb (m.statics ++ [(2, 0)])) := Lib.hid (by
    obtain ⟨g', c', e, hs⟩ := own_types1 (t := (2, 0)) ho8
    injection e with e1 _ e2
    rw [e1, e2]
    exact hs)
  clear ho8
  have HI8 := Lib.hid (HI.out.now HX.out)
  have HY : Hid (Below w8.heap.size w8 w8.drew) := Lib.hid (Below.refl _ _).drew
  obtain ⟨rb, hr⟩ : ∃ rb, saneR (oneStat m) = rb := ⟨_, rfl⟩
  have HE := Lib.hid hr
  have hd := parts_stat HR.out
  rw [hr] at hd
  obtain ⟨bb, hb⟩ : ∃ bb : Bool, decide (m.statics.length < 8) = bb := ⟨_, rfl⟩
  have hd1 : (rb == 0) = bb := by rw [← hb]; rw [Bool.eq_iff_iff]; simp; exact hd
  have hd2 : decide ((m.statics.length : Int) < 8) = bb := by rw [← hb]; rw [Bool.eq_iff_iff]; simp; omega
  clear hr hd hb
  obtain ⟨q0, q1, q2, q3, q4, q5, q6⟩ := HBX.out.keep HX.out HZ.out
  have p0 := HXN.out.cells 0 _ rfl
  have p1 := HXN.out.cells 1 _ rfl
  have p2 := HXN.out.cells 2 _ rfl
  have p3 := HXN.out.cells 3 _ rfl
  have p4 := HXN.out.cells 4 _ rfl
  have p5 := HXN.out.cells 5 _ rfl
  have p6 := HXN.out.cells 6 _ rfl
  have HX := Lib.hid HX.out.drew
  have HXN : Hid (Whole w8.drew N [.slice h.A0 m.classes.length h.c0, .slice (some ⟨gb, 0, none⟩) (m.statics.length + 1) cb, .slice h.A2 m.ints.length h.c2, .slice h.A3 m.methods.length h.c3, .slice h.A4 m.entries.length h.c4, .int .i64 m.stack, .int .i64 m.heap] 28) := HXN
  go_region_held3 (fun w' => w'.cell? ⟨w.heap.size, 0, none⟩ = some (.slice h.A0 m.classes.length h.c0) ∧ w'.cell? ⟨w.heap.size, 1, none⟩ = some (.slice h.A1 m.statics.length h.c1) ∧ w'.cell? ⟨w.heap.size, 2, none⟩ = some (.slice h.A2 m.ints.length h.c2) ∧ w'.cell? ⟨w.heap.size, 3, none⟩ = some (.slice h.A3 m.methods.length h.c3) ∧ w'.cell? ⟨w.heap.size, 4, none⟩ = some (.slice h.A4 m.entries.length h.c4) ∧ w'.cell? ⟨w.heap.size, 5, none⟩ = some (.int .i64 m.stack) ∧ w'.cell? ⟨w.heap.size, 6, none⟩ = some (.int .i64 m.heap) ∧ w'.cell? ⟨N, 0, none⟩ = some (.slice h.A0 m.classes.length h.c0) ∧ w'.cell? ⟨N, 1, none⟩ = some (.slice (some ⟨gb, 0, none⟩) (m.statics.length + 1) cb) ∧ w'.cell? ⟨N, 2, none⟩ = some (.slice h.A2 m.ints.length h.c2) ∧ w'.cell? ⟨N, 3, none⟩ = some (.slice h.A3 m.methods.length h.c3) ∧ w'.cell? ⟨N, 4, none⟩ = some (.slice h.A4 m.entries.length h.c4) ∧ w'.cell? ⟨N, 5, none⟩ = some (.int .i64 m.stack) ∧ w'.cell? ⟨N, 6, none⟩ = some (.int .i64 m.heap)) (first | exact ⟨q0, q1, q2, q3, q4, q5, q6, p0, p1, p2, p3, p4, p5, p6⟩) (first | (go_at_call 8; (with_reducible refine (check_stat HI8 HS8 HY HE).mono ?_); rintro e w9 ⟨rfl, hb⟩; have HX := Lib.hid (HX.out.trans (hb.mono HX.out.size)); have HY := Lib.hid (HY.out.trans (hb.mono HY.out.size)); have HXN := Lib.hid (HXN.out.keep hb HXN.out.lt); clear hb; obtain ⟨q0, q1, q2, q3, q4, q5, q6⟩ := HBX.out.keep HX.out HZ.out; have p0 := HXN.out.cells 0 _ rfl; have p1 := HXN.out.cells 1 _ rfl; have p2 := HXN.out.cells 2 _ rfl; have p3 := HXN.out.cells 3 _ rfl; have p4 := HXN.out.cells 4 _ rfl; have p5 := HXN.out.cells 5 _ rfl; have p6 := HXN.out.cells 6 _ rfl))
  clear HI8 HS8 HY HE hd1 hd2 p0 p1 p2 p3 p4 p5 p6 q0 q1 q2 q3 q4 q5 q6
  obtain ⟨q0, q1, q2, q3, q4, q5, q6⟩ := HBX.out.keep HX.out HZ.out
  have p0 := HXN.out.cells 0 _ rfl
  have p1 := HXN.out.cells 1 _ rfl
  have p2 := HXN.out.cells 2 _ rfl
  have p3 := HXN.out.cells 3 _ rfl
  have p4 := HXN.out.cells 4 _ rfl
  have p5 := HXN.out.cells 5 _ rfl
  have p6 := HXN.out.cells 6 _ rfl
  have f0 := HXN.out.free 0
  have f1 := HXN.out.free 1
  have f2 := HXN.out.free 2
  have f3 := HXN.out.free 3
  have f4 := HXN.out.free 4
  have f5 := HXN.out.free 5
  have f6 := HXN.out.free 6
  have hlt := HXN.out.lt
  go_upto_region 16 with fail

  obtain ⟨zs, ez, hzl, hzg⟩ := cls_lie HI.out.classes.row
  have HZL : Hid (zs.length = m.classes.length) := Lib.hid (by rw [← ez, List.length_map])
  have HZM := Lib.hid ez
  have HZV := Lib.hid hzl
  have HZG := Lib.hid hzg
  clear ez hzl hzg
  have hx5 := HXN.out.image (a0 := .slice h.A0 m.classes.length h.c0) (a1 := .slice h.A1 m.statics.length h.c1) (a2 := .slice h.A2 m.ints.length h.c2) (a3 := .slice h.A3 m.methods.length h.c3) (a4 := .slice h.A4 m.entries.length h.c4) (a5 := .int .i64 m.stack) (a6 := .int .i64 m.heap) rfl
  have HX5 := Lib.hid (below_image (a0 := .slice h.A0 m.classes.length h.c0) (a1 := .slice h.A1 m.statics.length h.c1) (a2 := .slice h.A2 m.ints.length h.c2) (a3 := .slice h.A3 m.methods.length h.c3) (a4 := .slice h.A4 m.entries.length h.c4) (a5 := .int .i64 m.stack) (a6 := .int .i64 m.heap) HX.out HN.out)
  have HXN5 := Lib.hid hx5
  clear hx5 HXN HX hlt p0 p1 p2 p3 p4 p5 p6 q0 q1 q2 q3 q4 q5 q6 f0 f1 f2 f3 f4 f5 f6
  generalize (((((((w9.setCell ⟨N, 0, none⟩ (.slice h.A0 m.classes.length h.c0)).setCell ⟨N, 1, none⟩ (.slice h.A1 m.statics.length h.c1)).setCell ⟨N, 2, none⟩ (.slice h.A2 m.ints.length h.c2)).setCell ⟨N, 3, none⟩ (.slice h.A3 m.methods.length h.c3)).setCell ⟨N, 4, none⟩ (.slice h.A4 m.entries.length h.c4)).setCell ⟨N, 5, none⟩ (.int .i64 m.stack)).setCell ⟨N, 6, none⟩ (.int .i64 m.heap)) = w5 at *
  have HX := HX5
  have HXN := HXN5
  clear HX5 HXN5
  obtain ⟨q0, q1, q2, q3, q4, q5, q6⟩ := HBX.out.keep HX.out HZ.out
  have qe := (World.cell?_alloc_lt w5 (.cells #[] 44) ⟨w.heap.size, 0, none⟩ (World.block_lt_of_cell? w5 _ q0)).trans q0
  have HCL := Lib.hid (HZV.out.below_to HX.out (Nat.le_refl _))
  have HXS := Lib.hid HX.out.size
  go_upto_region 17 with (first | (at_builtin; refine append_liesK rfl (.tmp 55) (.tmp 57) 22 rfl w5.heap.size 44 i0 (.agg #[.int .i64 0, .slice none 0 0, .slice none 0 0]) 3 56 Try.underlying22 hi hz0 hz1 hz2 rfl (by decide) _ 0 [] rfl (own_emptyK w5 _ 3) h.A0 m.classes.length h.c0 _ (clsW zs) ((clsW_len zs).trans (by rw [HZL.out])) rfl (lies_alloc HCL HXS _) (clsW_one _) (by unfold maxLen; omega) (by omega) (by simp) ?_; intro v6 w6 hown hgrow; have HB6 := Lib.hid (appK_more ((Below.refl w5.heap.size w5).alloc (Nat.le_refl _) (.cells #[] 44)) (own_emptyK w5 44 3) (by simp) hgrow); have HO6 : Hid (w6.ownsRow w5.heap.size 44 3 v6 m.classes.length (clsW zs)) := Lib.hid (by simpa using hown); clear hown hgrow) | (at_builtin; refine append_liesK rfl (.tmp 58) (.tmp 60) 22 rfl w5.heap.size 44 i0 (.agg #[.int .i64 0, .slice none 0 0, .slice none 0 0]) 3 56 Try.underlying22 hi hz0 hz1 hz2 rfl (by decide) _ m.classes.length (clsW zs) rfl (HO6.out.alloc _) (some ⟨w6.heap.size, 0, none⟩) 1 1 _ [.int .i64 (-1), .slice none 0 0, .slice none 0 0] rfl rfl (lies_new w6 [.int .i64 (-1), .slice none 0 0, .slice none 0 0] 44) cls1_one (by unfold maxLen; omega) (by omega) (by have := HB6.out.size; simp; omega) ?_; intro v7 w7 hown hgrow; obtain ⟨gc, cc, rfl⟩ := own_form hown (by omega); have HB7 := Lib.hid (appK_more (HB6.out.alloc HB6.out.size (.cells ([.int .i64 (-1), .slice none 0 0, .slice none 0 0] : List Value).toArray 44)) (HO6.out.alloc _) (by have := HB6.out.size; simp; omega) hgrow); have HO7 : Hid (w7.ownsRow w5.heap.size 44 3 (.slice (some ⟨gc, 0, none⟩) (m.classes.length + 1) cc) (m.classes.length + 1) ((clsW zs) ++ [.int .i64 (-1), .slice none 0 0, .slice none 0 0])) := Lib.hid hown; have px := (HXN.out.keep HB7.out HXN.out.lt).cells 0 _ rfl; have fx := (HXN.out.keep HB7.out HXN.out.lt).free 0; clear hown hgrow))
  have hlt := HXN.out.lt
  have ho8 := ownsRow_setCell_below HO7.out (a := ⟨N, 0, none⟩) hlt (.slice (some ⟨gc, 0, none⟩) (m.classes.length + 1) cc)
  have HX8 := Lib.hid ((HX.out.trans (HB7.out.mono HX.out.size)).setCell (p := ⟨N, 0, none⟩) HN.out (.slice (some ⟨gc, 0, none⟩) (m.classes.length + 1) cc))
  have HXN8 := Lib.hid ((HXN.out.keep HB7.out hlt).set 0 (.slice (some ⟨gc, 0, none⟩) (m.classes.length + 1) cc))
  clear HX HXN HB6 HB7 HO6 HO7 HCL HXS hlt px fx qe q0 q1 q2 q3 q4 q5 q6
  generalize w7.setCell ⟨N, 0, none⟩ (.slice (some ⟨gc, 0, none⟩) (m.classes.length + 1) cc) = w8 at *
  have HX := HX8
  have HXN := HXN8
  clear HX8 HXN8
  have HS8 : Hid (SlcIs ClsAt 3 w8 w8.heap.size (some ⟨gc, 0, none⟩) cc (m.classes ++ [⟨-1, [], []⟩])) := Lib.hid (by
    obtain ⟨g', c', e, hs⟩ := own_cls1 HZL.out ho8 (fun z hz => (HZG.out z hz).now HX.out)
    injection e with e1 _ e2
    rw [e1, e2, ← HZM.out]
    exact hs)
  clear ho8
  have HI8 := Lib.hid (HI.out.now HX.out)
  have HY : Hid (Below w8.heap.size w8 w8.drew) := Lib.hid (Below.refl _ _).drew
  obtain ⟨rc, hr⟩ : ∃ rc, saneR (oneCls m) = rc := ⟨_, rfl⟩
  have HE := Lib.hid hr
  have hd := parts_cls HR.out
  rw [hr] at hd
  obtain ⟨bc, hb⟩ : ∃ bc : Bool, decide (m.classes.length < 8) = bc := ⟨_, rfl⟩
  have hd1 : (rc == 0) = bc := by rw [← hb]; rw [Bool.eq_iff_iff]; simp; exact hd
  have hd2 : decide ((m.classes.length : Int) < 8) = bc := by rw [← hb]; rw [Bool.eq_iff_iff]; simp; omega
  clear hr hd hb
  obtain ⟨q0, q1, q2, q3, q4, q5, q6⟩ := HBX.out.keep HX.out HZ.out
  have p0 := HXN.out.cells 0 _ rfl
  have p1 := HXN.out.cells 1 _ rfl
  have p2 := HXN.out.cells 2 _ rfl
  have p3 := HXN.out.cells 3 _ rfl
  have p4 := HXN.out.cells 4 _ rfl
  have p5 := HXN.out.cells 5 _ rfl
  have p6 := HXN.out.cells 6 _ rfl
  have HX := Lib.hid HX.out.drew
  have HXN : Hid (Whole w8.drew N [.slice (some ⟨gc, 0, none⟩) (m.classes.length + 1) cc, .slice h.A1 m.statics.length h.c1, .slice h.A2 m.ints.length h.c2, .slice h.A3 m.methods.length h.c3, .slice h.A4 m.entries.length h.c4, .int .i64 m.stack, .int .i64 m.heap] 28) := HXN
  go_region_held3 (fun w' => w'.cell? ⟨w.heap.size, 0, none⟩ = some (.slice h.A0 m.classes.length h.c0) ∧ w'.cell? ⟨w.heap.size, 1, none⟩ = some (.slice h.A1 m.statics.length h.c1) ∧ w'.cell? ⟨w.heap.size, 2, none⟩ = some (.slice h.A2 m.ints.length h.c2) ∧ w'.cell? ⟨w.heap.size, 3, none⟩ = some (.slice h.A3 m.methods.length h.c3) ∧ w'.cell? ⟨w.heap.size, 4, none⟩ = some (.slice h.A4 m.entries.length h.c4) ∧ w'.cell? ⟨w.heap.size, 5, none⟩ = some (.int .i64 m.stack) ∧ w'.cell? ⟨w.heap.size, 6, none⟩ = some (.int .i64 m.heap) ∧ w'.cell? ⟨N, 0, none⟩ = some (.slice (some ⟨gc, 0, none⟩) (m.classes.length + 1) cc) ∧ w'.cell? ⟨N, 1, none⟩ = some (.slice h.A1 m.statics.length h.c1) ∧ w'.cell? ⟨N, 2, none⟩ = some (.slice h.A2 m.ints.length h.c2) ∧ w'.cell? ⟨N, 3, none⟩ = some (.slice h.A3 m.methods.length h.c3) ∧ w'.cell? ⟨N, 4, none⟩ = some (.slice h.A4 m.entries.length h.c4) ∧ w'.cell? ⟨N, 5, none⟩ = some (.int .i64 m.stack) ∧ w'.cell? ⟨N, 6, none⟩ = some (.int .i64 m.heap)) (first | exact ⟨q0, q1, q2, q3, q4, q5, q6, p0, p1, p2, p3, p4, p5, p6⟩) (first | (go_at_call 7; (with_reducible refine (saneAwake_any _).mono ?_); rintro e w9 ⟨rfl, hb⟩; have HX := Lib.hid (HX.out.trans (hb.mono HX.out.size)); have HY := Lib.hid (HY.out.trans (hb.mono HY.out.size)); have HXN := Lib.hid (HXN.out.keep hb HXN.out.lt); clear hb; obtain ⟨q0, q1, q2, q3, q4, q5, q6⟩ := HBX.out.keep HX.out HZ.out; have p0 := HXN.out.cells 0 _ rfl; have p1 := HXN.out.cells 1 _ rfl; have p2 := HXN.out.cells 2 _ rfl; have p3 := HXN.out.cells 3 _ rfl; have p4 := HXN.out.cells 4 _ rfl; have p5 := HXN.out.cells 5 _ rfl; have p6 := HXN.out.cells 6 _ rfl) | (go_at_call 8; (with_reducible refine (check_cls HI8 HS8 HY HE).mono ?_); rintro e w9 ⟨rfl, hb⟩; have HX := Lib.hid (HX.out.trans (hb.mono HX.out.size)); have HY := Lib.hid (HY.out.trans (hb.mono HY.out.size)); have HXN := Lib.hid (HXN.out.keep hb HXN.out.lt); clear hb; obtain ⟨q0, q1, q2, q3, q4, q5, q6⟩ := HBX.out.keep HX.out HZ.out; have p0 := HXN.out.cells 0 _ rfl; have p1 := HXN.out.cells 1 _ rfl; have p2 := HXN.out.cells 2 _ rfl; have p3 := HXN.out.cells 3 _ rfl; have p4 := HXN.out.cells 4 _ rfl; have p5 := HXN.out.cells 5 _ rfl; have p6 := HXN.out.cells 6 _ rfl))
  go_wp2_with fail
  go_ret
  exact ⟨rfl, HW.out.trans (HX.out.mono (Nat.le_of_lt HZ.out))⟩
end Go.Proofs.Ytjgfoialajgfhaa
