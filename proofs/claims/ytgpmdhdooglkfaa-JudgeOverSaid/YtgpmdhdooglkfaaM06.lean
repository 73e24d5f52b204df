/-
  The type of a local (Local), by the program and by the document.
  What flow's own small words come to: the arguments, the result, the slot, the static, the local, the field that an instruction of a sane image names.
-/
import Derived.Test.YtgpmdhdooglkfaaM05
import Derived.Test.YtgpmdhdooglkfaaM03
import Derived.Test.YtgpmdhdooglkfaaM04
import Derived.RegionTactic
import Derived.ChangeAlike
import Derived.Deep.RegionHeld3
import Derived.Deep.QuietTactic
import Derived.BigQuiet
namespace Go.Proofs.Ytgpmdhdooglkfaa
set_option maxRecDepth 100000
set_option linter.unusedVariables false
set_option linter.unusedSimpArgs false
open Go.ChangeShapes Go.WideShapes Go.ChangeAt Go.RowKit

theorem attyp_is {k : Int} {j n cap : Nat} {ad : Addr} {x y : Int} {w : World} (HJ : Hid (k = (j : Int))) (hk : j < n) (hn : n ≤ 9223372036854775807) (hab : ad.block < w.heap.size)
    (r0 : w.cell? (ad.add (j * 2)) = some (.int .i64 x)) (r1 : w.cell? (off_ (ad.add (j * 2)) 1) = some (.int .i64 y)) :
    Calls Try.prog 95 #[.slice (some ad) n cap, .int .i64 k] w fun e w' => e = .returned (.tuple #[tyV x y, .bool true]) ∧ Below w.heap.size w w' := by
  rw [HJ.out]
  exact attyp_yes j n cap ad x y w hk hn hab r0 r1
theorem clocal_arg (x : Mth) (j : Nat) (hj : j < x.args.length) (hx : MHnd) (w : World) (H : MthIn w w.heap.size hx x) :
    Calls Try.prog 91 #[mthV hx x, .int .i64 j] w fun e w' => e = .returned (tyV (localOf x j).1 (localOf x j).2) ∧ Below w.heap.size w w' := by
  have HW := Lib.hid (((Below.refl w.heap.size w).alloc (Nat.le_refl _) (.cells (mthL hx x).toArray 52)).alloc (by simp) (.cells #[.int .i64 0, .int .i64 0] 39))
  have HQ := Lib.hid (show Whole ((w.alloc (.cells (mthL hx x).toArray 52)).alloc (.cells #[.int .i64 0, .int .i64 0] 39)) (w.heap.size + 1) [.int .i64 0, .int .i64 0] 39 from Whole.at_ (by simp) _ _)
  have HC := Lib.hid ((cells_new w (mthL hx x) 52).keep ((Below.refl _ _).alloc (Nat.le_refl _) (.cells #[.int .i64 0, .int .i64 0] 39)) (by simp))
  have HM := Lib.hid (H.now HW.out)
  have h1 := H.args.le
  have h2 := H.args.cap
  have h3 := H.locals.le
  have h4 := H.locals.cap
  have hn63 : x.args.length ≤ 9223372036854775807 := by omega
  have hl63 : x.locals.length ≤ 9223372036854775807 := by omega
  clear H h1 h2 h3 h4
  obtain ⟨ad, e0, hab, r0, r1⟩ := HM.out.args.row.at_ hj
  have HE := Lib.hid e0
  rw [localOf_arg hj]
  generalize x.args[j] = t at *
  clear e0
  go_enter Try.func91, Try.ntmps91
  go_upto_region 1 with fail
  generalize (w.alloc (.cells (mthL hx x).toArray 52)).alloc (.cells #[.int .i64 0, .int .i64 0] 39) = w1 at *
  have q0 := HC.out 0 _ rfl
  have q1 := HC.out 1 _ rfl
  try rw [HE.out] at q0
  try rw [HE1.out] at q1
  have hlt := HQ.out.lt
  clear HC
  go_wp2_with (go_at_call 95; (with_reducible refine (attyp_yes j x.args.length hx.k0 ad t.1 t.2 w1 hj hn63 hab r0 r1).mono ?_); rintro e w2 ⟨rfl, hb⟩; have HB2 := Lib.hid hb; have HQ2 := Lib.hid (HQ.out.keep hb hlt); have c0 := HQ2.out.cells 0 _ rfl; have c1 := HQ2.out.cells 1 _ rfl; have f0 := HQ2.out.free 0; have f1 := HQ2.out.free 1; have hlt2 := HQ2.out.lt; clear hb)
  have HQ3a := (HQ2.out.set 0 (.int .i64 t.1)).set 1 (.int .i64 t.2)
  have HB3 := Lib.hid ((HB2.out.mono HW.out.size).setCell (p := ⟨w.heap.size + 1, 0, none⟩) (by show w.heap.size ≤ w.heap.size + 1; omega) (.int .i64 t.1) |>.setCell (p := ⟨w.heap.size + 1, 1, none⟩) (by show w.heap.size ≤ w.heap.size + 1; omega) (.int .i64 t.2))
  have HQ3 := Lib.hid (Whole.keep HQ3a ((Below.refl _ _).alloc (Nat.le_refl _) (.cells #[.int .i64 t.1, .int .i64 t.2] 39)) HQ3a.lt)
  have d0 := HQ3.out.cells 0 _ rfl
  have d1 := HQ3.out.cells 1 _ rfl
  exact bodyPost_ret (v := tyV t.1 t.2) (by simp [results, Try.results91, go_sem, d0, d1]) rfl ⟨rfl, HW.out.trans (HB3.out.alloc (Nat.le_trans HW.out.size HB3.out.size) _)⟩
theorem clocal_neg (x : Mth) (n : Int) (hn : n < 0) (hx : MHnd) (w : World) (H : MthIn w w.heap.size hx x) :
    Calls Try.prog 91 #[mthV hx x, .int .i64 n] w fun e w' => e = .returned (tyV (localOf x n).1 (localOf x n).2) ∧ Below w.heap.size w w' := by
  have HW := Lib.hid (((Below.refl w.heap.size w).alloc (Nat.le_refl _) (.cells (mthL hx x).toArray 52)).alloc (by simp) (.cells #[.int .i64 0, .int .i64 0] 39))
  have HQ := Lib.hid (show Whole ((w.alloc (.cells (mthL hx x).toArray 52)).alloc (.cells #[.int .i64 0, .int .i64 0] 39)) (w.heap.size + 1) [.int .i64 0, .int .i64 0] 39 from Whole.at_ (by simp) _ _)
  have HC := Lib.hid ((cells_new w (mthL hx x) 52).keep ((Below.refl _ _).alloc (Nat.le_refl _) (.cells #[.int .i64 0, .int .i64 0] 39)) (by simp))
  have HM := Lib.hid (H.now HW.out)
  have h1 := H.args.le
  have h2 := H.args.cap
  have h3 := H.locals.le
  have h4 := H.locals.cap
  have hn63 : x.args.length ≤ 9223372036854775807 := by omega
  have hl63 : x.locals.length ≤ 9223372036854775807 := by omega
  clear H h1 h2 h3 h4
  have hno : n < 0 ∨ (x.args.length : Int) ≤ n := .inl hn
  have hlt0 : n < (x.args.length : Int) := by omega
  rw [localOf_neg hn]
  clear hn
  go_enter Try.func91, Try.ntmps91
  go_upto_region 1 with fail
  generalize (w.alloc (.cells (mthL hx x).toArray 52)).alloc (.cells #[.int .i64 0, .int .i64 0] 39) = w1 at *
  have q0 := HC.out 0 _ rfl
  have q1 := HC.out 1 _ rfl
  try rw [HE.out] at q0
  try rw [HE1.out] at q1
  have hlt := HQ.out.lt
  clear HC
  go_wp2_with (go_at_call 95; (with_reducible refine (attyp_no n x.args.length hx.k0 hx.A0 w1 hn63 hno).mono ?_); rintro e w2 ⟨rfl, hb⟩; have HB2 := Lib.hid hb; have HQ2 := Lib.hid (HQ.out.keep hb hlt); have c0 := HQ2.out.cells 0 _ rfl; have c1 := HQ2.out.cells 1 _ rfl; have f0 := HQ2.out.free 0; have f1 := HQ2.out.free 1; have hlt2 := HQ2.out.lt; clear hb)
  have HQ3a := (HQ2.out.set 0 (.int .i64 ((0 : Int), (0 : Int)).1)).set 1 (.int .i64 ((0 : Int), (0 : Int)).2)
  have HB3 := Lib.hid ((HB2.out.mono HW.out.size).setCell (p := ⟨w.heap.size + 1, 0, none⟩) (by show w.heap.size ≤ w.heap.size + 1; omega) (.int .i64 ((0 : Int), (0 : Int)).1) |>.setCell (p := ⟨w.heap.size + 1, 1, none⟩) (by show w.heap.size ≤ w.heap.size + 1; omega) (.int .i64 ((0 : Int), (0 : Int)).2))
  have HQ3 := Lib.hid (Whole.keep HQ3a ((Below.refl _ _).alloc (Nat.le_refl _) (.cells #[.int .i64 ((0 : Int), (0 : Int)).1, .int .i64 ((0 : Int), (0 : Int)).2] 39)) HQ3a.lt)
  have d0 := HQ3.out.cells 0 _ rfl
  have d1 := HQ3.out.cells 1 _ rfl
  exact bodyPost_ret (v := tyV ((0 : Int), (0 : Int)).1 ((0 : Int), (0 : Int)).2) (by simp [results, Try.results91, go_sem, d0, d1]) rfl ⟨rfl, HW.out.trans (HB3.out.alloc (Nat.le_trans HW.out.size HB3.out.size) _)⟩
theorem clocal_local (x : Mth) (n : Int) (hlt0 : (x.args.length : Int) ≤ n) (hn : n < (x.args.length : Int) + x.locals.length) (hs : n ≤ 9223372036854775807) (hx : MHnd) (w : World) (H : MthIn w w.heap.size hx x) :
    Calls Try.prog 91 #[mthV hx x, .int .i64 n] w fun e w' => e = .returned (tyV (localOf x n).1 (localOf x n).2) ∧ Below w.heap.size w w' := by
  have HW := Lib.hid (((Below.refl w.heap.size w).alloc (Nat.le_refl _) (.cells (mthL hx x).toArray 52)).alloc (by simp) (.cells #[.int .i64 0, .int .i64 0] 39))
  have HQ := Lib.hid (show Whole ((w.alloc (.cells (mthL hx x).toArray 52)).alloc (.cells #[.int .i64 0, .int .i64 0] 39)) (w.heap.size + 1) [.int .i64 0, .int .i64 0] 39 from Whole.at_ (by simp) _ _)
  have HC := Lib.hid ((cells_new w (mthL hx x) 52).keep ((Below.refl _ _).alloc (Nat.le_refl _) (.cells #[.int .i64 0, .int .i64 0] 39)) (by simp))
  have HM := Lib.hid (H.now HW.out)
  have h1 := H.args.le
  have h2 := H.args.cap
  have h3 := H.locals.le
  have h4 := H.locals.cap
  have hn63 : x.args.length ≤ 9223372036854775807 := by omega
  have hl63 : x.locals.length ≤ 9223372036854775807 := by omega
  clear H h1 h2 h3 h4
  obtain ⟨j, hj⟩ := Int.eq_ofNat_of_zero_le (show 0 ≤ n - (x.args.length : Int) by omega)
  have hjl : j < x.locals.length := by omega
  have HJ := Lib.hid hj
  have e2 : n = ((x.args.length + j : Nat) : Int) := by omega
  obtain ⟨ad, e0, hab, r0, r1⟩ := HM.out.locals.row.at_ hjl
  have HE1 := Lib.hid e0
  have e3 : localOf x n = x.locals[j] := by rw [e2]; exact localOf_local hjl
  rw [e3]
  generalize x.locals[j] = t at *
  clear e0 hj e2 e3
  go_enter Try.func91, Try.ntmps91
  go_upto_region 1 with fail
  generalize (w.alloc (.cells (mthL hx x).toArray 52)).alloc (.cells #[.int .i64 0, .int .i64 0] 39) = w1 at *
  have q0 := HC.out 0 _ rfl
  have q1 := HC.out 1 _ rfl
  try rw [HE.out] at q0
  try rw [HE1.out] at q1
  have hlt := HQ.out.lt
  clear HC
  go_wp2_with (go_at_call 95; (with_reducible refine (attyp_is HJ hjl hl63 hab r0 r1).mono ?_); rintro e w2 ⟨rfl, hb⟩; have HB2 := Lib.hid hb; have HQ2 := Lib.hid (HQ.out.keep hb hlt); have c0 := HQ2.out.cells 0 _ rfl; have c1 := HQ2.out.cells 1 _ rfl; have f0 := HQ2.out.free 0; have f1 := HQ2.out.free 1; have hlt2 := HQ2.out.lt; clear hb)
  have HQ3a := (HQ2.out.set 0 (.int .i64 t.1)).set 1 (.int .i64 t.2)
  have HB3 := Lib.hid ((HB2.out.mono HW.out.size).setCell (p := ⟨w.heap.size + 1, 0, none⟩) (by show w.heap.size ≤ w.heap.size + 1; omega) (.int .i64 t.1) |>.setCell (p := ⟨w.heap.size + 1, 1, none⟩) (by show w.heap.size ≤ w.heap.size + 1; omega) (.int .i64 t.2))
  have HQ3 := Lib.hid (Whole.keep HQ3a ((Below.refl _ _).alloc (Nat.le_refl _) (.cells #[.int .i64 t.1, .int .i64 t.2] 39)) HQ3a.lt)
  have d0 := HQ3.out.cells 0 _ rfl
  have d1 := HQ3.out.cells 1 _ rfl
  exact bodyPost_ret (v := tyV t.1 t.2) (by simp [results, Try.results91, go_sem, d0, d1]) rfl ⟨rfl, HW.out.trans (HB3.out.alloc (Nat.le_trans HW.out.size HB3.out.size) _)⟩
theorem clocal_none (x : Mth) (n : Int) (hn : (x.args.length : Int) + x.locals.length ≤ n) (hs : n ≤ 9223372036854775807) (hx : MHnd) (w : World) (H : MthIn w w.heap.size hx x) :
    Calls Try.prog 91 #[mthV hx x, .int .i64 n] w fun e w' => e = .returned (tyV (localOf x n).1 (localOf x n).2) ∧ Below w.heap.size w w' := by
  have HW := Lib.hid (((Below.refl w.heap.size w).alloc (Nat.le_refl _) (.cells (mthL hx x).toArray 52)).alloc (by simp) (.cells #[.int .i64 0, .int .i64 0] 39))
  have HQ := Lib.hid (show Whole ((w.alloc (.cells (mthL hx x).toArray 52)).alloc (.cells #[.int .i64 0, .int .i64 0] 39)) (w.heap.size + 1) [.int .i64 0, .int .i64 0] 39 from Whole.at_ (by simp) _ _)
  have HC := Lib.hid ((cells_new w (mthL hx x) 52).keep ((Below.refl _ _).alloc (Nat.le_refl _) (.cells #[.int .i64 0, .int .i64 0] 39)) (by simp))
  have HM := Lib.hid (H.now HW.out)
  have h1 := H.args.le
  have h2 := H.args.cap
  have h3 := H.locals.le
  have h4 := H.locals.cap
  have hn63 : x.args.length ≤ 9223372036854775807 := by omega
  have hl63 : x.locals.length ≤ 9223372036854775807 := by omega
  clear H h1 h2 h3 h4
  have hno : n - (x.args.length : Int) < 0 ∨ (x.locals.length : Int) ≤ n - (x.args.length : Int) := by omega
  rw [localOf_none hn]
  have hlt0 : (x.args.length : Int) ≤ n := by omega
  go_enter Try.func91, Try.ntmps91
  go_upto_region 1 with fail
  generalize (w.alloc (.cells (mthL hx x).toArray 52)).alloc (.cells #[.int .i64 0, .int .i64 0] 39) = w1 at *
  have q0 := HC.out 0 _ rfl
  have q1 := HC.out 1 _ rfl
  try rw [HE.out] at q0
  try rw [HE1.out] at q1
  have hlt := HQ.out.lt
  clear HC
  go_wp2_with (go_at_call 95; (with_reducible refine (attyp_no (n - (x.args.length : Int)) x.locals.length hx.k1 hx.A1 w1 hl63 hno).mono ?_); rintro e w2 ⟨rfl, hb⟩; have HB2 := Lib.hid hb; have HQ2 := Lib.hid (HQ.out.keep hb hlt); have c0 := HQ2.out.cells 0 _ rfl; have c1 := HQ2.out.cells 1 _ rfl; have f0 := HQ2.out.free 0; have f1 := HQ2.out.free 1; have hlt2 := HQ2.out.lt; clear hb)
  have HQ3a := (HQ2.out.set 0 (.int .i64 ((0 : Int), (0 : Int)).1)).set 1 (.int .i64 ((0 : Int), (0 : Int)).2)
  have HB3 := Lib.hid ((HB2.out.mono HW.out.size).setCell (p := ⟨w.heap.size + 1, 0, none⟩) (by show w.heap.size ≤ w.heap.size + 1; omega) (.int .i64 ((0 : Int), (0 : Int)).1) |>.setCell (p := ⟨w.heap.size + 1, 1, none⟩) (by show w.heap.size ≤ w.heap.size + 1; omega) (.int .i64 ((0 : Int), (0 : Int)).2))
  have HQ3 := Lib.hid (Whole.keep HQ3a ((Below.refl _ _).alloc (Nat.le_refl _) (.cells #[.int .i64 ((0 : Int), (0 : Int)).1, .int .i64 ((0 : Int), (0 : Int)).2] 39)) HQ3a.lt)
  have d0 := HQ3.out.cells 0 _ rfl
  have d1 := HQ3.out.cells 1 _ rfl
  exact bodyPost_ret (v := tyV ((0 : Int), (0 : Int)).1 ((0 : Int), (0 : Int)).2) (by simp [results, Try.results91, go_sem, d0, d1]) rfl ⟨rfl, HW.out.trans (HB3.out.alloc (Nat.le_trans HW.out.size HB3.out.size) _)⟩
theorem clocal_any (x : Mth) (n : Int) (hs : n ≤ 9223372036854775807) (hx : MHnd) (w : World) (H : MthIn w w.heap.size hx x) :
    Calls Try.prog 91 #[mthV hx x, .int .i64 n] w fun e w' => e = .returned (tyV (localOf x n).1 (localOf x n).2) ∧ Below w.heap.size w w' := by
  by_cases h0 : n < 0
  · exact clocal_neg x n h0 hx w H
  · by_cases h1 : n < x.args.length
    · obtain ⟨j, rfl⟩ := Int.eq_ofNat_of_zero_le (show 0 ≤ n by omega)
      exact clocal_arg x j (by omega) hx w H
    · by_cases h2 : n < (x.args.length : Int) + x.locals.length
      · exact clocal_local x n (by omega) h2 hs hx w H
      · exact clocal_none x n (by omega) hs hx w H
end Go.Proofs.Ytgpmdhdooglkfaa
namespace Go.Proofs.Ytgpmdhdooglkfaa
set_option maxRecDepth 100000
set_option linter.unusedVariables false
set_option linter.unusedSimpArgs false
open Go.ChangeShapes Go.WideShapes Go.ChangeAt Go.RowKit

/-- The boxes of an image and an instruction. -/
abbrev twoW (h : Hnd) (m : Img) (op a b : Int) (w : World) : World := (w.alloc (imgO h m)).alloc (.cells #[.int .i64 op, .int .i64 a, .int .i64 b] 49)
structure TwoBox (w1 : World) (N : Nat) (h : Hnd) (m : Img) (op a b : Int) : Prop where
  img : ImgBox w1 N h m
  ins : Cells w1 (N + 1) [.int .i64 op, .int .i64 a, .int .i64 b]
  size : w1.heap.size = N + 1 + 1
theorem two_parts (h : Hnd) (m : Img) (op a b : Int) (w : World) : Below w.heap.size w (twoW h m op a b w) ∧ TwoBox (twoW h m op a b w) w.heap.size h m op a b := by
  have z0 : (w.alloc (imgO h m)).heap.size = w.heap.size + 1 := by simp
  obtain ⟨c1, z1, b1⟩ := cells_step z0 [.int .i64 op, .int .i64 a, .int .i64 b] 49
  exact ⟨((Below.refl w.heap.size w).alloc (Nat.le_refl _) (imgO h m)).trans (b1.mono (by omega)), (img_box w h m).keep b1 (by omega), c1, z1⟩
theorem TwoBox.keep {w w' : World} {N : Nat} {h : Hnd} {m : Img} {op a b : Int} (H : TwoBox w N h m op a b) (hb : Below w.heap.size w w') : ImgBox w' N h m ∧ Cells w' (N + 1) [.int .i64 op, .int .i64 a, .int .i64 b] :=
  ⟨H.img.keep hb (by have := H.size; omega), H.ins.keep hb (by have := H.size; omega)⟩
/-- These, and the result's. -/
abbrev threeW (h : Hnd) (m : Img) (op a b : Int) (w : World) : World := (twoW h m op a b w).alloc (.cells #[.int .i64 0, .int .i64 0] 39)
structure ThreeBox (w1 : World) (N : Nat) (h : Hnd) (m : Img) (op a b : Int) : Prop where
  img : ImgBox w1 N h m
  ins : Cells w1 (N + 1) [.int .i64 op, .int .i64 a, .int .i64 b]
  res : Whole w1 (N + 1 + 1) [.int .i64 0, .int .i64 0] 39
  size : w1.heap.size = N + 1 + 1 + 1
theorem three_parts (h : Hnd) (m : Img) (op a b : Int) (w : World) : Below w.heap.size w (threeW h m op a b w) ∧ ThreeBox (threeW h m op a b w) w.heap.size h m op a b := by
  obtain ⟨h0, h1⟩ := two_parts h m op a b w
  obtain ⟨c1, z1, b1⟩ := cells_step h1.size [.int .i64 0, .int .i64 0] 39
  exact ⟨h0.trans (b1.mono (by omega)), h1.img.keep b1 (by omega), h1.ins.keep b1 (by omega), Whole.at_ h1.size _ _, z1⟩
/-- The result's box written. -/
theorem res_set {w0 w1 w : World} {N : Nat} {x y : Int} (hb0 : Below N w0 w1) (hb : Below w1.heap.size w1 w) (hN : N + 1 + 1 < w1.heap.size) (hw : Whole w1 (N + 1 + 1) [.int .i64 0, .int .i64 0] 39) :
    ((w.setCell ⟨N + 1 + 1, 0, none⟩ (.int .i64 x)).setCell ⟨N + 1 + 1, 1, none⟩ (.int .i64 y)).cell? ⟨N + 1 + 1, 0, none⟩ = some (.int .i64 x) ∧ ((w.setCell ⟨N + 1 + 1, 0, none⟩ (.int .i64 x)).setCell ⟨N + 1 + 1, 1, none⟩ (.int .i64 y)).cell? ⟨N + 1 + 1, 1, none⟩ = some (.int .i64 y) ∧
    Below N w0 ((w.setCell ⟨N + 1 + 1, 0, none⟩ (.int .i64 x)).setCell ⟨N + 1 + 1, 1, none⟩ (.int .i64 y)) := by
  have h := ((hw.keep hb (by omega)).set 0 (.int .i64 x)).set 1 (.int .i64 y)
  exact ⟨h.cells 0 _ rfl, h.cells 1 _ rfl, ((hb0.trans (hb.mono (by omega))).setCell (p := ⟨N + 1 + 1, 0, none⟩) (by show N ≤ N + 1 + 1; omega) _).setCell (p := ⟨N + 1 + 1, 1, none⟩) (by show N ≤ N + 1 + 1; omega) _⟩

theorem fargs_any (m : Img) (f : Nat) (x : Mth) (h : Hnd) (w : World) (H : ImgIn w w.heap.size h m) (hx : m.methods[f]? = some x) :
    Calls Try.prog 78 #[imgV h m, .int .i64 f] w (SomeTypes x.args w) := by
  have HW := Lib.hid ((Below.refl w.heap.size w).alloc (Nat.le_refl _) (imgO h m))
  have HI := Lib.hid (H.now HW.out)
  have HBX := Lib.hid (img_box w h m)
  clear H
  go_enter Try.func78, Try.ntmps78
  go_upto_region 1 with fail
  generalize w.alloc (imgO h m) = w1 at *
  obtain ⟨q0, q1, q2, q3, q4, q5, q6⟩ := HBX.out
  have HX0 : Hid (Below w1.heap.size w1 w1) := Lib.hid (Below.refl _ _)
  go_upto_region 2 with (go_at_call 53; (with_reducible refine (fatmth_is HI HX0 hx).mono ?_); rintro e w2 ⟨hn, rfl, hm, hb⟩; have HM2 := Lib.hid hm; have HB2 := Lib.hid hb; clear hm hb)
  have HC := Lib.hid (cells_new w2 (mthL hn x) 52)
  have HA : Hid (Below w2.heap.size w2 (w2.alloc (.cells (mthL hn x).toArray 52))) := Lib.hid ((Below.refl _ _).alloc (Nat.le_refl _) _)
  have HM3 := Lib.hid (HM2.out.now HA.out)
  have HW3 := Lib.hid (HW.out.trans ((HB2.out.trans (HA.out.mono HB2.out.size)).mono HW.out.size))
  generalize w2.alloc (.cells (mthL hn x).toArray 52) = w3 at *
  have c0 := HC.out 0 _ rfl
  go_wp2_with fail
  go_ret
  exact ⟨_, _, rfl, HM3.out.args, HW3.out⟩
theorem fargs_is {m : Img} {h : Hnd} {w0 w : World} {f : Nat} {x : Mth} (HI : Hid (ImgIn w0 w0.heap.size h m)) (HX : Hid (Below w0.heap.size w0 w)) (hx : m.methods[f]? = some x) :
    Calls Try.prog 78 #[imgV h m, .int .i64 f] w (SomeTypes x.args w) := fargs_any m f x h w (HI.out.now HX.out) hx

theorem fresult_any (m : Img) (f : Nat) (x : Mth) (h : Hnd) (w : World) (H : ImgIn w w.heap.size h m) (hx : m.methods[f]? = some x) :
    Calls Try.prog 81 #[imgV h m, .int .i64 f] w (SomeTypes (givesOf x) w) := by
  have HW := Lib.hid ((Below.refl w.heap.size w).alloc (Nat.le_refl _) (imgO h m))
  have HI := Lib.hid (H.now HW.out)
  have HBX := Lib.hid (img_box w h m)
  have HLE := Lib.hid hx
  clear H hx
  by_cases h5 : x.ret.1 = 5
  · have e : givesOf x = [] := by unfold givesOf; rw [if_pos h5]
    rw [e]
    have H5 := Lib.hid h5
    clear e h5
    go_enter Try.func81, Try.ntmps81
    go_upto_region 1 with fail
    generalize w.alloc (imgO h m) = w1 at *
    obtain ⟨q0, q1, q2, q3, q4, q5, q6⟩ := HBX.out
    have HX0 : Hid (Below w1.heap.size w1 w1) := Lib.hid (Below.refl _ _)
    go_upto_region 2 with (go_at_call 53; (with_reducible refine (fatmth_is HI HX0 HLE.out).mono ?_); rintro e w2 ⟨hn, rfl, hm, hb⟩; have HM2 := Lib.hid hm; have HB2 := Lib.hid hb; clear hm hb)
    have HC := Lib.hid (cells_new w2 (mthL hn x) 52)
    have HA : Hid (Below w2.heap.size w2 (w2.alloc (.cells (mthL hn x).toArray 52))) := Lib.hid ((Below.refl _ _).alloc (Nat.le_refl _) _)
    have HZ : Hid (w2.heap.size < (w2.alloc (.cells (mthL hn x).toArray 52)).heap.size) := Lib.hid (by simp)
    have HW3 := Lib.hid (HW.out.trans ((HB2.out.trans (HA.out.mono HB2.out.size)).mono HW.out.size))
    generalize w2.alloc (.cells (mthL hn x).toArray 52) = w3 at *
    have c2 := HC.out 2 _ rfl
    have c3 := HC.out 3 _ rfl
    have hz := HZ.out
    rw [H5.out] at c2
    go_wp2_with fail
    go_ret
    exact ⟨none, 0, rfl, slc_none, HW3.out⟩
  · have e : givesOf x = [x.ret] := by unfold givesOf; rw [if_neg h5]
    rw [e]
    clear e
    go_enter Try.func81, Try.ntmps81
    go_upto_region 1 with fail
    generalize w.alloc (imgO h m) = w1 at *
    obtain ⟨q0, q1, q2, q3, q4, q5, q6⟩ := HBX.out
    have HX0 : Hid (Below w1.heap.size w1 w1) := Lib.hid (Below.refl _ _)
    go_upto_region 2 with (go_at_call 53; (with_reducible refine (fatmth_is HI HX0 HLE.out).mono ?_); rintro e w2 ⟨hn, rfl, hm, hb⟩; have HM2 := Lib.hid hm; have HB2 := Lib.hid hb; clear hm hb)
    have HC := Lib.hid (cells_new w2 (mthL hn x) 52)
    have HA : Hid (Below w2.heap.size w2 (w2.alloc (.cells (mthL hn x).toArray 52))) := Lib.hid ((Below.refl _ _).alloc (Nat.le_refl _) _)
    have HZ : Hid (w2.heap.size < (w2.alloc (.cells (mthL hn x).toArray 52)).heap.size) := Lib.hid (by simp)
    have HW3 := Lib.hid (HW.out.trans ((HB2.out.trans (HA.out.mono HB2.out.size)).mono HW.out.size))
    generalize w2.alloc (.cells (mthL hn x).toArray 52) = w3 at *
    have c2 := HC.out 2 _ rfl
    have c3 := HC.out 3 _ rfl
    have hz := HZ.out
    go_wp2_with fail
    go_ret
    refine ⟨_, _, rfl, new_t1 (by simp; try omega) (by go_simp) (by go_simp), HW3.out.trans ((Below.refl _ _).alloc (HW3.out.size) _)⟩
theorem fresult_is {m : Img} {h : Hnd} {w0 w : World} {f : Nat} {x : Mth} (HI : Hid (ImgIn w0 w0.heap.size h m)) (HX : Hid (Below w0.heap.size w0 w)) (hx : m.methods[f]? = some x) :
    Calls Try.prog 81 #[imgV h m, .int .i64 f] w (SomeTypes (givesOf x) w) := fresult_any m f x h w (HI.out.now HX.out) hx

theorem fslot_any (m : Img) (op a b : Int) (k : Nat) (h : Hnd) (w : World) (H : ImgIn w w.heap.size h m) (hs : slotOf m.classes a b = some (k : Int)) :
    Calls Try.prog 80 #[imgV h m, insV op a b] w fun e w' => e = .returned (.int .i64 k) ∧ Below w.heap.size w w' := by
  obtain ⟨hw, hp⟩ := two_parts h m op a b w
  have HW := Lib.hid hw
  have HP := Lib.hid hp
  have HI := Lib.hid (H.now hw)
  have HS := Lib.hid hs
  clear hw hp H hs
  go_enter Try.func80, Try.ntmps80
  go_upto_region 1 with fail
  change Code.wp _ _ _ _ (twoW h m op a b w)
  generalize twoW h m op a b w = w1 at *
  obtain ⟨q0, q1, q2, q3, q4, q5, q6⟩ := HP.out.img
  have o1 := HP.out.ins 1 _ rfl
  have o2 := HP.out.ins 2 _ rfl
  have HX0 : Hid (Below w1.heap.size w1 w1) := Lib.hid (Below.refl _ _)
  go_wp2_with (go_at_call 94; (with_reducible refine (cslot_is HI HX0 HS).mono ?_); rintro e w2 ⟨rfl, hb⟩; have HB2 := Lib.hid hb; clear hb; dsimp only [Option.getD, Option.isSome])
  go_ret
  exact ⟨rfl, HW.out.trans (HB2.out.mono HW.out.size)⟩
theorem fslot_is {m : Img} {h : Hnd} {w0 w : World} {op a b : Int} {k : Nat} (HI : Hid (ImgIn w0 w0.heap.size h m)) (HX : Hid (Below w0.heap.size w0 w)) (HS : Hid (slotOf m.classes a b = some (k : Int))) :
    Calls Try.prog 80 #[imgV h m, insV op a b] w fun e w' => e = .returned (.int .i64 k) ∧ Below w.heap.size w w' := fslot_any m op a b k h w (HI.out.now HX.out) HS.out

theorem fstatic_any (m : Img) (op b : Int) (j : Nat) (t : Int × Int) (h : Hnd) (w : World) (H : ImgIn w w.heap.size h m) (hs : m.statics[j]? = some t) :
    Calls Try.prog 77 #[imgV h m, insV op j b] w fun e w' => e = .returned (tyV t.1 t.2) ∧ Below w.heap.size w w' := by
  obtain ⟨hw, hp⟩ := three_parts h m op j b w
  have HW := Lib.hid hw
  have HP := Lib.hid hp
  have HI := Lib.hid (H.now hw)
  have HS := Lib.hid hs
  clear hw hp H hs
  go_enter Try.func77, Try.ntmps77
  go_upto_region 1 with fail
  change Code.wp _ _ _ _ (threeW h m op j b w)
  generalize threeW h m op j b w = w1 at *
  obtain ⟨q0, q1, q2, q3, q4, q5, q6⟩ := HP.out.img
  have o1 := HP.out.ins 1 _ rfl
  go_upto_region 2 with (go_at_call 92; (with_reducible refine (fattyp_is HI.out.statics HS.out).mono ?_); rintro e w2 ⟨rfl, hb⟩; have HB2 := Lib.hid hb; clear hb)
  have hA : Below w2.heap.size w2 (w2.alloc (.cells #[.int .i64 t.1, .int .i64 t.2] 39)) := (Below.refl _ _).alloc (Nat.le_refl _) _
  have HC := Lib.hid (cells_new w2 [.int .i64 t.1, .int .i64 t.2] 39)
  have HB3 := Lib.hid (HB2.out.trans (hA.mono HB2.out.size))
  clear hA
  generalize w2.alloc (.cells #[.int .i64 t.1, .int .i64 t.2] 39) = w3 at *
  have c0 := HC.out 0 _ rfl
  have c1 := HC.out 1 _ rfl
  have hq := HP.out.res.keep HB3.out HP.out.res.lt
  have f0 := hq.free 0
  have f1 := hq.free 1
  have r0 := hq.cells 0 _ rfl
  have r1 := hq.cells 1 _ rfl
  clear hq
  go_wp2_with fail
  obtain ⟨d0, d1, db⟩ := res_set (x := t.1) (y := t.2) HW.out HB3.out HP.out.res.lt HP.out.res
  exact bodyPost_ret (v := tyV t.1 t.2) (by simp [results, Try.results77, go_sem, d0, d1]) rfl ⟨rfl, db⟩
theorem fstatic_is {m : Img} {h : Hnd} {w0 w : World} {op b : Int} {j : Nat} {t : Int × Int} (HI : Hid (ImgIn w0 w0.heap.size h m)) (HX : Hid (Below w0.heap.size w0 w)) (HS : Hid (m.statics[j]? = some t)) :
    Calls Try.prog 77 #[imgV h m, insV op j b] w fun e w' => e = .returned (tyV t.1 t.2) ∧ Below w.heap.size w w' := fstatic_any m op b j t h w (HI.out.now HX.out) HS.out

theorem flocal_any (m : Img) (op a b : Int) (f : Nat) (x : Mth) (t : Int × Int) (h : Hnd) (w : World) (H : ImgIn w w.heap.size h m) (hx : m.methods[f]? = some x) (hs : a ≤ 9223372036854775807) (ht : localOf x a = t) :
    Calls Try.prog 75 #[imgV h m, insV op a b, .int .i64 f] w fun e w' => e = .returned (tyV t.1 t.2) ∧ Below w.heap.size w w' := by
  subst ht
  obtain ⟨hw, hp⟩ := three_parts h m op a b w
  have HW := Lib.hid hw
  have HP := Lib.hid hp
  have HI := Lib.hid (H.now hw)
  have HLE := Lib.hid hx
  clear hw hp H hx
  go_enter Try.func75, Try.ntmps75
  go_upto_region 1 with fail
  change Code.wp _ _ _ _ (threeW h m op a b w)
  generalize threeW h m op a b w = w1 at *
  obtain ⟨q0, q1, q2, q3, q4, q5, q6⟩ := HP.out.img
  have HX0 : Hid (Below w1.heap.size w1 w1) := Lib.hid (Below.refl _ _)
  go_upto_region 2 with (go_at_call 53; (with_reducible refine (fatmth_is HI HX0 HLE.out).mono ?_); rintro e w2 ⟨hn, rfl, hm, hb⟩; have HM2 := Lib.hid hm; have HB2 := Lib.hid hb; clear hm hb)
  have HC := Lib.hid (cells_new w2 (mthL hn x) 52)
  have HA : Hid (Below w2.heap.size w2 (w2.alloc (.cells (mthL hn x).toArray 52))) := Lib.hid ((Below.refl _ _).alloc (Nat.le_refl _) _)
  have HM3 := Lib.hid (HM2.out.now HA.out)
  have HB3 := Lib.hid (HB2.out.trans (HA.out.mono HB2.out.size))
  generalize w2.alloc (.cells (mthL hn x).toArray 52) = w3 at *
  have c0 := HC.out 0 _ rfl
  have c1 := HC.out 1 _ rfl
  have c2 := HC.out 2 _ rfl
  have c3 := HC.out 3 _ rfl
  have c4 := HC.out 4 _ rfl
  have c5 := HC.out 5 _ rfl
  have c6 := HC.out 6 _ rfl
  have c7 := HC.out 7 _ rfl
  have o1 := (HP.out.ins.keep HB3.out (by have := HP.out.size; omega)) 1 _ rfl
  clear HC
  go_wp2_with (go_at_call 91; (with_reducible refine (clocal_any x a hs hn w3 HM3.out).mono ?_); rintro e w4 ⟨rfl, hb⟩; have HB4 := Lib.hid (HB3.out.trans (hb.mono HB3.out.size)); have hq := HP.out.res.keep HB4.out HP.out.res.lt; have f0 := hq.free 0; have f1 := hq.free 1; have r0 := hq.cells 0 _ rfl; have r1 := hq.cells 1 _ rfl; clear hq hb)
  generalize localOf x a = t at *
  obtain ⟨d0, d1, db⟩ := res_set (x := t.1) (y := t.2) HW.out HB4.out HP.out.res.lt HP.out.res
  exact bodyPost_ret (v := tyV t.1 t.2) (by simp [results, Try.results75, go_sem, d0, d1]) rfl ⟨rfl, db⟩
theorem flocal_is {m : Img} {h : Hnd} {w0 w : World} {op a b : Int} {f : Nat} {x : Mth} {t : Int × Int} (HI : Hid (ImgIn w0 w0.heap.size h m)) (HX : Hid (Below w0.heap.size w0 w)) (hx : m.methods[f]? = some x) (hs : a ≤ 9223372036854775807) (HT : Hid (localOf x a = t)) :
    Calls Try.prog 75 #[imgV h m, insV op a b, .int .i64 f] w fun e w' => e = .returned (tyV t.1 t.2) ∧ Below w.heap.size w w' := flocal_any m op a b f x t h w (HI.out.now HX.out) hx hs HT.out
end Go.Proofs.Ytgpmdhdooglkfaa
