/-
  The type of a local (Local), by the program and by the document.
-/
import Derived.Test.YtcehkmnneimdeaaClassFields
import Derived.Test.YtcehkmnneimdeaaMth
import Derived.Test.YtcehkmnneimdeaaWhole
namespace Go.Proofs.Ytcehkmnneimdeaa
set_option maxRecDepth 100000
set_option linter.unusedVariables false
set_option linter.unusedSimpArgs false
open Go.ChangeShapes Go.WideShapes Go.ChangeAt Go.RowKit

/-- The type of a local, the arguments being the first ones; the zero type, if there is none. -/
def localOf (x : Mth) (n : Int) : Int × Int := if 0 ≤ n then (x.args ++ x.locals)[n.toNat]?.getD (0, 0) else (0, 0)
theorem localOf_neg {x : Mth} {n : Int} (h : n < 0) : localOf x n = (0, 0) := by unfold localOf; rw [if_neg (by omega)]
theorem localOf_arg {x : Mth} {j : Nat} (h : j < x.args.length) : localOf x j = x.args[j] := by
  unfold localOf
  rw [if_pos (by omega), Int.toNat_natCast, List.getElem?_append_left h, List.getElem?_eq_getElem h]
  rfl
theorem localOf_local {x : Mth} {j : Nat} (h : j < x.locals.length) : localOf x ((x.args.length + j : Nat) : Int) = x.locals[j] := by
  unfold localOf
  rw [if_pos (by omega), Int.toNat_natCast, List.getElem?_append_right (by omega), Nat.add_sub_cancel_left, List.getElem?_eq_getElem h]
  rfl
theorem localOf_none {x : Mth} {n : Int} (h : (x.args.length : Int) + x.locals.length ≤ n) : localOf x n = (0, 0) := by
  unfold localOf
  rw [if_pos (by omega), List.getElem?_eq_none (by rw [List.length_append]; omega)]
  rfl

theorem attyp_is {k : Int} {j n cap : Nat} {ad : Addr} {x y : Int} {w : World} (HJ : Hid (k = (j : Int))) (hk : j < n) (hn : n ≤ 9223372036854775807) (hab : ad.block < w.heap.size)
    (r0 : w.cell? (ad.add (j * 2)) = some (.int .i64 x)) (r1 : w.cell? (off_ (ad.add (j * 2)) 1) = some (.int .i64 y)) :
    Calls Try.prog 30 #[.slice (some ad) n cap, .int .i64 k] w fun e w' => e = .returned (.tuple #[tyV x y, .bool true]) ∧ Below w.heap.size w w' := by
  rw [HJ.out]
  exact attyp_yes j n cap ad x y w hk hn hab r0 r1
theorem clocal_arg (x : Mth) (j : Nat) (hj : j < x.args.length) (hx : MHnd) (w : World) (H : MthIn w w.heap.size hx x) :
    Calls Try.prog 18 #[mthV hx x, .int .i64 j] w fun e w' => e = .returned (tyV (localOf x j).1 (localOf x j).2) ∧ Below w.heap.size w w' := by
  have HW := Lib.hid (((Below.refl w.heap.size w).alloc (Nat.le_refl _) (.cells (mthL hx x).toArray 43)).alloc (by simp) (.cells #[.int .i64 0, .int .i64 0] 40))
  have HQ := Lib.hid (show Whole ((w.alloc (.cells (mthL hx x).toArray 43)).alloc (.cells #[.int .i64 0, .int .i64 0] 40)) (w.heap.size + 1) [.int .i64 0, .int .i64 0] 40 from Whole.at_ (by simp) _ _)
  have HC := Lib.hid ((cells_new w (mthL hx x) 43).keep ((Below.refl _ _).alloc (Nat.le_refl _) (.cells #[.int .i64 0, .int .i64 0] 40)) (by simp))
  have HM := Lib.hid (H.now HW.out)
  have h1 := H.args.le
  have h2 := H.args.cap
  have h3 := H.locals.le
  have h4 := H.locals.cap
  have hn63 : x.args.length ≤ 9223372036854775807 := by omega
  have hl63 : x.locals.length ≤ 9223372036854775807 := by omega
  clear H h1 h2 h3 h4
  obtain ⟨ad, e0, hab, r0, r1⟩ := HM.out.args.row.at_ hj
  have HE := Lib.hid e0
  rw [localOf_arg hj]
  generalize x.args[j] = t at *
  clear e0
  go_enter Try.func18, Try.ntmps18
  go_upto_region 1 with fail
  generalize (w.alloc (.cells (mthL hx x).toArray 43)).alloc (.cells #[.int .i64 0, .int .i64 0] 40) = w1 at *
  have q0 := HC.out 0 _ rfl
  have q1 := HC.out 1 _ rfl
  try rw [HE.out] at q0
  try rw [HE1.out] at q1
  have hlt := HQ.out.lt
  clear HC
  go_wp2_with (go_at_call 30; (with_reducible refine (attyp_yes j x.args.length hx.k0 ad t.1 t.2 w1 hj hn63 hab r0 r1).mono ?_); rintro e w2 ⟨rfl, hb⟩; have HB2 := Lib.hid hb; have HQ2 := Lib.hid (HQ.out.keep hb hlt); have c0 := HQ2.out.cells 0 _ rfl; have c1 := HQ2.out.cells 1 _ rfl; have f0 := HQ2.out.free 0; have f1 := HQ2.out.free 1; have hlt2 := HQ2.out.lt; clear hb)
  have HQ3a := (HQ2.out.set 0 (.int .i64 t.1)).set 1 (.int .i64 t.2)
  have HB3 := Lib.hid ((HB2.out.mono HW.out.size).setCell (p := ⟨w.heap.size + 1, 0, none⟩) (by show w.heap.size ≤ w.heap.size + 1; omega) (.int .i64 t.1) |>.setCell (p := ⟨w.heap.size + 1, 1, none⟩) (by show w.heap.size ≤ w.heap.size + 1; omega) (.int .i64 t.2))
  have HQ3 := Lib.hid (Whole.keep HQ3a ((Below.refl _ _).alloc (Nat.le_refl _) (.cells #[.int .i64 t.1, .int .i64 t.2] 40)) HQ3a.lt)
  have d0 := HQ3.out.cells 0 _ rfl
  have d1 := HQ3.out.cells 1 _ rfl
  exact bodyPost_ret (v := tyV t.1 t.2) (by simp [results, Try.results18, go_sem, d0, d1]) rfl ⟨rfl, HW.out.trans (HB3.out.alloc (Nat.le_trans HW.out.size HB3.out.size) _)⟩
theorem clocal_neg (x : Mth) (n : Int) (hn : n < 0) (hx : MHnd) (w : World) (H : MthIn w w.heap.size hx x) :
    Calls Try.prog 18 #[mthV hx x, .int .i64 n] w fun e w' => e = .returned (tyV (localOf x n).1 (localOf x n).2) ∧ Below w.heap.size w w' := by
  have HW := Lib.hid (((Below.refl w.heap.size w).alloc (Nat.le_refl _) (.cells (mthL hx x).toArray 43)).alloc (by simp) (.cells #[.int .i64 0, .int .i64 0] 40))
  have HQ := Lib.hid (show Whole ((w.alloc (.cells (mthL hx x).toArray 43)).alloc (.cells #[.int .i64 0, .int .i64 0] 40)) (w.heap.size + 1) [.int .i64 0, .int .i64 0] 40 from Whole.at_ (by simp) _ _)
  have HC := Lib.hid ((cells_new w (mthL hx x) 43).keep ((Below.refl _ _).alloc (Nat.le_refl _) (.cells #[.int .i64 0, .int .i64 0] 40)) (by simp))
  have HM := Lib.hid (H.now HW.out)
  have h1 := H.args.le
  have h2 := H.args.cap
  have h3 := H.locals.le
  have h4 := H.locals.cap
  have hn63 : x.args.length ≤ 9223372036854775807 := by omega
  have hl63 : x.locals.length ≤ 9223372036854775807 := by omega
  clear H h1 h2 h3 h4
  have hno : n < 0 ∨ (x.args.length : Int) ≤ n := .inl hn
  have hlt0 : n < (x.args.length : Int) := by omega
  rw [localOf_neg hn]
  clear hn
  go_enter Try.func18, Try.ntmps18
  go_upto_region 1 with fail
  generalize (w.alloc (.cells (mthL hx x).toArray 43)).alloc (.cells #[.int .i64 0, .int .i64 0] 40) = w1 at *
  have q0 := HC.out 0 _ rfl
  have q1 := HC.out 1 _ rfl
  try rw [HE.out] at q0
  try rw [HE1.out] at q1
  have hlt := HQ.out.lt
  clear HC
  go_wp2_with (go_at_call 30; (with_reducible refine (attyp_no n x.args.length hx.k0 hx.A0 w1 hn63 hno).mono ?_); rintro e w2 ⟨rfl, hb⟩; have HB2 := Lib.hid hb; have HQ2 := Lib.hid (HQ.out.keep hb hlt); have c0 := HQ2.out.cells 0 _ rfl; have c1 := HQ2.out.cells 1 _ rfl; have f0 := HQ2.out.free 0; have f1 := HQ2.out.free 1; have hlt2 := HQ2.out.lt; clear hb)
  have HQ3a := (HQ2.out.set 0 (.int .i64 ((0 : Int), (0 : Int)).1)).set 1 (.int .i64 ((0 : Int), (0 : Int)).2)
  have HB3 := Lib.hid ((HB2.out.mono HW.out.size).setCell (p := ⟨w.heap.size + 1, 0, none⟩) (by show w.heap.size ≤ w.heap.size + 1; omega) (.int .i64 ((0 : Int), (0 : Int)).1) |>.setCell (p := ⟨w.heap.size + 1, 1, none⟩) (by show w.heap.size ≤ w.heap.size + 1; omega) (.int .i64 ((0 : Int), (0 : Int)).2))
  have HQ3 := Lib.hid (Whole.keep HQ3a ((Below.refl _ _).alloc (Nat.le_refl _) (.cells #[.int .i64 ((0 : Int), (0 : Int)).1, .int .i64 ((0 : Int), (0 : Int)).2] 40)) HQ3a.lt)
  have d0 := HQ3.out.cells 0 _ rfl
  have d1 := HQ3.out.cells 1 _ rfl
  exact bodyPost_ret (v := tyV ((0 : Int), (0 : Int)).1 ((0 : Int), (0 : Int)).2) (by simp [results, Try.results18, go_sem, d0, d1]) rfl ⟨rfl, HW.out.trans (HB3.out.alloc (Nat.le_trans HW.out.size HB3.out.size) _)⟩
theorem clocal_local (x : Mth) (n : Int) (hlt0 : (x.args.length : Int) ≤ n) (hn : n < (x.args.length : Int) + x.locals.length) (hs : n ≤ 9223372036854775807) (hx : MHnd) (w : World) (H : MthIn w w.heap.size hx x) :
    Calls Try.prog 18 #[mthV hx x, .int .i64 n] w fun e w' => e = .returned (tyV (localOf x n).1 (localOf x n).2) ∧ Below w.heap.size w w' := by
  have HW := Lib.hid (((Below.refl w.heap.size w).alloc (Nat.le_refl _) (.cells (mthL hx x).toArray 43)).alloc (by simp) (.cells #[.int .i64 0, .int .i64 0] 40))
  have HQ := Lib.hid (show Whole ((w.alloc (.cells (mthL hx x).toArray 43)).alloc (.cells #[.int .i64 0, .int .i64 0] 40)) (w.heap.size + 1) [.int .i64 0, .int .i64 0] 40 from Whole.at_ (by simp) _ _)
  have HC := Lib.hid ((cells_new w (mthL hx x) 43).keep ((Below.refl _ _).alloc (Nat.le_refl _) (.cells #[.int .i64 0, .int .i64 0] 40)) (by simp))
  have HM := Lib.hid (H.now HW.out)
  have h1 := H.args.le
  have h2 := H.args.cap
  have h3 := H.locals.le
  have h4 := H.locals.cap
  have hn63 : x.args.length ≤ 9223372036854775807 := by omega
  have hl63 : x.locals.length ≤ 9223372036854775807 := by omega
  clear H h1 h2 h3 h4
  obtain ⟨j, hj⟩ := Int.eq_ofNat_of_zero_le (show 0 ≤ n - (x.args.length : Int) by omega)
  have hjl : j < x.locals.length := by omega
  have HJ := Lib.hid hj
  have e2 : n = ((x.args.length + j : Nat) : Int) := by omega
  obtain ⟨ad, e0, hab, r0, r1⟩ := HM.out.locals.row.at_ hjl
  have HE1 := Lib.hid e0
  have e3 : localOf x n = x.locals[j] := by rw [e2]; exact localOf_local hjl
  rw [e3]
  generalize x.locals[j] = t at *
  clear e0 hj e2 e3
  go_enter Try.func18, Try.ntmps18
  go_upto_region 1 with fail
  generalize (w.alloc (.cells (mthL hx x).toArray 43)).alloc (.cells #[.int .i64 0, .int .i64 0] 40) = w1 at *
  have q0 := HC.out 0 _ rfl
  have q1 := HC.out 1 _ rfl
  try rw [HE.out] at q0
  try rw [HE1.out] at q1
  have hlt := HQ.out.lt
  clear HC
  go_wp2_with (go_at_call 30; (with_reducible refine (attyp_is HJ hjl hl63 hab r0 r1).mono ?_); rintro e w2 ⟨rfl, hb⟩; have HB2 := Lib.hid hb; have HQ2 := Lib.hid (HQ.out.keep hb hlt); have c0 := HQ2.out.cells 0 _ rfl; have c1 := HQ2.out.cells 1 _ rfl; have f0 := HQ2.out.free 0; have f1 := HQ2.out.free 1; have hlt2 := HQ2.out.lt; clear hb)
  have HQ3a := (HQ2.out.set 0 (.int .i64 t.1)).set 1 (.int .i64 t.2)
  have HB3 := Lib.hid ((HB2.out.mono HW.out.size).setCell (p := ⟨w.heap.size + 1, 0, none⟩) (by show w.heap.size ≤ w.heap.size + 1; omega) (.int .i64 t.1) |>.setCell (p := ⟨w.heap.size + 1, 1, none⟩) (by show w.heap.size ≤ w.heap.size + 1; omega) (.int .i64 t.2))
  have HQ3 := Lib.hid (Whole.keep HQ3a ((Below.refl _ _).alloc (Nat.le_refl _) (.cells #[.int .i64 t.1, .int .i64 t.2] 40)) HQ3a.lt)
  have d0 := HQ3.out.cells 0 _ rfl
  have d1 := HQ3.out.cells 1 _ rfl
  exact bodyPost_ret (v := tyV t.1 t.2) (by simp [results, Try.results18, go_sem, d0, d1]) rfl ⟨rfl, HW.out.trans (HB3.out.alloc (Nat.le_trans HW.out.size HB3.out.size) _)⟩
theorem clocal_none (x : Mth) (n : Int) (hn : (x.args.length : Int) + x.locals.length ≤ n) (hs : n ≤ 9223372036854775807) (hx : MHnd) (w : World) (H : MthIn w w.heap.size hx x) :
    Calls Try.prog 18 #[mthV hx x, .int .i64 n] w fun e w' => e = .returned (tyV (localOf x n).1 (localOf x n).2) ∧ Below w.heap.size w w' := by
  have HW := Lib.hid (((Below.refl w.heap.size w).alloc (Nat.le_refl _) (.cells (mthL hx x).toArray 43)).alloc (by simp) (.cells #[.int .i64 0, .int .i64 0] 40))
  have HQ := Lib.hid (show Whole ((w.alloc (.cells (mthL hx x).toArray 43)).alloc (.cells #[.int .i64 0, .int .i64 0] 40)) (w.heap.size + 1) [.int .i64 0, .int .i64 0] 40 from Whole.at_ (by simp) _ _)
  have HC := Lib.hid ((cells_new w (mthL hx x) 43).keep ((Below.refl _ _).alloc (Nat.le_refl _) (.cells #[.int .i64 0, .int .i64 0] 40)) (by simp))
  have HM := Lib.hid (H.now HW.out)
  have h1 := H.args.le
  have h2 := H.args.cap
  have h3 := H.locals.le
  have h4 := H.locals.cap
  have hn63 : x.args.length ≤ 9223372036854775807 := by omega
  have hl63 : x.locals.length ≤ 9223372036854775807 := by omega
  clear H h1 h2 h3 h4
  have hno : n - (x.args.length : Int) < 0 ∨ (x.locals.length : Int) ≤ n - (x.args.length : Int) := by omega
  rw [localOf_none hn]
  have hlt0 : (x.args.length : Int) ≤ n := by omega
  go_enter Try.func18, Try.ntmps18
  go_upto_region 1 with fail
  generalize (w.alloc (.cells (mthL hx x).toArray 43)).alloc (.cells #[.int .i64 0, .int .i64 0] 40) = w1 at *
  have q0 := HC.out 0 _ rfl
  have q1 := HC.out 1 _ rfl
  try rw [HE.out] at q0
  try rw [HE1.out] at q1
  have hlt := HQ.out.lt
  clear HC
  go_wp2_with (go_at_call 30; (with_reducible refine (attyp_no (n - (x.args.length : Int)) x.locals.length hx.k1 hx.A1 w1 hl63 hno).mono ?_); rintro e w2 ⟨rfl, hb⟩; have HB2 := Lib.hid hb; have HQ2 := Lib.hid (HQ.out.keep hb hlt); have c0 := HQ2.out.cells 0 _ rfl; have c1 := HQ2.out.cells 1 _ rfl; have f0 := HQ2.out.free 0; have f1 := HQ2.out.free 1; have hlt2 := HQ2.out.lt; clear hb)
  have HQ3a := (HQ2.out.set 0 (.int .i64 ((0 : Int), (0 : Int)).1)).set 1 (.int .i64 ((0 : Int), (0 : Int)).2)
  have HB3 := Lib.hid ((HB2.out.mono HW.out.size).setCell (p := ⟨w.heap.size + 1, 0, none⟩) (by show w.heap.size ≤ w.heap.size + 1; omega) (.int .i64 ((0 : Int), (0 : Int)).1) |>.setCell (p := ⟨w.heap.size + 1, 1, none⟩) (by show w.heap.size ≤ w.heap.size + 1; omega) (.int .i64 ((0 : Int), (0 : Int)).2))
  have HQ3 := Lib.hid (Whole.keep HQ3a ((Below.refl _ _).alloc (Nat.le_refl _) (.cells #[.int .i64 ((0 : Int), (0 : Int)).1, .int .i64 ((0 : Int), (0 : Int)).2] 40)) HQ3a.lt)
  have d0 := HQ3.out.cells 0 _ rfl
  have d1 := HQ3.out.cells 1 _ rfl
  exact bodyPost_ret (v := tyV ((0 : Int), (0 : Int)).1 ((0 : Int), (0 : Int)).2) (by simp [results, Try.results18, go_sem, d0, d1]) rfl ⟨rfl, HW.out.trans (HB3.out.alloc (Nat.le_trans HW.out.size HB3.out.size) _)⟩
theorem clocal_any (x : Mth) (n : Int) (hs : n ≤ 9223372036854775807) (hx : MHnd) (w : World) (H : MthIn w w.heap.size hx x) :
    Calls Try.prog 18 #[mthV hx x, .int .i64 n] w fun e w' => e = .returned (tyV (localOf x n).1 (localOf x n).2) ∧ Below w.heap.size w w' := by
  by_cases h0 : n < 0
  · exact clocal_neg x n h0 hx w H
  · by_cases h1 : n < x.args.length
    · obtain ⟨j, rfl⟩ := Int.eq_ofNat_of_zero_le (show 0 ≤ n by omega)
      exact clocal_arg x j (by omega) hx w H
    · by_cases h2 : n < (x.args.length : Int) + x.locals.length
      · exact clocal_local x n (by omega) h2 hs hx w H
      · exact clocal_none x n (by omega) hs hx w H
end Go.Proofs.Ytcehkmnneimdeaa
