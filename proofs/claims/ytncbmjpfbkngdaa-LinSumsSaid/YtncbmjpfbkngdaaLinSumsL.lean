/-
  The statement on inequalities put together (LinSums), walked: it answers true at any inequalities, numbers and number.
-/
import Derived.Test.YtncbmjpfbkngdaaLinWords2
import Derived.Deep.Cut
import Derived.IntWalk
import Derived.RegionTactic
import Derived.ChangeAlike
import Derived.Deep.RegionHeld3
import Derived.Deep.QuietTactic
import Derived.BigQuiet
namespace Go.Proofs.Ytncbmjpfbkngdaa
set_option maxRecDepth 100000
set_option linter.unusedVariables false
set_option linter.unusedSimpArgs false
open Go.ChangeShapes Go.WideShapes Go.ChangeAt Go.RowKit
set_option linter.unusedVariables false
set_option linter.unusedSimpArgs false

set_option maxHeartbeats 6400000 in
theorem linSums_any (list : List Inq) (times : List Int) (vars : Int) (A B : Option Addr) (c d : Nat) (w : World) (hl : SlcIs IneqAt 2 w w.heap.size A c list) (ht : SlcIs IntAt 1 w w.heap.size B d times) :
    Calls Try.prog 3 #[.slice A list.length c, .slice B times.length d, .int .i64 vars] w fun e w' => e = .returned (.bool true) ∧ Below w.heap.size w w' := by
  have H1 := Lib.hid hl
  have H2 := Lib.hid ht
  have HX : Hid (Below w.heap.size w w) := Lib.hid (Below.refl _ _)
  obtain ⟨n, hn⟩ : ∃ n, list.length = n := ⟨_, rfl⟩
  obtain ⟨k, hk⟩ : ∃ n, times.length = n := ⟨_, rfl⟩
  have HLN := Lib.hid hn
  have HN : Hid (list.length = n ∧ times.length = k) := Lib.hid ⟨hn, hk⟩
  rw [hn, hk]
  obtain ⟨r, hr⟩ : ∃ r, fewQ list = r := ⟨_, rfl⟩
  have HF := Lib.hid hr
  obtain ⟨S, hS⟩ : ∃ S, sumR list times vars = S := ⟨_, rfl⟩
  have HS := Lib.hid hS
  clear hl ht hn hk hr hS
  go_enter Try.func3, Try.ntmps3
  cases r
  · go_wp2_with (first | (go_at_call 9; (with_reducible refine (few14_is (Lib.hid (lslcUp IneqAt.keeps H1.out HX.out)) HLN HF).mono ?_); rintro e w7 ⟨rfl, he⟩; subst he) | (go_at_call 10; (with_reducible refine (linAwake_any _).mono ?_); rintro e wk ⟨rfl, hb⟩; have HX := Lib.hid (HX.out.trans (hb.mono HX.out.size)); clear hb))
    go_ret
    exact ⟨by first | rfl | simp, HX.out⟩
  cases S with
  | none =>
    go_upto_region 4 with (first | (go_at_call 9; (with_reducible refine (few14_is (Lib.hid (lslcUp IneqAt.keeps H1.out HX.out)) HLN HF).mono ?_); rintro e w7 ⟨rfl, he⟩; subst he) | (go_at_call 11; (with_reducible refine (lsum_no H1 H2 HX HN HF HS).mono ?_); rintro e w7 ⟨A7, c7, rfl, hb⟩; have HX := Lib.hid (HX.out.trans (hb.mono HX.out.size)); clear hb))
    have HC := Lib.hid (cells_new w7 [.slice A7 0 c7, .int .i64 0] 27)
    have HX : Hid (Below w.heap.size w (w7.alloc (.cells #[.slice A7 0 c7, .int .i64 0] 27))) := Lib.hid (HX.out.alloc HX.out.size _)
    have HZ7 : Hid (w7.heap.size < (w7.alloc (.cells #[.slice A7 0 c7, .int .i64 0] 27)).heap.size) := Lib.hid (by simp)
    change Hid (Cells (w7.alloc (.cells #[.slice A7 0 c7, .int .i64 0] 27)) w7.heap.size [.slice A7 0 c7, .int .i64 0]) at HC
    change Code.wp _ _ _ _ (w7.alloc (.cells #[.slice A7 0 c7, .int .i64 0] 27))
    generalize w7.alloc (.cells #[.slice A7 0 c7, .int .i64 0] 27) = w8 at *
    go_upto_region 5 with (first | (go_at_call 12; (with_reducible refine (rsum_no H1 H2 HX HN HF HS).mono ?_); rintro e w9 ⟨A9, c9, rfl, hb⟩; have HX := Lib.hid (HX.out.trans (hb.mono HX.out.size)); have HC := Lib.hid (HC.out.keep hb HZ7.out); have HZ7 := Lib.hid (Nat.lt_of_lt_of_le HZ7.out hb.size); clear hb))
    have HX : Hid (Below w.heap.size w (w9.alloc (.cells #[.slice A9 0 c9, .int .i64 0] 27))) := Lib.hid (HX.out.alloc HX.out.size _)
    have HC : Hid (Cells (w9.alloc (.cells #[.slice A9 0 c9, .int .i64 0] 27)) w7.heap.size [.slice A7 0 c7, .int .i64 0]) := Lib.hid (HC.out.keep ((Below.refl w9.heap.size w9).alloc (Nat.le_refl _) _) HZ7.out)
    have HZ7 : Hid (w7.heap.size < (w9.alloc (.cells #[.slice A9 0 c9, .int .i64 0] 27)).heap.size) := Lib.hid (by have := HZ7.out; simp; omega)
    change Code.wp _ _ _ _ (w9.alloc (.cells #[.slice A9 0 c9, .int .i64 0] 27))
    generalize w9.alloc (.cells #[.slice A9 0 c9, .int .i64 0] 27) = w10 at *
    go_wp2_with (first | (go_at_call 10; (with_reducible refine (linAwake_any _).mono ?_); rintro e wk ⟨rfl, hb⟩; have HX := Lib.hid (HX.out.trans (hb.mono HX.out.size)); have HC := Lib.hid (HC.out.keep hb HZ7.out); have d0 := HC.out 0 _ rfl; have d1 := HC.out 1 _ rfl; clear hb))
    go_ret
    exact ⟨by first | rfl | simp, HX.out⟩
  | some q =>
    obtain ⟨L, x⟩ := q
    obtain ⟨nl, hnl⟩ : ∃ n, L.length = n := ⟨_, rfl⟩
    have HNL := Lib.hid hnl
    clear hnl
    go_upto_region 4 with (first | (go_at_call 9; (with_reducible refine (few14_is (Lib.hid (lslcUp IneqAt.keeps H1.out HX.out)) HLN HF).mono ?_); rintro e w7 ⟨rfl, he⟩; subst he) | (go_at_call 11; (with_reducible refine (lsum_yes H1 H2 HX HN HF HS HNL).mono ?_); rintro e w7 ⟨A7, c7, rfl, hb, hs⟩; have HX := Lib.hid (HX.out.trans (hb.mono HX.out.size)); have HS7 := Lib.hid hs; clear hb hs))
    have HC := Lib.hid (cells_new w7 [.slice A7 nl c7, .int .i64 x] 27)
    have HX : Hid (Below w.heap.size w (w7.alloc (.cells #[.slice A7 nl c7, .int .i64 x] 27))) := Lib.hid (HX.out.alloc HX.out.size _)
    have HZ7 : Hid (w7.heap.size < (w7.alloc (.cells #[.slice A7 nl c7, .int .i64 x] 27)).heap.size) := Lib.hid (by simp)
    have HS7 : Hid (SlcIs IntAt 1 (w7.alloc (.cells #[.slice A7 nl c7, .int .i64 x] 27)) (w7.alloc (.cells #[.slice A7 nl c7, .int .i64 x] 27)).heap.size A7 c7 L) := Lib.hid (lslcUp IntAt.keeps HS7.out ((Below.refl w7.heap.size w7).alloc (Nat.le_refl _) _))
    change Hid (Cells (w7.alloc (.cells #[.slice A7 nl c7, .int .i64 x] 27)) w7.heap.size [.slice A7 nl c7, .int .i64 x]) at HC
    change Code.wp _ _ _ _ (w7.alloc (.cells #[.slice A7 nl c7, .int .i64 x] 27))
    generalize w7.alloc (.cells #[.slice A7 nl c7, .int .i64 x] 27) = w8 at *
    go_upto_region 5 with (first | (go_at_call 12; (with_reducible refine (rsum_yes H1 H2 HX HN HF HS HNL).mono ?_); rintro e w9 ⟨A9, c9, rfl, hb, hs⟩; have HX := Lib.hid (HX.out.trans (hb.mono HX.out.size)); have HC := Lib.hid (HC.out.keep hb HZ7.out); have HZ7 := Lib.hid (Nat.lt_of_lt_of_le HZ7.out hb.size); have HS7 := Lib.hid (lslcUp IntAt.keeps HS7.out hb); have HS9 := Lib.hid hs; clear hb hs))
    have HX : Hid (Below w.heap.size w (w9.alloc (.cells #[.slice A9 nl c9, .int .i64 x] 27))) := Lib.hid (HX.out.alloc HX.out.size _)
    have HC : Hid (Cells (w9.alloc (.cells #[.slice A9 nl c9, .int .i64 x] 27)) w7.heap.size [.slice A7 nl c7, .int .i64 x]) := Lib.hid (HC.out.keep ((Below.refl w9.heap.size w9).alloc (Nat.le_refl _) _) HZ7.out)
    have HC9 : Hid (Cells (w9.alloc (.cells #[.slice A9 nl c9, .int .i64 x] 27)) w9.heap.size [.slice A9 nl c9, .int .i64 x]) := Lib.hid (cells_new w9 [.slice A9 nl c9, .int .i64 x] 27)
    have HZ9 : Hid (w9.heap.size < (w9.alloc (.cells #[.slice A9 nl c9, .int .i64 x] 27)).heap.size) := Lib.hid (by simp)
    have HZ7 : Hid (w7.heap.size < (w9.alloc (.cells #[.slice A9 nl c9, .int .i64 x] 27)).heap.size) := Lib.hid (by have := HZ7.out; simp; omega)
    have HS7 : Hid (SlcIs IntAt 1 (w9.alloc (.cells #[.slice A9 nl c9, .int .i64 x] 27)) (w9.alloc (.cells #[.slice A9 nl c9, .int .i64 x] 27)).heap.size A7 c7 L) := Lib.hid (lslcUp IntAt.keeps HS7.out ((Below.refl w9.heap.size w9).alloc (Nat.le_refl _) _))
    have HS9 : Hid (SlcIs IntAt 1 (w9.alloc (.cells #[.slice A9 nl c9, .int .i64 x] 27)) (w9.alloc (.cells #[.slice A9 nl c9, .int .i64 x] 27)).heap.size A9 c9 L) := Lib.hid (lslcUp IntAt.keeps HS9.out ((Below.refl w9.heap.size w9).alloc (Nat.le_refl _) _))
    change Code.wp _ _ _ _ (w9.alloc (.cells #[.slice A9 nl c9, .int .i64 x] 27))
    generalize w9.alloc (.cells #[.slice A9 nl c9, .int .i64 x] 27) = w10 at *
    have HSS : Hid (sameB (L, x) (L, x) = true) := Lib.hid (same_self _)
    go_wp2_with (first | (go_at_call 10; (with_reducible refine (linAwake_any _).mono ?_); rintro e wk ⟨rfl, hb⟩; have HX := Lib.hid (HX.out.trans (hb.mono HX.out.size)); have HC := Lib.hid (HC.out.keep hb HZ7.out); have HC9 := Lib.hid (HC9.out.keep hb HZ9.out); have HS7 := Lib.hid (lslcUp IntAt.keeps HS7.out hb); have HS9 := Lib.hid (lslcUp IntAt.keeps HS9.out hb); have d0 := HC.out 0 _ rfl; have d1 := HC.out 1 _ rfl; have e0 := HC9.out 0 _ rfl; have e1 := HC9.out 1 _ rfl; clear hb) | (go_at_call 13; (with_reducible refine (rsame14_is HS7 HS9 (Lib.hid ⟨HNL.out, HNL.out⟩) (Lib.hid (same_self _))).mono ?_); rintro e w11 ⟨rfl, hb⟩; have HX := Lib.hid (HX.out.trans (hb.mono HX.out.size)); clear hb))
    go_ret
    exact ⟨by first | rfl | simp, HX.out⟩
end Go.Proofs.Ytncbmjpfbkngdaa
