/-
  What the program's numbers that may have grown too great come to: of, plus, times.
-/
import Derived.Test.YtncbmjpfbkngdaaLinNum
import Derived.Outline
import Derived.Deep.Cut
import Derived.IntWalk
import Derived.RegionTactic
import Derived.ChangeAlike
import Derived.Deep.RegionHeld3
import Derived.Deep.QuietTactic
import Derived.BigQuiet
namespace Go.Proofs.Ytncbmjpfbkngdaa
set_option maxRecDepth 100000
set_option linter.unusedVariables false
set_option linter.unusedSimpArgs false
open Go.ChangeShapes Go.WideShapes Go.ChangeAt Go.RowKit
set_option linter.unusedVariables false
set_option linter.unusedSimpArgs false

theorem of_any (n : Int) (w : World) : Calls Try.prog 19 #[.int .i64 n] w fun e w' => e = .returned (numV (ofO n)) ∧ Below w.heap.size w w' := by
  by_cases h1 : n ≤ -4611686018427387904
  · have e : ofO n = none := by unfold ofO; rw [if_neg]; intro g; have := fine_iff.mp g; omega
    rw [e]
    clear e
    go_enter Try.func19, Try.ntmps19
    go_wp2_with fail
    have hz := Whole.new w [.int .i64 0, .bool true] 49
    have k0 := hz.cells 0 _ rfl
    have k1 := hz.cells 1 _ rfl
    refine bodyPost_ret (v := numV none) (by simp [results, Try.results19, go_sem, k0, k1]) rfl ⟨rfl, ?_⟩
    exact (Below.refl w.heap.size w).alloc (Nat.le_refl _) _
  by_cases h2 : n ≥ 4611686018427387904
  · have e : ofO n = none := by unfold ofO; rw [if_neg]; intro g; have := fine_iff.mp g; omega
    rw [e]
    clear e
    go_enter Try.func19, Try.ntmps19
    go_wp2_with fail
    have hz := Whole.new w [.int .i64 0, .bool true] 49
    have k0 := hz.cells 0 _ rfl
    have k1 := hz.cells 1 _ rfl
    refine bodyPost_ret (v := numV none) (by simp [results, Try.results19, go_sem, k0, k1]) rfl ⟨rfl, ?_⟩
    exact (Below.refl w.heap.size w).alloc (Nat.le_refl _) _
  · have e : ofO n = some n := by unfold ofO; rw [if_pos]; exact fine_iff.mpr (by omega)
    rw [e]
    clear e
    go_enter Try.func19, Try.ntmps19
    go_wp2_with fail
    have hz := Whole.new w [.int .i64 n, .bool false] 49
    have k0 := hz.cells 0 _ rfl
    have k1 := hz.cells 1 _ rfl
    refine bodyPost_ret (v := numV (some n)) (by simp [results, Try.results19, go_sem, k0, k1]) rfl ⟨rfl, ?_⟩
    exact (Below.refl w.heap.size w).alloc (Nat.le_refl _) _
theorem of_is {n : Int} {r : Option Int} {w : World} (HR : Hid (ofO n = r)) : Calls Try.prog 19 #[.int .i64 n] w fun e w' => e = .returned (numV r) ∧ Below w.heap.size w w' := by
  have H := of_any n w
  rw [HR.out] at H
  exact H
set_option maxHeartbeats 800000 in
theorem plus_any (a b : Option Int) (ha : FineO a) (hb : FineO b) (w : World) : Calls Try.prog 22 #[numV a, numV b] w fun e w' => e = .returned (numV (addO a b)) ∧ Below w.heap.size w w' := by
  cases a with
  | none =>
    have e : addO none b = none := by cases b <;> rfl
    rw [e]
    show Calls Try.prog 22 #[.agg #[.int .i64 0, .bool true], .agg #[.int .i64 (b.getD 0), .bool b.isNone]] w _
    generalize b.getD 0 = y
    generalize b.isNone = yb
    go_enter Try.func22, Try.ntmps22
    go_wp2_with fail
    have hz := Whole.at_ (w := (w.alloc (.cells #[.int .i64 0, .bool true] 49)).alloc (.cells #[.int .i64 y, .bool yb] 49)) (N := w.heap.size + 1 + 1) (by simp) [.int .i64 0, .bool true] 49
    have k0 := hz.cells 0 _ rfl
    have k1 := hz.cells 1 _ rfl
    refine bodyPost_ret (v := numV none) (by simp [results, Try.results22, go_sem, k0, k1]) rfl ⟨rfl, ?_⟩
    exact (((Below.refl w.heap.size w).alloc (Nat.le_refl _) _).alloc (by simp) _).alloc (by simp; omega) _
  | some x => cases b with
    | none =>
      show Calls Try.prog 22 #[.agg #[.int .i64 x, .bool false], .agg #[.int .i64 0, .bool true]] w (fun e w' => e = .returned (numV none) ∧ Below w.heap.size w w')
      go_enter Try.func22, Try.ntmps22
      go_wp2_with fail
      have hz := Whole.at_ (w := (w.alloc (.cells #[.int .i64 x, .bool false] 49)).alloc (.cells #[.int .i64 0, .bool true] 49)) (N := w.heap.size + 1 + 1) (by simp) [.int .i64 0, .bool true] 49
      have k0 := hz.cells 0 _ rfl
      have k1 := hz.cells 1 _ rfl
      refine bodyPost_ret (v := numV none) (by simp [results, Try.results22, go_sem, k0, k1]) rfl ⟨rfl, ?_⟩
      exact (((Below.refl w.heap.size w).alloc (Nat.le_refl _) _).alloc (by simp) _).alloc (by simp; omega) _
    | some y =>
      have h1 := fine_iff.mp (ha x rfl)
      have h2 := fine_iff.mp (hb y rfl)
      have hw : IntKind.i64.wrap (x + y) = x + y := IntWalk.i64_in _ (by omega)
      show Calls Try.prog 22 #[.agg #[.int .i64 x, .bool false], .agg #[.int .i64 y, .bool false]] w (fun e w' => e = .returned (numV (ofO (x + y))) ∧ Below w.heap.size w w')
      obtain ⟨r, hr⟩ : ∃ r, ofO (x + y) = r := ⟨_, rfl⟩
      have HR := Lib.hid hr
      rw [hr]
      clear hr ha hb
      go_enter Try.func22, Try.ntmps22
      go_wp2_with (first | (go_at_call 19; (with_reducible refine (of_is HR).mono ?_); rintro e w9 ⟨rfl, hb⟩; have hW := (Whole.at_ (w := _) (N := w.heap.size + 1 + 1) (by simp) [.int .i64 0, .bool false] 49).keep hb (by simp); have HW := Lib.hid hW; have z0 := hW.cells 0 _ rfl; have z1 := hW.cells 1 _ rfl; have f0 := hW.free 0; have f1 := hW.free 1; have HB := Lib.hid ((((((Below.refl w.heap.size w).alloc (Nat.le_refl _) _).alloc (by simp) _).alloc (by simp; omega) _).trans (hb.mono (by simp; omega)))); clear hb hW))
      have hz := (HW.out.set 0 (.int .i64 (r.getD 0))).set 1 (.bool r.isNone)
      have k0 := hz.cells 0 _ rfl
      have k1 := hz.cells 1 _ rfl
      refine bodyPost_ret (v := numV r) (by simp [results, Try.results22, go_sem, k0, k1]) rfl ⟨rfl, ?_⟩
      exact (HB.out.setCell (p := ⟨w.heap.size + 1 + 1, 0, none⟩) (by simp; omega) _).setCell (p := ⟨w.heap.size + 1 + 1, 1, none⟩) (by simp; omega) _
theorem plus_is {a b r : Option Int} {w : World} (HA : Hid (FineO a)) (HB : Hid (FineO b)) (HR : Hid (addO a b = r)) : Calls Try.prog 22 #[numV a, numV b] w fun e w' => e = .returned (numV r) ∧ Below w.heap.size w w' := by
  have H := plus_any a b HA.out HB.out w
  rw [HR.out] at H
  exact H
set_option maxHeartbeats 800000 in
theorem times_any (a b : Option Int) (ha : FineO a) (hb : FineO b) (w : World) : Calls Try.prog 23 #[numV a, numV b] w fun e w' => e = .returned (numV (mulO a b)) ∧ Below w.heap.size w w' := by
  cases a with
  | none =>
    have e : mulO none b = none := by cases b <;> rfl
    rw [e]
    show Calls Try.prog 23 #[.agg #[.int .i64 0, .bool true], .agg #[.int .i64 (b.getD 0), .bool b.isNone]] w _
    generalize b.getD 0 = y
    generalize b.isNone = yb
    go_enter Try.func23, Try.ntmps23
    go_wp2_with fail
    have hz := Whole.at_ (w := (w.alloc (.cells #[.int .i64 0, .bool true] 49)).alloc (.cells #[.int .i64 y, .bool yb] 49)) (N := w.heap.size + 1 + 1) (by simp) [.int .i64 0, .bool true] 49
    have k0 := hz.cells 0 _ rfl
    have k1 := hz.cells 1 _ rfl
    refine bodyPost_ret (v := numV none) (by simp [results, Try.results23, go_sem, k0, k1]) rfl ⟨rfl, ?_⟩
    exact (((Below.refl w.heap.size w).alloc (Nat.le_refl _) _).alloc (by simp) _).alloc (by simp; omega) _
  | some x => cases b with
    | none =>
      show Calls Try.prog 23 #[.agg #[.int .i64 x, .bool false], .agg #[.int .i64 0, .bool true]] w (fun e w' => e = .returned (numV none) ∧ Below w.heap.size w w')
      go_enter Try.func23, Try.ntmps23
      go_wp2_with fail
      have hz := Whole.at_ (w := (w.alloc (.cells #[.int .i64 x, .bool false] 49)).alloc (.cells #[.int .i64 0, .bool true] 49)) (N := w.heap.size + 1 + 1) (by simp) [.int .i64 0, .bool true] 49
      have k0 := hz.cells 0 _ rfl
      have k1 := hz.cells 1 _ rfl
      refine bodyPost_ret (v := numV none) (by simp [results, Try.results23, go_sem, k0, k1]) rfl ⟨rfl, ?_⟩
      exact (((Below.refl w.heap.size w).alloc (Nat.le_refl _) _).alloc (by simp) _).alloc (by simp; omega) _
    | some y =>
      have HX := Lib.hid (ha x rfl)
      have HY := Lib.hid (hb y rfl)
      show Calls Try.prog 23 #[.agg #[.int .i64 x, .bool false], .agg #[.int .i64 y, .bool false]] w (fun e w' => e = .returned (numV (ofO (x * y))) ∧ Below w.heap.size w w')
      obtain ⟨n, hn⟩ : ∃ n, IntKind.i64.wrap (x * y) = n := ⟨_, rfl⟩
      clear ha hb
      by_cases h0 : y = 0
      · have hd : (y != 0) = false := by simp [h0]
        have hr : ofO (x * y) = some 0 := by rw [h0, Int.mul_zero]; rfl
        have hn0 : n = 0 := by rw [← hn, h0, Int.mul_zero]; rfl
        have HR : Hid (ofO n = some 0) := Lib.hid (by rw [hn0]; rfl)
        rw [hr]
        clear hr hn0 h0
        go_enter Try.func23, Try.ntmps23
        go_upto_region 4 with fail
        go_quiet (fail)
        go_wp2_with (first | (go_at_call 19; (with_reducible refine (of_is HR).mono ?_); rintro e w9 ⟨rfl, hb⟩; have hW := ((Whole.at_ (w := _) (N := w.heap.size + 1 + 1) (by simp) [.int .i64 0, .bool false] 49).keep (below_drewN' (Below.refl (w.heap.size + 1 + 1 + 1) _) _) (by simp)).keep hb (by simp); have HW := Lib.hid hW; have z0 := hW.cells 0 _ rfl; have z1 := hW.cells 1 _ rfl; have f0 := hW.free 0; have f1 := hW.free 1; have HB := Lib.hid ((below_drewN' (((((Below.refl w.heap.size w).alloc (Nat.le_refl _) _).alloc (by simp) _).alloc (by simp; omega) _)) _).trans (hb.mono (by simp; omega))); clear hb hW))
        have hz := (HW.out.set 0 (.int .i64 0)).set 1 (.bool false)
        have k0 := hz.cells 0 _ rfl
        have k1 := hz.cells 1 _ rfl
        refine bodyPost_ret (v := numV (some 0)) (by simp [results, Try.results23, go_sem, k0, k1]) rfl ⟨rfl, ?_⟩
        exact (HB.out.setCell (p := ⟨w.heap.size + 1 + 1, 0, none⟩) (by simp; omega) _).setCell (p := ⟨w.heap.size + 1 + 1, 1, none⟩) (by simp; omega) _
      · have hd : (y != 0) = true := by simp [h0]
        have ⟨hq, _⟩ := wrap_quo HX.out HY.out h0 hn
        have ⟨hp1, hp2⟩ := mul_prog HX.out HY.out h0 hn
        obtain ⟨q, hqv⟩ : ∃ q, Int.tdiv n y = q := ⟨_, rfl⟩
        rw [hqv] at hq hp1 hp2
        have hwq : IntKind.i64.wrap q = q := IntWalk.i64_in _ (by omega)
        by_cases hqx : q = x
        · have hb : (q != x) = false := by simp [hqx]
          have hnx : ofO (x * y) = ofO n := by rw [hp2 hqx]
          obtain ⟨r, hr⟩ : ∃ r, ofO n = r := ⟨_, rfl⟩
          rw [hnx, hr]
          have HR := Lib.hid hr
          have HQ := Lib.hid hqx
          clear hr hnx hp1 hp2 hqx
          go_enter Try.func23, Try.ntmps23
          go_upto_region 4 with fail
          go_quiet (fail)
          go_wp2_with (first | (go_at_call 19; (with_reducible refine (of_is HR).mono ?_); rintro e w9 ⟨rfl, hb⟩; have hW := ((Whole.at_ (w := _) (N := w.heap.size + 1 + 1) (by simp) [.int .i64 0, .bool false] 49).keep (below_drewN' (Below.refl (w.heap.size + 1 + 1 + 1) _) _) (by simp)).keep hb (by simp); have HW := Lib.hid hW; have z0 := hW.cells 0 _ rfl; have z1 := hW.cells 1 _ rfl; have f0 := hW.free 0; have f1 := hW.free 1; have HB := Lib.hid ((below_drewN' (((((Below.refl w.heap.size w).alloc (Nat.le_refl _) _).alloc (by simp) _).alloc (by simp; omega) _)) _).trans (hb.mono (by simp; omega))); clear hb hW))
          have hz := (HW.out.set 0 (.int .i64 (r.getD 0))).set 1 (.bool r.isNone)
          have k0 := hz.cells 0 _ rfl
          have k1 := hz.cells 1 _ rfl
          refine bodyPost_ret (v := numV r) (by simp [results, Try.results23, go_sem, k0, k1]) rfl ⟨rfl, ?_⟩
          exact (HB.out.setCell (p := ⟨w.heap.size + 1 + 1, 0, none⟩) (by simp; omega) _).setCell (p := ⟨w.heap.size + 1 + 1, 1, none⟩) (by simp; omega) _
        · have hb : (q != x) = true := by simp [hqx]
          have hr : ofO (x * y) = none := by unfold ofO; rw [hp1 hqx]; rfl
          rw [hr]
          clear hr hp1 hp2 hqx
          go_enter Try.func23, Try.ntmps23
          go_upto_region 4 with fail
          go_quiet (fail)
          go_wp2_with fail
          have hz := (((Whole.at_ (w := (w.alloc (.cells #[.int .i64 x, .bool false] 49)).alloc (.cells #[.int .i64 y, .bool false] 49)) (N := w.heap.size + 1 + 1) (by simp) [.int .i64 0, .bool false] 49).keep (below_drewN' (Below.refl (w.heap.size + 1 + 1 + 1) _) nq) (by simp)).set 0 (.int .i64 0)).set 1 (.bool true)
          have k0 := hz.cells 0 _ rfl
          have k1 := hz.cells 1 _ rfl
          refine bodyPost_ret (v := numV none) (by simp [results, Try.results23, go_sem, k0, k1]) rfl ⟨rfl, ?_⟩
          exact ((below_drewN' (((((Below.refl w.heap.size w).alloc (Nat.le_refl _) _).alloc (by simp) _).alloc (by simp; omega) _)) _).setCell (p := ⟨w.heap.size + 1 + 1, 0, none⟩) (by simp; omega) _).setCell (p := ⟨w.heap.size + 1 + 1, 1, none⟩) (by simp; omega) _
theorem times_is {a b r : Option Int} {w : World} (HA : Hid (FineO a)) (HB : Hid (FineO b)) (HR : Hid (mulO a b = r)) : Calls Try.prog 23 #[numV a, numV b] w fun e w' => e = .returned (numV r) ∧ Below w.heap.size w w' := by
  have H := times_any a b HA.out HB.out w
  rw [HR.out] at H
  exact H
end Go.Proofs.Ytncbmjpfbkngdaa
