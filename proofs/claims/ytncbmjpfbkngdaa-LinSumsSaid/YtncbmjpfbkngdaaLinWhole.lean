/-
  What a sum comes to in the end.
-/
import Derived.Test.YtncbmjpfbkngdaaLinAdd
import Derived.Test.YtncbmjpfbkngdaaNumsIn
import Derived.Deep.OwnRows
import Derived.ChangeOld
namespace Go.Proofs.Ytncbmjpfbkngdaa
set_option maxRecDepth 100000
set_option linter.unusedVariables false
set_option linter.unusedSimpArgs false
open Go.ChangeShapes Go.WideShapes Go.ChangeAt Go.RowKit
set_option linter.unusedVariables false
set_option linter.unusedSimpArgs false

theorem info_intW : (Try.prog.info? 3).map (fun i => (i.zero, i.size, i.bytes)) = some (some (.int .i64 0), 1, 8) := by kernel_rfl
theorem NumsIn.offR {w : World} {g : Nat} {O : List Int} (h : NumsIn w g O) {p : Addr} (hp : g ≠ p.block) (v : Value) : NumsIn (w.setCell p v) g O := Whole.offR h hp v
def valsO (X : List (Option Int)) : List Int := X.map fun x => x.getD 0
/-- A sum, unless something is too great. -/
def wholeR (s : Option Int) (X : List (Option Int)) : Option Inq := match s with
  | none => none
  | some m => if X.all Option.isSome = true then some (valsO X, m) else none
theorem whole_bad {s : Option Int} {X : List (Option Int)} (h : none ∈ X) : wholeR s X = none := by
  cases s with
  | none => rfl
  | some m =>
    show (if X.all Option.isSome = true then _ else _) = _
    rw [if_neg]
    intro g
    have := List.all_eq_true.mp g none h
    cases this
theorem whole_good {m : Int} {X : List (Option Int)} (h : ∀ x ∈ X, x.isSome = true) : wholeR (some m) X = some (valsO X, m) := by
  show (if X.all Option.isSome = true then _ else _) = _
  rw [if_pos (List.all_eq_true.mpr h)]
theorem made_ints (n : Nat) : madeCells #[Value.int .i64 0] n = ((List.replicate n (0 : Int)).map (Value.int .i64)).toArray := by
  apply Array.toList_inj.mp
  have := made_one (z := .int .i64 0) (v := .int .i64 0) rfl n
  rw [Nat.mul_one] at this
  rw [List.map_replicate]
  exact this
theorem vals_at {X : List (Option Int)} {v : Nat} {y : Int} (h : X[v]? = some (some y)) : (valsO X)[v]? = some y := by
  unfold valsO
  rw [List.getElem?_map, h]
  rfl
theorem sum_no {B : Nat} {r : Option Inq} {w w' : World} (hr : r = none) (hb : Below w.heap.size w w') : SumOut 14 r w (.returned (.tuple #[.agg #[.slice none 0 0, .int .i64 0], .int .i64 14])) w' := by
  subst hr
  exact ⟨none, 0, 14, rfl, hb, slc_none, rfl, fun ad e => by cases e⟩
set_option maxHeartbeats 3200000 in
theorem lwhole_any (s : Option Int) (X : List (Option Int)) (g r n : Nat) (w : World) (hg : Whole w g [.slice (some ⟨r, 0, none⟩) n n, .int .i64 (s.getD 0), .bool s.isNone] 51) (hr : Whole w r (numsV X) 49) (hXn : X.length = n) (hn : n ≤ 64) :
    Calls Try.prog 20 #[.pointer (some ⟨g, 0, none⟩)] w (SumOut 14 (wholeR s X) w) := by
  have HG := Lib.hid hg
  have HR := Lib.hid hr
  have HXN := Lib.hid hXn
  have HGL := Lib.hid hg.lt
  have HRL := Lib.hid hr.lt
  clear hg hr hXn
  have HW1 : Hid (Whole (w.alloc (.cells #[.slice none 0 0, .int .i64 0] 27)) w.heap.size [.slice none 0 0, .int .i64 0] 27) := Lib.hid (Whole.new w _ 27)
  have HX1 : Hid (Below w.heap.size w (w.alloc (.cells #[.slice none 0 0, .int .i64 0] 27))) := Lib.hid ((Below.refl w.heap.size w).alloc (Nat.le_refl _) _)
  have HS1 : Hid ((w.alloc (.cells #[.slice none 0 0, .int .i64 0] 27)).heap.size = w.heap.size + 1) := Lib.hid (by simp)
  go_enter Try.func20, Try.ntmps20
  go_upto_region 1 with fail
  generalize w.alloc (.cells #[.slice none 0 0, .int .i64 0] 27) = w1 at *
  replace HG := Lib.hid (HG.out.keep HX1.out HGL.out)
  replace HR := Lib.hid (HR.out.keep HX1.out HRL.out)
  have g0 := HG.out.cells 0 _ rfl
  have g1 := HG.out.cells 1 _ rfl
  have g2 := HG.out.cells 2 _ rfl
  have k0 := HW1.out.cells 0 _ rfl
  have k1 := HW1.out.cells 1 _ rfl
  have f0 := HW1.out.free 0
  have f1 := HW1.out.free 1
  cases s with
  | none =>
    replace g1 : w1.cell? ⟨g, 1, none⟩ = some (.int .i64 0) := g1
    replace g2 : w1.cell? ⟨g, 2, none⟩ = some (.bool true) := g2
    go_wp2_with fail
    have hz := (HW1.out.set 0 (.slice none 0 0)).set 1 (.int .i64 0)
    have z0 := hz.cells 0 _ rfl
    have z1 := hz.cells 1 _ rfl
    refine bodyPost_ret (v := .tuple #[.agg #[.slice none 0 0, .int .i64 0], .int .i64 14]) (by simp [results, Try.results20, go_sem, z0, z1]) rfl (sum_no (B := 0) rfl ?_)
    exact (HX1.out.setCell (p := ⟨w.heap.size, 0, none⟩) (Nat.le_refl _) _).setCell (p := ⟨w.heap.size, 1, none⟩) (Nat.le_refl _) _
  | some m =>
    replace g1 : w1.cell? ⟨g, 1, none⟩ = some (.int .i64 m) := g1
    replace g2 : w1.cell? ⟨g, 2, none⟩ = some (.bool false) := g2
    have hmk := run_make_row' (P := Try.prog) 23 3 (.int .i64 0) 8 Try.underlying23 info_intW rfl .i64 .i64 n (by omega) (by omega)
    go_upto_region 3 with fail
    have hgl := HG.out.lt
    go_region
    · have HO : Hid (NumsIn ((w1.alloc (.cells (madeCells #[Value.int .i64 0] n) 3)).alloc (.cells #[.slice (some ⟨w1.heap.size, 0, none⟩) n n, .int .i64 m] 27)).drew w1.heap.size (mixO (valsO X) (List.replicate n 0) 0)) := Lib.hid (by
        show Whole _ _ ((List.replicate n 0).map (Value.int .i64)) _
        rw [made_ints]
        exact (Whole.new w1 _ _).keep (((Below.refl (w1.heap.size + 1) _).alloc (by simp) _).drew) (by omega))
      have HQ : Hid (Whole ((w1.alloc (.cells (madeCells #[Value.int .i64 0] n) 3)).alloc (.cells #[.slice (some ⟨w1.heap.size, 0, none⟩) n n, .int .i64 m] 27)).drew (w1.heap.size + 1) [.slice (some ⟨w1.heap.size, 0, none⟩) n n, .int .i64 m] 27) := Lib.hid ((Whole.at_ (by simp) [.slice (some ⟨w1.heap.size, 0, none⟩) n n, .int .i64 m] 27).drew')
      have HX : Hid (Below w1.heap.size w1 ((w1.alloc (.cells (madeCells #[Value.int .i64 0] n) 3)).alloc (.cells #[.slice (some ⟨w1.heap.size, 0, none⟩) n n, .int .i64 m] 27)).drew) := Lib.hid ((((Below.refl w1.heap.size w1).alloc (Nat.le_refl _) _).alloc (by simp) _).drew)
      generalize ((w1.alloc (.cells (madeCells #[Value.int .i64 0] n) 3)).alloc (.cells #[.slice (some ⟨w1.heap.size, 0, none⟩) n n, .int .i64 m] 27)).drew = w2 at *
      replace g0 := (HG.out.keep HX.out HG.out.lt).cells 0 _ rfl
      clear g1 g2 k0 k1 f0 f1 hmk hgl
      go_wp2_with fail
      clear g0
      go_loopw [30] (fun i wr => ∃ v : Nat, v ≤ n ∧ i = .int .i64 v ∧ Hid (NumsIn wr w1.heap.size (mixO (valsO X) (List.replicate n 0) v)) ∧ Hid (Whole wr (w1.heap.size + 1) [.slice (some ⟨w1.heap.size, 0, none⟩) n n, .int .i64 m] 27) ∧ Hid (Below w1.heap.size w1 wr) ∧ Hid (∀ x ∈ X.take v, x.isSome = true)) (fun i _ => n - (intOf i).toNat)
      case atStart => exact ⟨0, Nat.zero_le _, rfl, HO, HQ, HX, Lib.hid (fun x hx => by simp at hx)⟩
      case round =>
        clear HO HQ HX
        obtain ⟨v, hv, rfl, HO, HQ, HX, HA⟩ := hrel
        by_cases hvn : v < n
        · have hvX : v < X.length := by rw [HXN.out]; exact hvn
          have hxv : X[v]? = some X[v] := List.getElem?_eq_getElem hvX
          obtain ⟨x, hx⟩ : ∃ x, X[v] = x := ⟨_, rfl⟩
          rw [hx] at hxv
          have HXV := Lib.hid hxv
          have HRW := HR.out.keep HX.out HR.out.lt
          have n0 := (nums_at HRW hxv).1
          have n1 := (nums_at HRW hxv).2
          clear hx hxv HRW
          go_upto_region 7 with fail
          have HO5 : Hid (NumsIn (wr.alloc (.cells #[.int .i64 (x.getD 0), .bool x.isNone] 49)) w1.heap.size (mixO (valsO X) (List.replicate n 0) v)) := Lib.hid (HO.out.keep ((Below.refl _ _).alloc (Nat.le_refl _) _))
          have HQ5 : Hid (Whole (wr.alloc (.cells #[.int .i64 (x.getD 0), .bool x.isNone] 49)) (w1.heap.size + 1) [.slice (some ⟨w1.heap.size, 0, none⟩) n n, .int .i64 m] 27) := Lib.hid (HQ.out.keep ((Below.refl _ _).alloc (Nat.le_refl _) _) HQ.out.lt)
          have HX5 : Hid (Below w1.heap.size w1 (wr.alloc (.cells #[.int .i64 (x.getD 0), .bool x.isNone] 49))) := Lib.hid (HX.out.alloc HX.out.size _)
          have HB5 : Hid (Whole (wr.alloc (.cells #[.int .i64 (x.getD 0), .bool x.isNone] 49)) wr.heap.size [.int .i64 (x.getD 0), .bool x.isNone] 49) := Lib.hid (Whole.new wr _ 49)
          have HLT : Hid (w1.heap.size < wr.heap.size) := Lib.hid (Whole.lt HO.out)
          generalize wr.alloc (.cells #[.int .i64 (x.getD 0), .bool x.isNone] 49) = w5 at *
          have b0 := HB5.out.cells 0 _ rfl
          have b1 := HB5.out.cells 1 _ rfl
          have hW5 := HW1.out.keep HX5.out HW1.out.lt
          have k0 := hW5.cells 0 _ rfl
          have k1 := hW5.cells 1 _ rfl
          have f0 := hW5.free 0
          have f1 := hW5.free 1
          have HW5 := Lib.hid hW5
          clear n0 n1 hW5
          cases x with
          | none =>
            replace b1 : w5.cell? ⟨wr.heap.size, 1, none⟩ = some (.bool true) := b1
            have HBAD : Hid (wholeR (some m) X = none) := Lib.hid (whole_bad (List.mem_of_getElem? HXV.out))
            go_wp2_with fail
            have hz := (HW5.out.set 0 (.slice none 0 0)).set 1 (.int .i64 0)
            have z0 := hz.cells 0 _ rfl
            have z1 := hz.cells 1 _ rfl
            refine bodyPost_ret (v := .tuple #[.agg #[.slice none 0 0, .int .i64 0], .int .i64 14]) (by simp [results, Try.results20, go_sem, z0, z1]) rfl (sum_no (B := 0) HBAD.out ?_)
            exact ((HX1.out.trans (HX5.out.mono (by have := HX1.out.size; omega))).setCell (p := ⟨w.heap.size, 0, none⟩) (Nat.le_refl _) _).setCell (p := ⟨w.heap.size, 1, none⟩) (Nat.le_refl _) _
          | some y =>
            replace b0 : w5.cell? ⟨wr.heap.size, 0, none⟩ = some (.int .i64 y) := b0
            replace b1 : w5.cell? ⟨wr.heap.size, 1, none⟩ = some (.bool false) := b1
            have q0 := HQ5.out.cells 0 _ rfl
            have hml : (mixO (valsO X) (List.replicate n 0) v).length = n := mix_len (by unfold valsO; rw [List.length_map]; exact HXN.out) (List.length_replicate ..) hv
            have o0 := HO5.out.at_ (t := v) (by omega)
            have fo := Whole.free HO5.out v
            have HMS : Hid ((mixO (valsO X) (List.replicate n 0) v).set v y = mixO (valsO X) (List.replicate n 0) (v + 1)) := Lib.hid (mix_set (by unfold valsO; rw [List.length_map]; exact HXN.out) (List.length_replicate ..) hvn (vals_at HXV.out))
            have HO6 : Hid (NumsIn (w5.setCell ⟨w1.heap.size, v, none⟩ (.int .i64 y)) w1.heap.size (mixO (valsO X) (List.replicate n 0) (v + 1))) := Lib.hid (HMS.out ▸ HO5.out.set y)
            have HQ6 : Hid (Whole (w5.setCell ⟨w1.heap.size, v, none⟩ (.int .i64 y)) (w1.heap.size + 1) [.slice (some ⟨w1.heap.size, 0, none⟩) n n, .int .i64 m] 27) := Lib.hid (HQ5.out.offR (by show (w1.heap.size + 1) ≠ w1.heap.size; omega) _)
            have HX6 : Hid (Below w1.heap.size w1 (w5.setCell ⟨w1.heap.size, v, none⟩ (.int .i64 y))) := Lib.hid (HX5.out.setCell (p := ⟨w1.heap.size, v, none⟩) (by show w1.heap.size ≤ w1.heap.size; omega) _)
            have HA6 : Hid (∀ x ∈ X.take (v + 1), x.isSome = true) := Lib.hid (fun x hx => by
              rw [List.take_add_one, HXV.out] at hx
              rcases List.mem_append.mp hx with q | q
              · exact HA.out x q
              · simp at q; rw [q]; rfl)
            clear hml
            go_wp2_with fail
            go_roundw
            case rel => exact ⟨v + 1, by omega, by go_num, HO6, HQ6, HX6, HA6⟩
            case measure => simp [intOf]; omega
        · obtain rfl : v = n := by omega
          have hvi : ¬ (v : Int) < (v : Int) := by omega
          have HE : Hid (wholeR (some m) X = some (valsO X, m)) := Lib.hid (whole_good (fun x hx => HA.out x (by rw [List.take_of_length_le (by rw [HXN.out]; exact Nat.le_refl _)]; exact hx)))
          have hVL : (valsO X).length = v := by unfold valsO; rw [List.length_map]; exact HXN.out
          have hO := HO.out
          rw [mix_all hVL (List.length_replicate ..)] at hO
          have HO2 := Lib.hid hO
          have HVL := Lib.hid hVL
          have q0 := HQ.out.cells 0 _ rfl
          have q1 := HQ.out.cells 1 _ rfl
          have hW5 := HW1.out.keep HX.out HW1.out.lt
          have k0 := hW5.cells 0 _ rfl
          have k1 := hW5.cells 1 _ rfl
          have f0 := hW5.free 0
          have f1 := hW5.free 1
          have HW5 := Lib.hid hW5
          have HSZ := Lib.hid HX1.out.size
          clear hO hVL hW5
          go_wp2_with fail
          have hz := (HW5.out.set 0 (.slice (some ⟨w1.heap.size, 0, none⟩) v v)).set 1 (.int .i64 m)
          have z0 := hz.cells 0 _ rfl
          have z1 := hz.cells 1 _ rfl
          refine bodyPost_ret (v := .tuple #[.agg #[.slice (some ⟨w1.heap.size, 0, none⟩) v v, .int .i64 m], .int .i64 0]) (by simp [results, Try.results20, go_sem, z0, z1]) rfl ?_
          rw [HE.out]
          have hlt : w.heap.size ≠ w1.heap.size := by have := HS1.out; omega
          refine ⟨some ⟨w1.heap.size, 0, none⟩, v, 0, by show _ = Ending.returned (.tuple #[.agg #[.slice _ (valsO X).length _, _], _]); rw [HVL.out]; rfl, ((HX1.out.trans (HX.out.mono HSZ.out)).setCell (p := ⟨w.heap.size, 0, none⟩) (Nat.le_refl _) _).setCell (p := ⟨w.heap.size, 1, none⟩) (Nat.le_refl _) _, ?_, rfl, fun ad e => by injection e with e; subst e; show w.heap.size ≤ w1.heap.size; have := HSZ.out; omega⟩
          exact NumsIn.slc (NumsIn.offR (NumsIn.offR HO2.out (p := ⟨w.heap.size, 0, none⟩) (Ne.symm hlt) _) (p := ⟨w.heap.size, 1, none⟩) (Ne.symm hlt) _) HVL.out (by omega)
    · have HO : Hid (NumsIn ((w1.alloc (.cells #[.slice (some ⟨w1.heap.size + 1, 0, none⟩) n n, .int .i64 m] 27)).alloc (.cells (madeCells #[Value.int .i64 0] n) 3)).drew (w1.heap.size + 1) (mixO (valsO X) (List.replicate n 0) 0)) := Lib.hid (by
        show Whole _ _ ((List.replicate n 0).map (Value.int .i64)) _
        rw [made_ints]
        exact (Whole.at_ (by simp) _ _).drew')
      have HQ : Hid (Whole ((w1.alloc (.cells #[.slice (some ⟨w1.heap.size + 1, 0, none⟩) n n, .int .i64 m] 27)).alloc (.cells (madeCells #[Value.int .i64 0] n) 3)).drew w1.heap.size [.slice (some ⟨(w1.heap.size + 1), 0, none⟩) n n, .int .i64 m] 27) := Lib.hid (((Whole.new w1 [.slice (some ⟨w1.heap.size + 1, 0, none⟩) n n, .int .i64 m] 27).keep (((Below.refl (w1.heap.size + 1) _).alloc (by simp) _).drew) (by omega)))
      have HX : Hid (Below w1.heap.size w1 ((w1.alloc (.cells #[.slice (some ⟨w1.heap.size + 1, 0, none⟩) n n, .int .i64 m] 27)).alloc (.cells (madeCells #[Value.int .i64 0] n) 3)).drew) := Lib.hid ((((Below.refl w1.heap.size w1).alloc (Nat.le_refl _) _).alloc (by simp) _).drew)
      generalize ((w1.alloc (.cells #[.slice (some ⟨w1.heap.size + 1, 0, none⟩) n n, .int .i64 m] 27)).alloc (.cells (madeCells #[Value.int .i64 0] n) 3)).drew = w2 at *
      replace g0 := (HG.out.keep HX.out HG.out.lt).cells 0 _ rfl
      clear g1 g2 k0 k1 f0 f1 hmk hgl
      go_wp2_with fail
      clear g0
      go_loopw [30] (fun i wr => ∃ v : Nat, v ≤ n ∧ i = .int .i64 v ∧ Hid (NumsIn wr (w1.heap.size + 1) (mixO (valsO X) (List.replicate n 0) v)) ∧ Hid (Whole wr w1.heap.size [.slice (some ⟨(w1.heap.size + 1), 0, none⟩) n n, .int .i64 m] 27) ∧ Hid (Below w1.heap.size w1 wr) ∧ Hid (∀ x ∈ X.take v, x.isSome = true)) (fun i _ => n - (intOf i).toNat)
      case atStart => exact ⟨0, Nat.zero_le _, rfl, HO, HQ, HX, Lib.hid (fun x hx => by simp at hx)⟩
      case round =>
        clear HO HQ HX
        obtain ⟨v, hv, rfl, HO, HQ, HX, HA⟩ := hrel
        by_cases hvn : v < n
        · have hvX : v < X.length := by rw [HXN.out]; exact hvn
          have hxv : X[v]? = some X[v] := List.getElem?_eq_getElem hvX
          obtain ⟨x, hx⟩ : ∃ x, X[v] = x := ⟨_, rfl⟩
          rw [hx] at hxv
          have HXV := Lib.hid hxv
          have HRW := HR.out.keep HX.out HR.out.lt
          have n0 := (nums_at HRW hxv).1
          have n1 := (nums_at HRW hxv).2
          clear hx hxv HRW
          go_upto_region 7 with fail
          have HO5 : Hid (NumsIn (wr.alloc (.cells #[.int .i64 (x.getD 0), .bool x.isNone] 49)) (w1.heap.size + 1) (mixO (valsO X) (List.replicate n 0) v)) := Lib.hid (HO.out.keep ((Below.refl _ _).alloc (Nat.le_refl _) _))
          have HQ5 : Hid (Whole (wr.alloc (.cells #[.int .i64 (x.getD 0), .bool x.isNone] 49)) w1.heap.size [.slice (some ⟨(w1.heap.size + 1), 0, none⟩) n n, .int .i64 m] 27) := Lib.hid (HQ.out.keep ((Below.refl _ _).alloc (Nat.le_refl _) _) HQ.out.lt)
          have HX5 : Hid (Below w1.heap.size w1 (wr.alloc (.cells #[.int .i64 (x.getD 0), .bool x.isNone] 49))) := Lib.hid (HX.out.alloc HX.out.size _)
          have HB5 : Hid (Whole (wr.alloc (.cells #[.int .i64 (x.getD 0), .bool x.isNone] 49)) wr.heap.size [.int .i64 (x.getD 0), .bool x.isNone] 49) := Lib.hid (Whole.new wr _ 49)
          have HLT : Hid ((w1.heap.size + 1) < wr.heap.size) := Lib.hid (Whole.lt HO.out)
          generalize wr.alloc (.cells #[.int .i64 (x.getD 0), .bool x.isNone] 49) = w5 at *
          have b0 := HB5.out.cells 0 _ rfl
          have b1 := HB5.out.cells 1 _ rfl
          have hW5 := HW1.out.keep HX5.out HW1.out.lt
          have k0 := hW5.cells 0 _ rfl
          have k1 := hW5.cells 1 _ rfl
          have f0 := hW5.free 0
          have f1 := hW5.free 1
          have HW5 := Lib.hid hW5
          clear n0 n1 hW5
          cases x with
          | none =>
            replace b1 : w5.cell? ⟨wr.heap.size, 1, none⟩ = some (.bool true) := b1
            have HBAD : Hid (wholeR (some m) X = none) := Lib.hid (whole_bad (List.mem_of_getElem? HXV.out))
            go_wp2_with fail
            have hz := (HW5.out.set 0 (.slice none 0 0)).set 1 (.int .i64 0)
            have z0 := hz.cells 0 _ rfl
            have z1 := hz.cells 1 _ rfl
            refine bodyPost_ret (v := .tuple #[.agg #[.slice none 0 0, .int .i64 0], .int .i64 14]) (by simp [results, Try.results20, go_sem, z0, z1]) rfl (sum_no (B := 0) HBAD.out ?_)
            exact ((HX1.out.trans (HX5.out.mono (by have := HX1.out.size; omega))).setCell (p := ⟨w.heap.size, 0, none⟩) (Nat.le_refl _) _).setCell (p := ⟨w.heap.size, 1, none⟩) (Nat.le_refl _) _
          | some y =>
            replace b0 : w5.cell? ⟨wr.heap.size, 0, none⟩ = some (.int .i64 y) := b0
            replace b1 : w5.cell? ⟨wr.heap.size, 1, none⟩ = some (.bool false) := b1
            have q0 := HQ5.out.cells 0 _ rfl
            have hml : (mixO (valsO X) (List.replicate n 0) v).length = n := mix_len (by unfold valsO; rw [List.length_map]; exact HXN.out) (List.length_replicate ..) hv
            have o0 := HO5.out.at_ (t := v) (by omega)
            have fo := Whole.free HO5.out v
            have HMS : Hid ((mixO (valsO X) (List.replicate n 0) v).set v y = mixO (valsO X) (List.replicate n 0) (v + 1)) := Lib.hid (mix_set (by unfold valsO; rw [List.length_map]; exact HXN.out) (List.length_replicate ..) hvn (vals_at HXV.out))
            have HO6 : Hid (NumsIn (w5.setCell ⟨(w1.heap.size + 1), v, none⟩ (.int .i64 y)) (w1.heap.size + 1) (mixO (valsO X) (List.replicate n 0) (v + 1))) := Lib.hid (HMS.out ▸ HO5.out.set y)
            have HQ6 : Hid (Whole (w5.setCell ⟨(w1.heap.size + 1), v, none⟩ (.int .i64 y)) w1.heap.size [.slice (some ⟨(w1.heap.size + 1), 0, none⟩) n n, .int .i64 m] 27) := Lib.hid (HQ5.out.offR (by show w1.heap.size ≠ (w1.heap.size + 1); omega) _)
            have HX6 : Hid (Below w1.heap.size w1 (w5.setCell ⟨(w1.heap.size + 1), v, none⟩ (.int .i64 y))) := Lib.hid (HX5.out.setCell (p := ⟨(w1.heap.size + 1), v, none⟩) (by show w1.heap.size ≤ (w1.heap.size + 1); omega) _)
            have HA6 : Hid (∀ x ∈ X.take (v + 1), x.isSome = true) := Lib.hid (fun x hx => by
              rw [List.take_add_one, HXV.out] at hx
              rcases List.mem_append.mp hx with q | q
              · exact HA.out x q
              · simp at q; rw [q]; rfl)
            clear hml
            go_wp2_with fail
            go_roundw
            case rel => exact ⟨v + 1, by omega, by go_num, HO6, HQ6, HX6, HA6⟩
            case measure => simp [intOf]; omega
        · obtain rfl : v = n := by omega
          have hvi : ¬ (v : Int) < (v : Int) := by omega
          have HE : Hid (wholeR (some m) X = some (valsO X, m)) := Lib.hid (whole_good (fun x hx => HA.out x (by rw [List.take_of_length_le (by rw [HXN.out]; exact Nat.le_refl _)]; exact hx)))
          have hVL : (valsO X).length = v := by unfold valsO; rw [List.length_map]; exact HXN.out
          have hO := HO.out
          rw [mix_all hVL (List.length_replicate ..)] at hO
          have HO2 := Lib.hid hO
          have HVL := Lib.hid hVL
          have q0 := HQ.out.cells 0 _ rfl
          have q1 := HQ.out.cells 1 _ rfl
          have hW5 := HW1.out.keep HX.out HW1.out.lt
          have k0 := hW5.cells 0 _ rfl
          have k1 := hW5.cells 1 _ rfl
          have f0 := hW5.free 0
          have f1 := hW5.free 1
          have HW5 := Lib.hid hW5
          have HSZ := Lib.hid HX1.out.size
          clear hO hVL hW5
          go_wp2_with fail
          have hz := (HW5.out.set 0 (.slice (some ⟨(w1.heap.size + 1), 0, none⟩) v v)).set 1 (.int .i64 m)
          have z0 := hz.cells 0 _ rfl
          have z1 := hz.cells 1 _ rfl
          refine bodyPost_ret (v := .tuple #[.agg #[.slice (some ⟨(w1.heap.size + 1), 0, none⟩) v v, .int .i64 m], .int .i64 0]) (by simp [results, Try.results20, go_sem, z0, z1]) rfl ?_
          rw [HE.out]
          have hlt : w.heap.size ≠ (w1.heap.size + 1) := by have := HS1.out; omega
          refine ⟨some ⟨(w1.heap.size + 1), 0, none⟩, v, 0, by show _ = Ending.returned (.tuple #[.agg #[.slice _ (valsO X).length _, _], _]); rw [HVL.out]; rfl, ((HX1.out.trans (HX.out.mono HSZ.out)).setCell (p := ⟨w.heap.size, 0, none⟩) (Nat.le_refl _) _).setCell (p := ⟨w.heap.size, 1, none⟩) (Nat.le_refl _) _, ?_, rfl, fun ad e => by injection e with e; subst e; show w.heap.size ≤ (w1.heap.size + 1); have := HSZ.out; omega⟩
          exact NumsIn.slc (NumsIn.offR (NumsIn.offR HO2.out (p := ⟨w.heap.size, 0, none⟩) (Ne.symm hlt) _) (p := ⟨w.heap.size, 1, none⟩) (Ne.symm hlt) _) HVL.out (by omega)
end Go.Proofs.Ytncbmjpfbkngdaa
