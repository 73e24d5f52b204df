/-
  What the program's own image.Decode is made of: numbers, types, lists, classes, methods that a reader answers.
-/
import Derived.Test.YtikljohgdgibnaaHole
import Derived.Test.YtikljohgdgibnaaGRel
namespace Go.Proofs.Ytikljohgdgibnaa
set_option maxRecDepth 100000
open Go.ChangeShapes Go.WideShapes Go.ChangeAt Go.RowKit
set_option linter.unusedVariables false

/-- A number that was got, from 0 to most. -/
def NGet (N : Nat) (most : Int) (rest : List Int) (bad : Bool) (w : World) (e : Ending) (w' : World) : Prop :=
  ∃ n rest' bad', e = .returned (.int .i64 n) ∧ 0 ≤ n ∧ n ≤ most ∧ Rd w' N rest' bad' ∧ w.grownBy w' (some N) ∧ GRel bytesN (fun n => 0 ≤ n ∧ n ≤ most) rest bad n rest' bad'
def LGet (N : Nat) (rest : List Int) (bad : Bool) (w : World) (e : Ending) (w' : World) : Prop :=
  ∃ n rest' bad', e = .returned (.int .i32 n) ∧ OkL n ∧ Rd w' N rest' bad' ∧ w.grownBy w' (some N) ∧ GRel encL OkL rest bad n rest' bad'
def TGet (N : Nat) (rest : List Int) (bad : Bool) (w : World) (e : Ending) (w' : World) : Prop :=
  ∃ t rest' bad', e = .returned (tyV t.1 t.2) ∧ Rd w' N rest' bad' ∧ w.grownBy w' (some N) ∧ GRel encT (fun t => typB t = true) rest bad t rest' bad'
def IGet (N : Nat) (rest : List Int) (bad : Bool) (w : World) (e : Ending) (w' : World) : Prop :=
  ∃ i rest' bad', e = .returned (insV i.1 i.2.1 i.2.2) ∧ Rd w' N rest' bad' ∧ w.grownBy w' (some N) ∧ GRel encI1 (fun i => instrB i.1 i.2.1 i.2.2 = true) rest bad i rest' bad'
theorem Rd.far {w w' : World} {N : Nat} {rest : List Int} {bad : Bool} (h : Rd w N rest bad) (hb : Below w.heap.size w w') : Rd w' N rest bad := h.keep hb

theorem nget_any (N : Nat) (most : Int) (rest : List Int) (bad : Bool) (w : World) (hb : Bts rest) (hm : 0 ≤ most) (hm2 : most ≤ 34359738367) (h : Rd w N rest bad) :
    Calls Try.prog 83 #[.pointer (some ⟨N, 0, none⟩), .int .i64 most] w (NGet N most rest bad w) :=
  (bget_side N N rest bad most w hb.1 hb.2 (Nat.le_refl _) h).mono fun e w' hh => by
    have hg := side_grown hh
    obtain ⟨⟨rfl, hrd, _⟩, _⟩ := hh
    obtain ⟨g1, g2, g3⟩ := getR_grel hb hm hm2 (rfl : getR rest bad most = ((getR rest bad most).1, (getR rest bad most).2.1, (getR rest bad most).2.2))
    exact ⟨_, _, _, rfl, g1, g2, hrd, hg, g3⟩
theorem lget0_any (N : Nat) (rest : List Int) (bad : Bool) (w : World) (hb : Bts rest) (h : Rd w N rest bad) :
    Calls Try.prog 92 #[.pointer (some ⟨N, 0, none⟩)] w (LGet N rest bad w) :=
  (breadlong_side N N rest bad w hb.1 hb.2 (Nat.le_refl _) h).mono fun e w' hh => by
    have hg := side_grown hh
    obtain ⟨⟨rfl, hrd, _⟩, _⟩ := hh
    obtain ⟨g1, g2, g3⟩ := getR_grel hb (by decide) (by decide) (rfl : getR rest bad 4294967295 = ((getR rest bad 4294967295).1, (getR rest bad 4294967295).2.1, (getR rest bad 4294967295).2.2))
    exact ⟨_, _, _, rfl, zag_range g1 g2, hrd, hg, g3.long g1⟩
theorem iget2_any (N : Nat) (rest : List Int) (bad : Bool) (w : World) (hb : Bts rest) (h : Rd w N rest bad) :
    Calls Try.prog 94 #[.pointer (some ⟨N, 0, none⟩)] w (IGet N rest bad w) :=
  (iget_far N N rest bad w hb.1 hb.2 (Nat.le_refl _) h).mono fun e w' hh => by
    obtain ⟨⟨op, a, b, rfl, hrd, _, hv⟩, hg⟩ := hh
    obtain ⟨r, h1, h2⟩ := getI_grel hb hv
    refine ⟨(op, a, b), r, _, rfl, ?_, hg, h1⟩
    cases hbad : (getI rest bad).2.2
    · rw [h2 hbad]; rw [hbad] at hrd; exact hrd
    · rw [hbad] at hrd; exact hrd.more
theorem lget_any (N : Nat) (rest : List Int) (bad : Bool) (w : World) (hb : Bts rest) (h : Rd w N rest bad) :
    Calls Try.prog 78 #[.pointer (some ⟨N, 0, none⟩)] w (LGet N rest bad w) := by
  have HB := Lib.hid hb
  have HR := Lib.hid h
  clear hb h
  go_enter Try.func78, Try.ntmps78
  go_wp2_with (go_at_call 92; (with_reducible refine (lget0_any _ _ _ _ HB.out HR.out).mono ?_); rintro e w1 ⟨n, r1, b1, rfl, h1⟩; have H1 := Lib.hid h1; clear h1)
  go_ret
  exact ⟨n, r1, b1, rfl, H1.out⟩
theorem mget_any (N : Nat) (rest : List Int) (bad : Bool) (w : World) (hb : Bts rest) (h : Rd w N rest bad) :
    Calls Try.prog 82 #[.pointer (some ⟨N, 0, none⟩)] w (NGet N 11 rest bad w) := by
  have HB := Lib.hid hb
  have HR := Lib.hid h
  clear hb h
  go_enter Try.func82, Try.ntmps82
  go_wp2_with (go_at_call 83; (with_reducible refine (nget_any _ _ _ _ _ HB.out (by decide) (by decide) HR.out).mono ?_); rintro e w1 ⟨n, r1, b1, rfl, h1⟩; have H1 := Lib.hid h1; clear h1)
  go_ret
  exact ⟨n, r1, b1, rfl, H1.out⟩
theorem pget_any (N : Nat) (rest : List Int) (bad : Bool) (w : World) (hb : Bts rest) (h : Rd w N rest bad) :
    Calls Try.prog 95 #[.pointer (some ⟨N, 0, none⟩)] w (NGet N 4096 rest bad w) := by
  have HB := Lib.hid hb
  have HR := Lib.hid h
  clear hb h
  go_enter Try.func95, Try.ntmps95
  go_wp2_with (go_at_call 83; (with_reducible refine (nget_any _ _ _ _ _ HB.out (by decide) (by decide) HR.out).mono ?_); rintro e w1 ⟨n, r1, b1, rfl, h1⟩; have H1 := Lib.hid h1; clear h1)
  go_ret
  exact ⟨n, r1, b1, rfl, H1.out⟩

theorem tget_any (N : Nat) (rest : List Int) (bad : Bool) (w : World) (hb : Bts rest) (h : Rd w N rest bad) :
    Calls Try.prog 76 #[.pointer (some ⟨N, 0, none⟩)] w (TGet N rest bad w) := by
  have hlt := h.lt
  have HB := Lib.hid hb
  have HR := Lib.hid (h.keep ((Below.refl _ _).alloc (Nat.le_refl _) (.cells #[.int .i64 0, .int .i64 0] 42)))
  have HB1 : Hid ((w.alloc (.cells #[.int .i64 0, .int .i64 0] 42)).heap[w.heap.size]? = some (.cells [.int .i64 0, .int .i64 0].toArray 42 (0, 0))) := Lib.hid (heap_alloc_new _ _)
  have HG0 : Hid (w.grownBy (w.alloc (.cells #[.int .i64 0, .int .i64 0] 42)) (some N)) := Lib.hid (World.grownBy_alloc _ _ _)
  clear hb h
  go_enter Try.func76, Try.ntmps76
  go_upto_region 2 with (go_at_call 83; (with_reducible refine (nget_any _ _ _ _ _ HB.out (by decide) (by decide) HR.out).mono ?_); rintro e w1 ⟨n, r1, b1, rfl, n0, n5, hrd, hg, hrel⟩; have HR1 := Lib.hid hrd; have HL1 := Lib.hid hrel; have HG1 := Lib.hid (grown_trans HG0.out hg); have HB1 := Lib.hid (block_far HB1.out hg (by omega)); clear hrd hg hrel)
  have HA2 := Lib.hid ((Below.refl w1.heap.size w1).alloc (Nat.le_refl _) (.cells #[.int .i64 n, .int .i64 0] 42))
  have HB2 : Hid ((w1.alloc (.cells #[.int .i64 n, .int .i64 0] 42)).heap[w1.heap.size]? = some (.cells [.int .i64 n, .int .i64 0].toArray 42 (0, 0))) := Lib.hid (heap_alloc_new _ _)
  have HR2 := Lib.hid (HR1.out.keep HA2.out)
  have HB12 : Hid ((w1.alloc (.cells #[.int .i64 n, .int .i64 0] 42)).heap[w.heap.size]? = some (.cells [.int .i64 0, .int .i64 0].toArray 42 (0, 0))) := Lib.hid ((HA2.out.block _ (lt_of_block HB1.out)).trans HB1.out)
  have HG2 := Lib.hid (grown_alloc HG1.out (.cells #[.int .i64 n, .int .i64 0] 42))
  have hz : N < w1.heap.size := HR1.out.lt
  have hz1 : w.heap.size < w1.heap.size := lt_of_block HB1.out
  generalize w1.alloc (.cells #[.int .i64 n, .int .i64 0] 42) = w2 at *
  have q0 := block_cell HB2.out 0 _ rfl
  have q1 := block_cell HB2.out 1 _ rfl
  by_cases h3 : n = 3
  · subst h3
    have HBt := Lib.hid HL1.out.1
    go_wp2_with (go_at_call 83; (with_reducible refine (nget_any _ _ _ _ _ HBt.out (by decide) (by decide) HR2.out).mono ?_); rintro e w3 ⟨m, r2, b2, rfl, m0, m7, hrd, hg, hrel⟩; have HR3 := Lib.hid hrd; have HL3 := Lib.hid hrel; have HG3 := Lib.hid (grown_trans HG2.out hg); have HB3 := Lib.hid (block_far HB2.out hg (by omega)); have HB13 := Lib.hid (block_far HB12.out hg (by omega)); have q0 := block_cell HB3.out 0 _ rfl; have q1 := block_cell HB3.out 1 _ rfl; have f1 := block_free HB3.out 1; have p0 := block_cell HB13.out 0 _ rfl; have p1 := block_cell HB13.out 1 _ rfl; have g0 := block_free HB13.out 0; have g1 := block_free HB13.out 1; clear hrd hg hrel)
    refine bodyPost_ret (v := tyV 3 m) (by simp [results, Try.results76, go_sem, p0, p1]) rfl ⟨(3, m), r2, b2, rfl, ?_, ?_, HL1.out.ty3 HL3.out⟩
    · exact HR3.out.keep_to ((((Below.refl w.heap.size w3).setCell (p := ⟨w1.heap.size, 1, none⟩) (by show w.heap.size ≤ w1.heap.size; omega) _).setCell (p := ⟨w.heap.size, 0, none⟩) (Nat.le_refl _) _).setCell (p := ⟨w.heap.size, 1, none⟩) (Nat.le_refl _) _) hlt
    · exact grown_set (grown_set (grown_set HG3.out (a := ⟨w1.heap.size, 1, none⟩) (by show w.heap.size ≤ w1.heap.size; omega) _) (a := ⟨w.heap.size, 0, none⟩) (Nat.le_refl _) _) (a := ⟨w.heap.size, 1, none⟩) (Nat.le_refl _) _
  · have h3' : (n == 3) = false := by simpa using h3
    have HN3 := Lib.hid h3
    clear h3
    have p0 := block_cell HB12.out 0 _ rfl
    have p1 := block_cell HB12.out 1 _ rfl
    have g0 := block_free HB12.out 0
    have g1 := block_free HB12.out 1
    go_wp2_with fail
    refine bodyPost_ret (v := tyV n 0) (by simp [results, Try.results76, go_sem, p0, p1]) rfl ⟨(n, 0), r1, b1, rfl, ?_, ?_, HL1.out.ty0 HN3.out⟩
    · exact HR2.out.keep_to (((Below.refl w.heap.size w2).setCell (p := ⟨w.heap.size, 0, none⟩) (Nat.le_refl _) _).setCell (p := ⟨w.heap.size, 1, none⟩) (Nat.le_refl _) _) hlt
    · exact grown_set (grown_set HG2.out (a := ⟨w.heap.size, 0, none⟩) (Nat.le_refl _) _) (a := ⟨w.heap.size, 1, none⟩) (Nat.le_refl _) _
end Go.Proofs.Ytikljohgdgibnaa
