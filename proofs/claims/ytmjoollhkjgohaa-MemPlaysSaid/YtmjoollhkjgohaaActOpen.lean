/-
  What an argument that came in reads as: a slice of acts, three numbers each. Plain lemmas; the conditions stand in each.
-/
import Derived.Test.YtmjoollhkjgohaaOpen
import Derived.Test.YtmjoollhkjgohaaRow
namespace Go.Proofs.Ytmjoollhkjgohaa
set_option maxRecDepth 100000
set_option linter.unusedVariables false
set_option linter.unusedSimpArgs false
open Go.ChangeShapes Go.WideShapes Go.Deep Go.Joins Go.RowKit
set_option linter.unusedVariables false

section
variable {H : Type} {enc : TypeId × Value → H} {P : Program} {w : World} {base : Nat} {held : Bool}
/-- A slice of acts: them, where they stand. -/
theorem open_acts {t e : TypeId} {f0 f1 f2 : Field} {A : Option Addr} {len cap : Nat} {d : DataW H} {p : List MemPlace} (ht : P.underlying t = some (.slice e)) (he : P.underlying e = some (.struct #[f0, f1, f2]))
    (hone : oneCellFields P #[f0, f1, f2] = true) (hC : P.cellsOf e = 3) (h0 : P.underlying f0.type = some (.int .i64)) (h1 : P.underlying f1.type = some (.int .i64)) (h2 : P.underlying f2.type = some (.int .i64))
    (h : DataW.Trod enc P w base (fun _ => true) held t (.slice A len cap) d p) :
    ∃ L : List (Int × Int × Int), L.length = len ∧ InsRow w w.heap.size A L ∧ (∀ x ∈ L, (-9223372036854775808 ≤ x.1 ∧ x.1 ≤ 9223372036854775807) ∧ (-9223372036854775808 ≤ x.2.1 ∧ x.2.1 ≤ 9223372036854775807) ∧ (-9223372036854775808 ≤ x.2.2 ∧ x.2.2 ≤ 9223372036854775807)) ∧ len ≤ cap ∧ cap ≤ 9223372036854775807 := by
  obtain ⟨fuel, hf⟩ := h
  rcases open_slice ht hf with ⟨hcs, _⟩ | ⟨a, l, c, m, n, D, Pl, hcs, _, hl, hm, hmm, _, hi⟩
  · simp [Value.cells] at hcs
    obtain ⟨rfl, rfl, rfl⟩ := hcs
    exact ⟨[], rfl, fun i s hs => by simp at hs, by simp, Nat.le_refl _, by omega⟩
  · simp [Value.cells] at hcs
    obtain ⟨rfl, rfl, rfl⟩ := hcs
    simp only [if_true] at hmm
    subst hmm
    obtain ⟨L, hLl, hL⟩ := gather (R := fun i (x : Int × Int × Int) => InsAt w (a.add (i * 3)) x.1 x.2.1 x.2.2 ∧ (-9223372036854775808 ≤ x.1 ∧ x.1 ≤ 9223372036854775807) ∧ (-9223372036854775808 ≤ x.2.1 ∧ x.2.1 ≤ 9223372036854775807) ∧ (-9223372036854775808 ≤ x.2.2 ∧ x.2.2 ≤ 9223372036854775807)) len fun i hil => by
      obtain ⟨cs', hc, ht'⟩ := hi i (by omega)
      rw [hC] at hc
      obtain ⟨_, hcl, hat⟩ := World.cells?_some hc
      obtain ⟨y0, y1, y2, n', _, _, g0, g1, g2⟩ := trod_struct3 he ht'
      obtain ⟨o0, k0⟩ := hone_of hone 0 f0 rfl
      obtain ⟨o1, k1⟩ := hone_of hone 1 f1 rfl
      obtain ⟨o2, k2⟩ := hone_of hone 2 f2 rfl
      rw [o0, k0] at g0
      rw [o1, k1] at g1
      rw [o2, k2] at g2
      match cs', hcl with
      | [c0, c1, c2], _ =>
        simp only [List.drop_zero, List.drop_succ_cons, List.take_succ_cons, List.take_zero] at g0 g1 g2
        obtain ⟨o, e0, _, w0⟩ := DataW.trod_int h0 g0
        obtain ⟨x, e1, _, w1⟩ := DataW.trod_int h1 g1
        obtain ⟨y, e2, _, w2⟩ := DataW.trod_int h2 g2
        simp at e0 e1 e2
        subst e0 e1 e2
        have a0 := hat 0 (by decide)
        have a1 := hat 1 (by decide)
        have a2 := hat 2 (by decide)
        refine ⟨(o, x, y), ⟨?_, ?_, ?_⟩, wf_i64 w0, wf_i64 w1, wf_i64 w2⟩
        · simpa [Addr.add] using a0
        · simpa [Addr.add] using a1
        · simpa [Addr.add] using a2
    refine ⟨L, hLl, fun i x hx => ?_, fun x hx => ?_, hl, by unfold maxLen at hm; omega⟩
    · have h := (hL i x hx).1
      refine ⟨a, rfl, ?_, h⟩
      have := World.block_lt_of_cell? w _ h.1
      rwa [addr_add_block] at this
    · obtain ⟨i, hi'⟩ := List.getElem?_of_mem hx
      exact (hL i x hi').2
end
end Go.Proofs.Ytmjoollhkjgohaa
