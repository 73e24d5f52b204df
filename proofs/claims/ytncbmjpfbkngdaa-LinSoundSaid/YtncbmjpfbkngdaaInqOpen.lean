/-
  What inequalities that came in read as. Plain lemmas; no conditions.
-/
import Derived.Test.YtncbmjpfbkngdaaRowOpen
import Derived.Test.YtncbmjpfbkngdaaLinMath
namespace Go.Proofs.Ytncbmjpfbkngdaa
set_option maxRecDepth 100000
set_option linter.unusedVariables false
set_option linter.unusedSimpArgs false
open Go.ChangeShapes Go.WideShapes Go.Deep Go.Joins Go.RowKit
set_option linter.unusedVariables false

section
variable {H : Type} {enc : TypeId × Value → H} {w : World} {base : Nat} {held : Bool} {spare : Nat → Bool}
theorem opens_inq : Opens enc Try.prog w base spare held 27 2 IneqAt := fun n cs y p hc h hl => by
  obtain ⟨xs, m, _, _, _, hx, hf⟩ := DataW.trod_struct Try.underlying27 h
  match cs, hl with
  | [c0, c1], _ =>
    obtain ⟨y0, g0⟩ := some_of (hf 0 _ rfl) hx (by decide)
    change DataW.trod enc Try.prog w base spare held m 23 (List.take (Try.prog.cellsOf 23) (List.drop 0 _)) = _ at g0
    obtain ⟨y1, g1⟩ := some_of (hf 1 _ rfl) hx (by decide)
    change DataW.trod enc Try.prog w base spare held m 3 (List.take (Try.prog.cellsOf 3) (List.drop 1 _)) = _ at g1
    rw [cells_ints] at g0
    rw [cells_int] at g1
    obtain ⟨A0, k0, l0, e0, s0, _⟩ := slc_ints g0
    obtain ⟨v1, e1⟩ := fld_int g1
    simp at e0 e1
    subst e0 e1
    refine ⟨(l0, v1), ⟨A0, k0, ?_, s0⟩, ?_⟩
    · have := hc 0 _ rfl; rwa [add_0] at this
    · have := hc 1 _ rfl; rwa [add_off _ (by decide)] at this
/-- Inequalities. -/
theorem open_inqs {A : Option Addr} {len cap : Nat} {d : DataW H} {p : List MemPlace} (h : DataW.Trod enc Try.prog w base spare held 22 (.slice A len cap) d p) :
    ∃ L, len = L.length ∧ SlcIs IneqAt 2 w w.heap.size A cap L := by
  obtain ⟨fuel, hf⟩ := h
  obtain ⟨A', cap', L, hc, hs, _⟩ := open_rowOf Try.underlying22 (by kernel_rfl) (by decide) opens_inq hf
  have hc : [Value.slice A len cap] = [Value.slice A' L.length cap'] := hc
  injection hc with hc
  injection hc with e1 e2 e3
  subst e1 e2 e3
  exact ⟨L, rfl, hs⟩
/-- Numbers. -/
theorem open_ints {A : Option Addr} {len cap : Nat} {d : DataW H} {p : List MemPlace} (h : DataW.Trod enc Try.prog w base spare held 23 (.slice A len cap) d p) :
    ∃ L, len = L.length ∧ SlcIs IntAt 1 w w.heap.size A cap L := by
  obtain ⟨fuel, hf⟩ := h
  obtain ⟨A', cap', L, hc, hs, _⟩ := slc_ints hf
  have hc : [Value.slice A len cap] = [Value.slice A' L.length cap'] := hc
  injection hc with hc
  injection hc with e1 e2 e3
  subst e1 e2 e3
  exact ⟨L, rfl, hs⟩
/-- An inequality by value. -/
theorem open_inq {r : Reach} {b0 : Nat} {v : Value} {d : DataW H} {p : List MemPlace} (hv : Value.okWide Try.prog w r b0 27 v) (h : DataW.Trod enc Try.prog w base spare held 27 v d p) :
    ∃ (A : Option Addr) (cap : Nat) (L : List Int) (m : Int), v = .agg #[.slice A L.length cap, .int .i64 m] ∧ SlcIs IntAt 1 w w.heap.size A cap L := by
  obtain ⟨cs, rfl, hsz⟩ := okWide_struct Try.underlying27 hv
  obtain ⟨fuel, hf⟩ := h
  have hsz' : cs.size = 2 := hsz.trans (by kernel_rfl)
  obtain ⟨xs, m, _, _, _, hx, hf⟩ := DataW.trod_struct Try.underlying27 hf
  obtain ⟨l⟩ := cs
  have hl : l.length = 2 := hsz'
  match l, hl with
  | [c0, c1], _ =>
    obtain ⟨y0, g0⟩ := some_of (hf 0 _ rfl) hx (by decide)
    change DataW.trod enc Try.prog w base spare held m 23 (List.take (Try.prog.cellsOf 23) (List.drop 0 _)) = _ at g0
    obtain ⟨y1, g1⟩ := some_of (hf 1 _ rfl) hx (by decide)
    change DataW.trod enc Try.prog w base spare held m 3 (List.take (Try.prog.cellsOf 3) (List.drop 1 _)) = _ at g1
    rw [cells_ints] at g0
    rw [cells_int] at g1
    obtain ⟨A0, k0, l0, e0, s0, _⟩ := slc_ints g0
    obtain ⟨v1, e1⟩ := fld_int g1
    simp [Value.cells] at e0 e1
    subst e0 e1
    exact ⟨A0, k0, l0, v1, rfl, s0⟩
end
theorem wf_i16 {a : Int} (h : (Lit.int .i16 a).wf = true) : -32768 ≤ a ∧ a ≤ 32767 := by
  simpa [Lit.wf, IntKind.min, IntKind.max, IntKind.signed, IntKind.bits] using h
end Go.Proofs.Ytncbmjpfbkngdaa
