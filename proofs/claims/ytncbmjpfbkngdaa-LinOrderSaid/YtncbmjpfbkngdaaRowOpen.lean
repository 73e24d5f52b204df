/-
  What rows that came in read as. Plain lemmas; no conditions.
-/
import Derived.Test.YtncbmjpfbkngdaaRow
import Derived.Test.YtncbmjpfbkngdaaOpen
namespace Go.Proofs.Ytncbmjpfbkngdaa
set_option maxRecDepth 100000
set_option linter.unusedVariables false
set_option linter.unusedSimpArgs false
open Go.ChangeShapes Go.WideShapes Go.Deep Go.Joins Go.RowKit
set_option linter.unusedVariables false

theorem add_0 (p : Addr) : p.add 0 = p := by simp [Addr.add]
theorem add_off {n : Nat} (p : Addr) (h : 0 < n) : p.add n = off_ p n := by
  unfold Addr.add off_
  rw [if_neg (by omega)]
section
variable {α H : Type} {enc : TypeId × Value → H} {P : Program} {w : World} {base : Nat} {held : Bool} {spare : Nat → Bool}
/-- What cells of a type read as. -/
def Opens (enc : TypeId × Value → H) (P : Program) (w : World) (base : Nat) (spare : Nat → Bool) (held : Bool) (e : TypeId) (k : Nat) (At : AtP α) : Prop :=
  ∀ (n : Nat) (cs : List Value) (y : DataW H × List MemPlace) (p : Addr), (∀ j u, cs[j]? = some u → w.cell? (p.add j) = some u) → DataW.trod enc P w base spare held n e cs = some y → cs.length = k → ∃ x : α, At w w.heap.size p x

/-- A slice's one cell: the things that it holds, where they stand. -/
theorem open_rowOf {t e : TypeId} {k fuel : Nat} {cs : List Value} {x : DataW H × List MemPlace} {At : AtP α} (ht : P.underlying t = some (.slice e)) (hC : P.cellsOf e = k) (hk : 0 < k) (hO : Opens enc P w base spare held e k At)
    (h : DataW.trod enc P w base spare held fuel t cs = some x) : ∃ A cap l, cs = [.slice A l.length cap] ∧ SlcIs At k w w.heap.size A cap l ∧ (A = none → cap = 0) := by
  rcases open_slice ht h with ⟨hcs, _⟩ | ⟨a, len, cap, m, n, D, Pl, hcs, _, hl, hm, hmm, _, hi⟩
  · exact ⟨none, 0, [], hcs, ⟨Nat.le_refl _, by omega, RowOf.nil⟩, fun _ => rfl⟩
  · have hml : len ≤ m := by rw [hmm]; split <;> omega
    obtain ⟨l, hLl, hL⟩ := gather (R := fun i (x : α) => At w w.heap.size (a.add (i * k)) x ∧ a.block < w.heap.size) len fun i hil => by
      obtain ⟨cs', hc, ht'⟩ := hi i (by omega)
      rw [hC] at hc
      obtain ⟨_, hcl, hat⟩ := World.cells?_some hc
      have hat' : ∀ j u, cs'[j]? = some u → w.cell? ((a.add (i * k)).add j) = some u := fun j u hu => by
        have hj : j < k := by
          rcases Nat.lt_or_ge j k with g | g
          · exact g
          · rw [List.getElem?_eq_none (by omega)] at hu; cases hu
        exact (hat j hj).trans hu
      obtain ⟨x, hx⟩ := hO n cs' _ (a.add (i * k)) hat' ht' hcl
      refine ⟨x, hx, ?_⟩
      have h0 := hat' 0 (cs'[0]'(by omega)) (List.getElem?_eq_getElem (by omega))
      have := World.block_lt_of_cell? w _ h0
      rwa [addr_add_block, addr_add_block] at this
    refine ⟨some a, cap, l, by rw [hLl]; exact hcs, ⟨by omega, by unfold maxLen at hm; omega, fun i x hx => ?_⟩, fun h => by cases h⟩
    exact ⟨a, rfl, (hL i x hx).2, (hL i x hx).1⟩
end

section
variable {H : Type} {enc : TypeId × Value → H} {w : World} {base : Nat} {held : Bool} {spare : Nat → Bool}
theorem cells_int : Try.prog.cellsOf 3 = 1 := by kernel_rfl
theorem cells_ints : Try.prog.cellsOf 23 = 1 := by kernel_rfl
section
variable {α β : Type} {k : Nat} {At : AtP α}
/-- A field of one int. -/
theorem fld_int {n : Nat} {cs : List Value} {y : DataW H × List MemPlace} (h : DataW.trod enc Try.prog w base spare held n 3 cs = some y) : ∃ v : Int, cs = [.int .i64 v] := by
  obtain ⟨v, rfl, _, _⟩ := DataW.trod_int Try.underlying3 h
  exact ⟨v, rfl⟩
theorem fld_intR {n : Nat} {cs : List Value} {y : DataW H × List MemPlace} (h : DataW.trod enc Try.prog w base spare held n 3 cs = some y) : ∃ v : Int, cs = [.int .i64 v] ∧ -9223372036854775808 ≤ v ∧ v ≤ 9223372036854775807 := by
  obtain ⟨v, rfl, _, hw⟩ := DataW.trod_int Try.underlying3 h
  exact ⟨v, rfl, (wf_i64 hw).1, (wf_i64 hw).2⟩
theorem some_of {γ : Type} {xs : List γ} {i n : Nat} {o : Option γ} (h : o = xs[i]?) (hl : xs.length = n) (hi : i < n) : ∃ y, o = some y := ⟨_, h.trans (List.getElem?_eq_getElem (by omega))⟩
end
theorem opens_int : Opens enc Try.prog w base spare held 3 1 IntAt := fun n cs y p hc h _ => by
  obtain ⟨v, rfl⟩ := fld_int h
  exact ⟨v, by have := hc 0 _ rfl; rwa [add_0] at this⟩
theorem slc_ints {n : Nat} {cs : List Value} {y : DataW H × List MemPlace} (h : DataW.trod enc Try.prog w base spare held n 23 cs = some y) : ∃ A cap l, cs = [.slice A l.length cap] ∧ SlcIs IntAt 1 w w.heap.size A cap l ∧ (A = none → cap = 0) :=
  open_rowOf Try.underlying23 cells_int (by decide) opens_int h
end
end Go.Proofs.Ytncbmjpfbkngdaa
