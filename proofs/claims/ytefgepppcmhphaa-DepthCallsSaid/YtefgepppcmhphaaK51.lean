/-
  The statement on how many cells methods take (DepthBounds), walked: it answers true at any image.
  What an argument that came in reads as: types by value, slices of classes. Plain lemmas; the conditions stand in each.
  What rows that came in read as. Plain lemmas; no conditions.
  What an image that came in reads as: its classes, methods and all else, where they stand. Plain lemmas; no conditions.
-/
import Derived.Test.YtefgepppcmhphaaK50
import Derived.IntWalk
import Derived.RegionTactic
import Derived.ChangeAlike
import Derived.Deep.RegionHeld3
import Derived.Deep.QuietTactic
import Derived.BigQuiet
import Derived.Test.YtefgepppcmhphaaM01
import Derived.Test.YtefgepppcmhphaaRows
import Derived.ProofKit
import Derived.OpenShut
import Derived.Deep.Slices
import Derived.Deep.Fields
import Derived.ChangeSame
import Derived.Lib.SmallJoins
namespace Go.Proofs.Ytefgepppcmhphaa
set_option maxRecDepth 100000
set_option linter.unusedVariables false
set_option linter.unusedSimpArgs false
open Go.ChangeShapes Go.WideShapes Go.ChangeAt Go.RowKit
set_option linter.unusedVariables false
set_option linter.unusedSimpArgs false

end Go.Proofs.Ytefgepppcmhphaa
namespace Go.Proofs.Ytefgepppcmhphaa
set_option maxRecDepth 100000
set_option linter.unusedVariables false
set_option linter.unusedSimpArgs false
open Go.ChangeShapes Go.WideShapes Go.Deep Go.Joins Go.RowKit

/-- Values one by one make a list. -/
theorem gather {α : Type} {R : Nat → α → Prop} (n : Nat) (h : ∀ i, i < n → ∃ s, R i s) : ∃ l : List α, l.length = n ∧ ∀ i s, l[i]? = some s → R i s := by
  induction n with
  | zero => exact ⟨[], rfl, by simp⟩
  | succ n ih =>
    obtain ⟨l, hl, hr⟩ := ih fun i hi => h i (by omega)
    obtain ⟨s, hs⟩ := h n (by omega)
    refine ⟨l ++ [s], by simp [hl], fun i t ht => ?_⟩
    rcases Nat.lt_or_ge i l.length with hlt | hge
    · rw [List.getElem?_append_left hlt] at ht
      exact hr i t ht
    · rw [List.getElem?_append_right hge] at ht
      have hi : i - l.length = 0 := by
        rcases Nat.eq_zero_or_pos (i - l.length) with h0 | h0
        · exact h0
        · rw [List.getElem?_eq_none (by simp; omega)] at ht
          cases ht
      rw [hi] at ht
      have hin : i = n := by omega
      subst hin
      simp at ht
      subst ht
      exact hs

section
variable {H : Type} {enc : TypeId × Value → H} {P : Program} {w : World} {base : Nat} {held : Bool}
end

theorem wf_i32 {a : Int} (h : (Lit.int .i32 a).wf = true) : -2147483648 ≤ a ∧ a ≤ 2147483647 := by
  simpa [Lit.wf, IntKind.min, IntKind.max, IntKind.signed, IntKind.bits] using h
theorem wf_i64 {a : Int} (h : (Lit.int .i64 a).wf = true) : -9223372036854775808 ≤ a ∧ a ≤ 9223372036854775807 := by
  simpa [Lit.wf, IntKind.min, IntKind.max, IntKind.signed, IntKind.bits] using h

theorem add_0 (p : Addr) : p.add 0 = p := by simp [Addr.add]
theorem add_off {n : Nat} (p : Addr) (h : 0 < n) : p.add n = off_ p n := by
  unfold Addr.add off_
  rw [if_neg (by omega)]
section
variable {α H : Type} {enc : TypeId × Value → H} {P : Program} {w : World} {base : Nat} {held : Bool} {spare : Nat → Bool}
/-- What cells of a type read as. -/
def Opens (enc : TypeId × Value → H) (P : Program) (w : World) (base : Nat) (spare : Nat → Bool) (held : Bool) (e : TypeId) (k : Nat) (At : AtP α) : Prop :=
  ∀ (n : Nat) (cs : List Value) (y : DataW H × List MemPlace) (p : Addr), (∀ j u, cs[j]? = some u → w.cell? (p.add j) = some u) → DataW.trod enc P w base spare held n e cs = some y → cs.length = k → ∃ x : α, At w w.heap.size p x

/-- A slice's one cell: the things that it holds, where they stand. -/
theorem open_rowOf {t e : TypeId} {k fuel : Nat} {cs : List Value} {x : DataW H × List MemPlace} {At : AtP α} (ht : P.underlying t = some (.slice e)) (hC : P.cellsOf e = k) (hk : 0 < k) (hO : Opens enc P w base spare held e k At)
    (h : DataW.trod enc P w base spare held fuel t cs = some x) : ∃ A cap l, cs = [.slice A l.length cap] ∧ SlcIs At k w w.heap.size A cap l ∧ (A = none → cap = 0) := by
  rcases open_slice ht h with ⟨hcs, _⟩ | ⟨a, len, cap, m, n, D, Pl, hcs, _, hl, hm, hmm, _, hi⟩
  · exact ⟨none, 0, [], hcs, ⟨Nat.le_refl _, by omega, RowOf.nil⟩, fun _ => rfl⟩
  · have hml : len ≤ m := by rw [hmm]; split <;> omega
    obtain ⟨l, hLl, hL⟩ := gather (R := fun i (x : α) => At w w.heap.size (a.add (i * k)) x ∧ a.block < w.heap.size) len fun i hil => by
      obtain ⟨cs', hc, ht'⟩ := hi i (by omega)
      rw [hC] at hc
      obtain ⟨_, hcl, hat⟩ := World.cells?_some hc
      have hat' : ∀ j u, cs'[j]? = some u → w.cell? ((a.add (i * k)).add j) = some u := fun j u hu => by
        have hj : j < k := by
          rcases Nat.lt_or_ge j k with g | g
          · exact g
          · rw [List.getElem?_eq_none (by omega)] at hu; cases hu
        exact (hat j hj).trans hu
      obtain ⟨x, hx⟩ := hO n cs' _ (a.add (i * k)) hat' ht' hcl
      refine ⟨x, hx, ?_⟩
      have h0 := hat' 0 (cs'[0]'(by omega)) (List.getElem?_eq_getElem (by omega))
      have := World.block_lt_of_cell? w _ h0
      rwa [addr_add_block, addr_add_block] at this
    refine ⟨some a, cap, l, by rw [hLl]; exact hcs, ⟨by omega, by unfold maxLen at hm; omega, fun i x hx => ?_⟩, fun h => by cases h⟩
    exact ⟨a, rfl, (hL i x hx).2, (hL i x hx).1⟩
end

section
variable {H : Type} {enc : TypeId × Value → H} {w : World} {base : Nat} {held : Bool} {spare : Nat → Bool}
theorem cells_int : Try.prog.cellsOf 3 = 1 := by kernel_rfl
theorem cells_ints : Try.prog.cellsOf 26 = 1 := by kernel_rfl
section
variable {α β : Type} {k : Nat} {At : AtP α}
/-- A field of one int. -/
theorem fld_int {n : Nat} {cs : List Value} {y : DataW H × List MemPlace} (h : DataW.trod enc Try.prog w base spare held n 3 cs = some y) : ∃ v : Int, cs = [.int .i64 v] := by
  obtain ⟨v, rfl, _, _⟩ := DataW.trod_int Try.underlying3 h
  exact ⟨v, rfl⟩
theorem fld_intR {n : Nat} {cs : List Value} {y : DataW H × List MemPlace} (h : DataW.trod enc Try.prog w base spare held n 3 cs = some y) : ∃ v : Int, cs = [.int .i64 v] ∧ -9223372036854775808 ≤ v ∧ v ≤ 9223372036854775807 := by
  obtain ⟨v, rfl, _, hw⟩ := DataW.trod_int Try.underlying3 h
  exact ⟨v, rfl, (wf_i64 hw).1, (wf_i64 hw).2⟩
theorem some_of {γ : Type} {xs : List γ} {i n : Nat} {o : Option γ} (h : o = xs[i]?) (hl : xs.length = n) (hi : i < n) : ∃ y, o = some y := ⟨_, h.trans (List.getElem?_eq_getElem (by omega))⟩
end
theorem opens_int : Opens enc Try.prog w base spare held 3 1 IntAt := fun n cs y p hc h _ => by
  obtain ⟨v, rfl⟩ := fld_int h
  exact ⟨v, by have := hc 0 _ rfl; rwa [add_0] at this⟩
theorem slc_ints {n : Nat} {cs : List Value} {y : DataW H × List MemPlace} (h : DataW.trod enc Try.prog w base spare held n 26 cs = some y) : ∃ A cap l, cs = [.slice A l.length cap] ∧ SlcIs IntAt 1 w w.heap.size A cap l ∧ (A = none → cap = 0) :=
  open_rowOf Try.underlying26 cells_int (by decide) opens_int h
end

section
variable {H : Type} {enc : TypeId × Value → H} {w : World} {base : Nat} {held : Bool} {spare : Nat → Bool}
theorem cells_type : Try.prog.cellsOf 49 = 2 := by kernel_rfl
theorem cells_types : Try.prog.cellsOf 23 = 1 := by kernel_rfl
theorem opens_long : Opens enc Try.prog w base spare held 21 1 LongAt := fun n cs y p hc h _ => by
  obtain ⟨v, rfl, _, hw⟩ := DataW.trod_int Try.underlying21 h
  exact ⟨v, by have := hc 0 _ rfl; rwa [add_0] at this, (wf_i32 hw).1, (wf_i32 hw).2⟩
theorem opens_type : Opens enc Try.prog w base spare held 49 2 TyAt := fun n cs y p hc h hl => by
  obtain ⟨xs, m, _, _, _, hx, hf⟩ := DataW.trod_struct Try.underlying49 h
  match cs, hl with
  | [c0, c1], _ =>
    obtain ⟨y0, g0⟩ := some_of (hf 0 _ rfl) hx (by decide)
    change DataW.trod enc Try.prog w base spare held m 3 (List.take (Try.prog.cellsOf 3) (List.drop 0 _)) = _ at g0
    obtain ⟨y1, g1⟩ := some_of (hf 1 _ rfl) hx (by decide)
    change DataW.trod enc Try.prog w base spare held m 3 (List.take (Try.prog.cellsOf 3) (List.drop 1 _)) = _ at g1
    rw [cells_int] at g0 g1
    obtain ⟨v0, e0⟩ := fld_int g0
    obtain ⟨v1, e1⟩ := fld_int g1
    simp at e0 e1
    subst e0 e1
    refine ⟨(v0, v1), ?_, ?_⟩
    · have := hc 0 _ rfl; rwa [add_0] at this
    · have := hc 1 _ rfl; rwa [add_off _ (by decide)] at this
theorem opens_code : Opens enc Try.prog w base spare held 51 3 CodeAt := fun n cs y p hc h hl => by
  obtain ⟨xs, m, _, _, _, hx, hf⟩ := DataW.trod_struct Try.underlying51 h
  match cs, hl with
  | [c0, c1, c2], _ =>
    obtain ⟨y0, g0⟩ := some_of (hf 0 _ rfl) hx (by decide)
    change DataW.trod enc Try.prog w base spare held m 3 (List.take (Try.prog.cellsOf 3) (List.drop 0 _)) = _ at g0
    obtain ⟨y1, g1⟩ := some_of (hf 1 _ rfl) hx (by decide)
    change DataW.trod enc Try.prog w base spare held m 3 (List.take (Try.prog.cellsOf 3) (List.drop 1 _)) = _ at g1
    obtain ⟨y2, g2⟩ := some_of (hf 2 _ rfl) hx (by decide)
    change DataW.trod enc Try.prog w base spare held m 3 (List.take (Try.prog.cellsOf 3) (List.drop 2 _)) = _ at g2
    rw [cells_int] at g0 g1 g2
    obtain ⟨v0, e0⟩ := fld_int g0
    obtain ⟨v1, e1⟩ := fld_int g1
    obtain ⟨v2, e2⟩ := fld_int g2
    simp at e0 e1 e2
    subst e0 e1 e2
    refine ⟨(v0, v1, v2), ?_, ?_, ?_⟩
    · have := hc 0 _ rfl; rwa [add_0] at this
    · have := hc 1 _ rfl; rwa [add_off _ (by decide)] at this
    · have := hc 2 _ rfl; rwa [add_off _ (by decide)] at this

theorem slc_types {n : Nat} {cs : List Value} {y : DataW H × List MemPlace} (h : DataW.trod enc Try.prog w base spare held n 23 cs = some y) : ∃ A cap l, cs = [.slice A l.length cap] ∧ SlcIs TyAt 2 w w.heap.size A cap l ∧ (A = none → cap = 0) :=
  open_rowOf Try.underlying23 cells_type (by decide) opens_type h
theorem slc_code {n : Nat} {cs : List Value} {y : DataW H × List MemPlace} (h : DataW.trod enc Try.prog w base spare held n 52 cs = some y) : ∃ A cap l, cs = [.slice A l.length cap] ∧ SlcIs CodeAt 3 w w.heap.size A cap l ∧ (A = none → cap = 0) :=
  open_rowOf Try.underlying52 (by kernel_rfl) (by decide) opens_code h
theorem slc_longs {n : Nat} {cs : List Value} {y : DataW H × List MemPlace} (h : DataW.trod enc Try.prog w base spare held n 24 cs = some y) : ∃ A cap l, cs = [.slice A l.length cap] ∧ SlcIs LongAt 1 w w.heap.size A cap l ∧ (A = none → cap = 0) :=
  open_rowOf Try.underlying24 (by kernel_rfl) (by decide) opens_long h

theorem cells_code : Try.prog.cellsOf 52 = 1 := by kernel_rfl
theorem opens_class : Opens enc Try.prog w base spare held 92 3 ClsAt := fun n cs y p hc h hl => by
  obtain ⟨xs, m, _, _, _, hx, hf⟩ := DataW.trod_struct Try.underlying92 h
  match cs, hl with
  | [c0, c1, c2], _ =>
    obtain ⟨y0, g0⟩ := some_of (hf 0 _ rfl) hx (by decide)
    change DataW.trod enc Try.prog w base spare held m 3 (List.take (Try.prog.cellsOf 3) (List.drop 0 _)) = _ at g0
    obtain ⟨y1, g1⟩ := some_of (hf 1 _ rfl) hx (by decide)
    change DataW.trod enc Try.prog w base spare held m 23 (List.take (Try.prog.cellsOf 23) (List.drop 1 _)) = _ at g1
    obtain ⟨y2, g2⟩ := some_of (hf 2 _ rfl) hx (by decide)
    change DataW.trod enc Try.prog w base spare held m 26 (List.take (Try.prog.cellsOf 26) (List.drop 2 _)) = _ at g2
    rw [cells_int] at g0
    rw [cells_types] at g1
    rw [cells_ints] at g2
    obtain ⟨v0, e0, r0⟩ := fld_intR g0
    obtain ⟨A1, k1, l1, e1, s1, _⟩ := slc_types g1
    obtain ⟨A2, k2, l2, e2, s2, _⟩ := slc_ints g2
    simp at e0 e1 e2
    subst e0 e1 e2
    refine ⟨⟨v0, l1, l2⟩, ?_, ⟨A1, k1, ?_, s1⟩, ⟨A2, k2, ?_, s2⟩, r0⟩
    · have := hc 0 _ rfl; rwa [add_0] at this
    · have := hc 1 _ rfl; rwa [add_off _ (by decide)] at this
    · have := hc 2 _ rfl; rwa [add_off _ (by decide)] at this
theorem opens_method : Opens enc Try.prog w base spare held 54 8 MthAt := fun n cs y p hc h hl => by
  obtain ⟨xs, m, _, _, _, hx, hf⟩ := DataW.trod_struct Try.underlying54 h
  match cs, hl with
  | [c0, c1, c2, c3, c4, c5, c6, c7], _ =>
    obtain ⟨y0, g0⟩ := some_of (hf 0 _ rfl) hx (by decide)
    change DataW.trod enc Try.prog w base spare held m 23 (List.take (Try.prog.cellsOf 23) (List.drop 0 _)) = _ at g0
    obtain ⟨y1, g1⟩ := some_of (hf 1 _ rfl) hx (by decide)
    change DataW.trod enc Try.prog w base spare held m 23 (List.take (Try.prog.cellsOf 23) (List.drop 1 _)) = _ at g1
    obtain ⟨y2, g2⟩ := some_of (hf 2 _ rfl) hx (by decide)
    change DataW.trod enc Try.prog w base spare held m 49 (List.take (Try.prog.cellsOf 49) (List.drop 2 _)) = _ at g2
    obtain ⟨y3, g3⟩ := some_of (hf 3 _ rfl) hx (by decide)
    change DataW.trod enc Try.prog w base spare held m 52 (List.take (Try.prog.cellsOf 52) (List.drop 4 _)) = _ at g3
    obtain ⟨y4, g4⟩ := some_of (hf 4 _ rfl) hx (by decide)
    change DataW.trod enc Try.prog w base spare held m 3 (List.take (Try.prog.cellsOf 3) (List.drop 5 _)) = _ at g4
    obtain ⟨y5, g5⟩ := some_of (hf 5 _ rfl) hx (by decide)
    change DataW.trod enc Try.prog w base spare held m 3 (List.take (Try.prog.cellsOf 3) (List.drop 6 _)) = _ at g5
    obtain ⟨y6, g6⟩ := some_of (hf 6 _ rfl) hx (by decide)
    change DataW.trod enc Try.prog w base spare held m 26 (List.take (Try.prog.cellsOf 26) (List.drop 7 _)) = _ at g6
    rw [cells_types] at g0 g1
    rw [cells_type] at g2
    rw [cells_code] at g3
    rw [cells_int] at g4 g5
    rw [cells_ints] at g6
    obtain ⟨A0, k0, l0, e0, s0, _⟩ := slc_types g0
    obtain ⟨A1, k1, l1, e1, s1, _⟩ := slc_types g1
    obtain ⟨A3, k3, l3, e3, s3, _⟩ := slc_code g3
    obtain ⟨v4, e4⟩ := fld_int g4
    obtain ⟨v5, e5⟩ := fld_int g5
    obtain ⟨A6, k6, l6, e6, s6, _⟩ := slc_ints g6
    obtain ⟨r, hr0, hr1⟩ := opens_type m _ y2 (off_ p 2) (fun j u hu => by
      match j, hu with
      | 0, hu => simp at hu; subst hu; have := hc 2 _ rfl; rw [add_off _ (by decide)] at this; rwa [add_0]
      | 1, hu => simp at hu; subst hu; have := hc 3 _ rfl; rw [add_off _ (by decide)] at this; rwa [add_off _ (by decide)]
      | j + 2, hu => simp at hu) g2 (by simp)
    simp at e0 e1 e3 e4 e5 e6
    subst e0 e1 e3 e4 e5 e6
    refine ⟨⟨l0, l1, r, l3, v4, v5, l6⟩, ⟨A0, k0, ?_, s0⟩, ⟨A1, k1, ?_, s1⟩, hr0, ?_, ⟨A3, k3, ?_, s3⟩, ?_, ?_, ⟨A6, k6, ?_, s6⟩⟩
    · have := hc 0 _ rfl; rwa [add_0] at this
    · have := hc 1 _ rfl; rwa [add_off _ (by decide)] at this
    · exact hr1
    · have := hc 4 _ rfl; rwa [add_off _ (by decide)] at this
    · have := hc 5 _ rfl; rwa [add_off _ (by decide)] at this
    · have := hc 6 _ rfl; rwa [add_off _ (by decide)] at this
    · have := hc 7 _ rfl; rwa [add_off _ (by decide)] at this

/-- An image by value. -/
theorem open_image {r : Reach} {b0 : Nat} {v : Value} {d : DataW H} {p : List MemPlace} (hv : Value.okWide Try.prog w r b0 28 v) (h : DataW.Trod enc Try.prog w base spare held 28 v d p) :
    ∃ (hd : Hnd) (m : Img), v = imgV hd m ∧ ImgIn w w.heap.size hd m := by
  obtain ⟨cs, rfl, hsz⟩ := okWide_struct Try.underlying28 hv
  obtain ⟨fuel, hf⟩ := h
  have hsz' : cs.size = 7 := hsz.trans (by kernel_rfl)
  obtain ⟨xs, m, _, _, _, hx, hf⟩ := DataW.trod_struct Try.underlying28 hf
  obtain ⟨l⟩ := cs
  have hl : l.length = 7 := hsz'
  match l, hl with
  | [c0, c1, c2, c3, c4, c5, c6], _ =>
    obtain ⟨y0, g0⟩ := some_of (hf 0 _ rfl) hx (by decide)
    change DataW.trod enc Try.prog w base spare held m 22 (List.take (Try.prog.cellsOf 22) (List.drop 0 _)) = _ at g0
    obtain ⟨y1, g1⟩ := some_of (hf 1 _ rfl) hx (by decide)
    change DataW.trod enc Try.prog w base spare held m 23 (List.take (Try.prog.cellsOf 23) (List.drop 1 _)) = _ at g1
    obtain ⟨y2, g2⟩ := some_of (hf 2 _ rfl) hx (by decide)
    change DataW.trod enc Try.prog w base spare held m 24 (List.take (Try.prog.cellsOf 24) (List.drop 2 _)) = _ at g2
    obtain ⟨y3, g3⟩ := some_of (hf 3 _ rfl) hx (by decide)
    change DataW.trod enc Try.prog w base spare held m 25 (List.take (Try.prog.cellsOf 25) (List.drop 3 _)) = _ at g3
    obtain ⟨y4, g4⟩ := some_of (hf 4 _ rfl) hx (by decide)
    change DataW.trod enc Try.prog w base spare held m 26 (List.take (Try.prog.cellsOf 26) (List.drop 4 _)) = _ at g4
    obtain ⟨y5, g5⟩ := some_of (hf 5 _ rfl) hx (by decide)
    change DataW.trod enc Try.prog w base spare held m 3 (List.take (Try.prog.cellsOf 3) (List.drop 5 _)) = _ at g5
    obtain ⟨y6, g6⟩ := some_of (hf 6 _ rfl) hx (by decide)
    change DataW.trod enc Try.prog w base spare held m 3 (List.take (Try.prog.cellsOf 3) (List.drop 6 _)) = _ at g6
    rw [show Try.prog.cellsOf 22 = 1 by kernel_rfl] at g0
    rw [cells_types] at g1
    rw [show Try.prog.cellsOf 24 = 1 by kernel_rfl] at g2
    rw [show Try.prog.cellsOf 25 = 1 by kernel_rfl] at g3
    rw [cells_ints] at g4
    rw [cells_int] at g5 g6
    obtain ⟨A0, k0, l0, e0, s0, _⟩ := open_rowOf Try.underlying22 (by kernel_rfl) (by decide) opens_class g0
    obtain ⟨A1, k1, l1, e1, s1, _⟩ := slc_types g1
    obtain ⟨A2, k2, l2, e2, s2, _⟩ := slc_longs g2
    obtain ⟨A3, k3, l3, e3, s3, _⟩ := open_rowOf Try.underlying25 (by kernel_rfl) (by decide) opens_method g3
    obtain ⟨A4, k4, l4, e4, s4, _⟩ := slc_ints g4
    obtain ⟨v5, e5⟩ := fld_int g5
    obtain ⟨v6, e6⟩ := fld_int g6
    simp [Value.cells] at e0 e1 e2 e3 e4 e5 e6
    subst e0 e1 e2 e3 e4 e5 e6
    exact ⟨⟨A0, A1, A2, A3, A4, k0, k1, k2, k3, k4⟩, ⟨l0, l1, l2, l3, l4, v5, v6⟩, rfl, s0, s1, s2, s3, s4⟩
end
end Go.Proofs.Ytefgepppcmhphaa
