/-
  What an image that came in reads as, with how large its lists can be: no slice that comes in is of more bytes than there may be. Plain lemmas; no conditions.
-/
import Derived.Test.YtcehkmnneimdeaaImgOpen
import Derived.SizedLaws
namespace Go.Proofs.Ytcehkmnneimdeaa
set_option maxRecDepth 100000
set_option linter.unusedVariables false
set_option linter.unusedSimpArgs false
open Go.ChangeShapes Go.WideShapes Go.Deep Go.Joins Go.RowKit
set_option linter.unusedVariables false

/-- The lists of a class, a method, an image are of no more bytes than a slice that comes in may be. -/
def ClsSized (c : Cls) : Prop := c.fields.length * 16 ≤ 140737488351232 ∧ c.slots.length * 8 ≤ 140737488351232
def MthSized (x : Mth) : Prop := x.args.length * 16 ≤ 140737488351232 ∧ x.locals.length * 16 ≤ 140737488351232 ∧ x.code.length * 24 ≤ 140737488351232 ∧ x.phi.length * 8 ≤ 140737488351232
structure ImgSized (m : Img) : Prop where
  classes : m.classes.length * 56 ≤ 140737488351232
  statics : m.statics.length * 16 ≤ 140737488351232
  ints : m.ints.length * 4 ≤ 140737488351232
  methods : m.methods.length * 128 ≤ 140737488351232
  entries : m.entries.length * 8 ≤ 140737488351232
  ct : ∀ c ∈ m.classes, ClsSized c
  mt : ∀ x ∈ m.methods, MthSized x

section
variable {α H : Type} {enc : TypeId × Value → H} {P : Program} {w : World} {base : Nat} {held : Bool} {spare : Nat → Bool}
/-- No part of a datum is too large. -/
def Light (P : Program) (t : TypeId) (d : DataW H) : Prop := ∀ n ∈ d.weights P t, n ≤ 140737488351232
theorem light_elems {e : TypeId} : ∀ {l : List (DataW H)} {d : DataW H}, d ∈ l → ∀ n ∈ d.weights P e, n ∈ DataW.weightsAll P e l
  | [], _, h, _, _ => by simp at h
  | x :: r, d, h, n, hn => by
    simp only [DataW.weightsAll, List.mem_append]
    rcases List.mem_cons.mp h with rfl | h
    · exact .inl hn
    · exact .inr (light_elems h n hn)
theorem light_slice {t e : TypeId} {elems spare' : List (DataW H)} (ht : P.underlying t = some (.slice e)) (h : Light P t (.slice elems spare')) : (elems.length + spare'.length) * P.bytesOf e ≤ 140737488351232 ∧ ∀ d ∈ elems, Light P e d :=
  ⟨h _ (by simp [DataW.weights, ht]), fun d hd n hn => h n (by
    simp only [DataW.weights, ht, List.mem_cons, List.mem_append]
    exact .inr (.inl (light_elems hd n hn)))⟩
theorem light_field {t : TypeId} {fs : Array Field} {xs : List (DataW H × List MemPlace)} {d : DataW H} (ht : P.underlying t = some (.struct fs)) (hd : d = .agg (xs.map (·.1))) (h : Light P t d) {j : Nat} {f : Field} {y : DataW H × List MemPlace}
    (hf : fs[j]? = some f) (hy : xs[j]? = some y) : Light P f.type y.1 := fun n hn => by
  subst hd
  refine h n ?_
  simp only [DataW.weights, ht]
  exact DataW.weights_mem_each (j := j) (by simp [hf]) (by simp [hy]) n hn

/-- What cells of a type read as, and how large it is. -/
def OpensZ (enc : TypeId × Value → H) (P : Program) (w : World) (base : Nat) (spare : Nat → Bool) (held : Bool) (e : TypeId) (k : Nat) (At : AtP α) (Z : α → Prop) : Prop :=
  ∀ (n : Nat) (cs : List Value) (y : DataW H × List MemPlace) (p : Addr), (∀ j u, cs[j]? = some u → w.cell? (p.add j) = some u) → DataW.trod enc P w base spare held n e cs = some y → cs.length = k → ∃ x : α, At w w.heap.size p x ∧ (Light P e y.1 → Z x)

theorem open_rowOfZ {t e : TypeId} {k fuel b : Nat} {cs : List Value} {x : DataW H × List MemPlace} {At : AtP α} {Z : α → Prop} (ht : P.underlying t = some (.slice e)) (hC : P.cellsOf e = k) (hby : P.bytesOf e = b) (hk : 0 < k) (hO : OpensZ enc P w base spare held e k At Z)
    (h : DataW.trod enc P w base spare held fuel t cs = some x) : ∃ A cap l, cs = [.slice A l.length cap] ∧ SlcIs At k w w.heap.size A cap l ∧ (Light P t x.1 → l.length * b ≤ 140737488351232 ∧ ∀ y ∈ l, Z y) := by
  rcases open_slice ht h with ⟨hcs, _⟩ | ⟨a, len, cap, m, n, D, Pl, hcs, _, hl, hm, hmm, hx, hi⟩
  · exact ⟨none, 0, [], hcs, ⟨Nat.le_refl _, by omega, RowOf.nil⟩, fun _ => ⟨by simp, fun y hy => by simp at hy⟩⟩
  · have hml : len ≤ m := by rw [hmm]; split <;> omega
    obtain ⟨l, hLl, hL⟩ := gather (R := fun i (y : α) => (At w w.heap.size (a.add (i * k)) y ∧ a.block < w.heap.size) ∧ (Light P e (D i) → Z y)) len fun i hil => by
      obtain ⟨cs', hc, ht'⟩ := hi i (by omega)
      rw [hC] at hc
      obtain ⟨_, hcl, hat⟩ := World.cells?_some hc
      have hat' : ∀ j u, cs'[j]? = some u → w.cell? ((a.add (i * k)).add j) = some u := fun j u hu => by
        have hj : j < k := by
          rcases Nat.lt_or_ge j k with g | g
          · exact g
          · rw [List.getElem?_eq_none (by omega)] at hu; cases hu
        exact (hat j hj).trans hu
      obtain ⟨y, hy, hz⟩ := hO n cs' _ (a.add (i * k)) hat' ht' hcl
      refine ⟨y, ⟨hy, ?_⟩, hz⟩
      have h0 := hat' 0 (cs'[0]'(by omega)) (List.getElem?_eq_getElem (by omega))
      have := World.block_lt_of_cell? w _ h0
      rwa [addr_add_block, addr_add_block] at this
    refine ⟨some a, cap, l, by rw [hLl]; exact hcs, ⟨by omega, by unfold maxLen at hm; omega, fun i y hy => ⟨a, rfl, (hL i y hy).1.2, (hL i y hy).1.1⟩⟩, fun hw => ?_⟩
    rw [hx] at hw
    obtain ⟨h1, h2⟩ := light_slice ht hw
    rw [hby] at h1
    simp only [List.length_map, List.length_range] at h1
    refine ⟨Nat.le_trans (Nat.mul_le_mul_right _ (by omega)) h1, fun y hy => ?_⟩
    obtain ⟨i, hi'⟩ := List.getElem?_of_mem hy
    have hil : i < len := by
      rcases Nat.lt_or_ge i l.length with g | g
      · omega
      · rw [List.getElem?_eq_none g] at hi'; cases hi'
    exact (hL i y hi').2 (h2 _ (List.mem_map.mpr ⟨i, List.mem_range.mpr hil, rfl⟩))
theorem OpensZ.of {e : TypeId} {k : Nat} {At : AtP α} (h : Opens enc P w base spare held e k At) : OpensZ enc P w base spare held e k At (fun _ => True) := fun n cs y p h1 h2 h3 => by
  obtain ⟨x, hx⟩ := h n cs y p h1 h2 h3
  exact ⟨x, hx, fun _ => trivial⟩
end

section
variable {H : Type} {enc : TypeId × Value → H} {w : World} {base : Nat} {held : Bool} {spare : Nat → Bool}
theorem slc_typesZ {n : Nat} {cs : List Value} {y : DataW H × List MemPlace} (h : DataW.trod enc Try.prog w base spare held n 23 cs = some y) : ∃ A cap l, cs = [.slice A l.length cap] ∧ SlcIs TyAt 2 w w.heap.size A cap l ∧ (Light Try.prog 23 y.1 → l.length * 16 ≤ 140737488351232 ∧ ∀ t ∈ l, True) :=
  open_rowOfZ Try.underlying23 cells_type (by kernel_rfl) (by decide) (OpensZ.of opens_type) h
theorem slc_intsZ {n : Nat} {cs : List Value} {y : DataW H × List MemPlace} (h : DataW.trod enc Try.prog w base spare held n 26 cs = some y) : ∃ A cap l, cs = [.slice A l.length cap] ∧ SlcIs IntAt 1 w w.heap.size A cap l ∧ (Light Try.prog 26 y.1 → l.length * 8 ≤ 140737488351232 ∧ ∀ t ∈ l, True) :=
  open_rowOfZ Try.underlying26 cells_int (by kernel_rfl) (by decide) (OpensZ.of opens_int) h
theorem slc_codeZ {n : Nat} {cs : List Value} {y : DataW H × List MemPlace} (h : DataW.trod enc Try.prog w base spare held n 41 cs = some y) : ∃ A cap l, cs = [.slice A l.length cap] ∧ SlcIs CodeAt 3 w w.heap.size A cap l ∧ (Light Try.prog 41 y.1 → l.length * 24 ≤ 140737488351232 ∧ ∀ t ∈ l, True) :=
  open_rowOfZ Try.underlying41 (by kernel_rfl) (by kernel_rfl) (by decide) (OpensZ.of opens_code) h
theorem slc_longsZ {n : Nat} {cs : List Value} {y : DataW H × List MemPlace} (h : DataW.trod enc Try.prog w base spare held n 24 cs = some y) : ∃ A cap l, cs = [.slice A l.length cap] ∧ SlcIs LongAt 1 w w.heap.size A cap l ∧ (Light Try.prog 24 y.1 → l.length * 4 ≤ 140737488351232 ∧ ∀ t ∈ l, True) :=
  open_rowOfZ Try.underlying24 (by kernel_rfl) (by kernel_rfl) (by decide) (OpensZ.of opens_long) h

theorem opens_classZ : OpensZ enc Try.prog w base spare held 50 3 ClsAt ClsSized := fun n cs y p hc h hl => by
  obtain ⟨xs, m, _, hxe, _, hx, hf⟩ := DataW.trod_struct Try.underlying50 h
  match cs, hl with
  | [c0, c1, c2], _ =>
    obtain ⟨y0, g0⟩ := some_of (hf 0 _ rfl) hx (by decide)
    have w0 := (hf 0 _ rfl).symm.trans g0
    change DataW.trod enc Try.prog w base spare held m 3 (List.take (Try.prog.cellsOf 3) (List.drop 0 _)) = _ at g0
    obtain ⟨y1, g1⟩ := some_of (hf 1 _ rfl) hx (by decide)
    have w1 := (hf 1 _ rfl).symm.trans g1
    change DataW.trod enc Try.prog w base spare held m 23 (List.take (Try.prog.cellsOf 23) (List.drop 1 _)) = _ at g1
    obtain ⟨y2, g2⟩ := some_of (hf 2 _ rfl) hx (by decide)
    have w2 := (hf 2 _ rfl).symm.trans g2
    change DataW.trod enc Try.prog w base spare held m 26 (List.take (Try.prog.cellsOf 26) (List.drop 2 _)) = _ at g2
    rw [cells_int] at g0
    rw [cells_types] at g1
    rw [cells_ints] at g2
    obtain ⟨v0, e0, r0⟩ := fld_intR g0
    obtain ⟨A1, k1, l1, e1, s1, zl1⟩ := slc_typesZ g1
    obtain ⟨A2, k2, l2, e2, s2, zl2⟩ := slc_intsZ g2
    simp at e0 e1 e2
    subst e0 e1 e2
    refine ⟨⟨v0, l1, l2⟩, ⟨?_, ⟨A1, k1, ?_, s1⟩, ⟨A2, k2, ?_, s2⟩, r0⟩, fun hw => ⟨(zl1 (light_field Try.underlying50 (congrArg Prod.fst hxe) hw (j := 1) rfl w1)).1, (zl2 (light_field Try.underlying50 (congrArg Prod.fst hxe) hw (j := 2) rfl w2)).1⟩⟩
    · have := hc 0 _ rfl; rwa [add_0] at this
    · have := hc 1 _ rfl; rwa [add_off _ (by decide)] at this
    · have := hc 2 _ rfl; rwa [add_off _ (by decide)] at this
theorem opens_methodZ : OpensZ enc Try.prog w base spare held 43 8 MthAt MthSized := fun n cs y p hc h hl => by
  obtain ⟨xs, m, _, hxe, _, hx, hf⟩ := DataW.trod_struct Try.underlying43 h
  match cs, hl with
  | [c0, c1, c2, c3, c4, c5, c6, c7], _ =>
    obtain ⟨y0, g0⟩ := some_of (hf 0 _ rfl) hx (by decide)
    have w0 := (hf 0 _ rfl).symm.trans g0
    change DataW.trod enc Try.prog w base spare held m 23 (List.take (Try.prog.cellsOf 23) (List.drop 0 _)) = _ at g0
    obtain ⟨y1, g1⟩ := some_of (hf 1 _ rfl) hx (by decide)
    have w1 := (hf 1 _ rfl).symm.trans g1
    change DataW.trod enc Try.prog w base spare held m 23 (List.take (Try.prog.cellsOf 23) (List.drop 1 _)) = _ at g1
    obtain ⟨y2, g2⟩ := some_of (hf 2 _ rfl) hx (by decide)
    have w2 := (hf 2 _ rfl).symm.trans g2
    change DataW.trod enc Try.prog w base spare held m 40 (List.take (Try.prog.cellsOf 40) (List.drop 2 _)) = _ at g2
    obtain ⟨y3, g3⟩ := some_of (hf 3 _ rfl) hx (by decide)
    have w3 := (hf 3 _ rfl).symm.trans g3
    change DataW.trod enc Try.prog w base spare held m 41 (List.take (Try.prog.cellsOf 41) (List.drop 4 _)) = _ at g3
    obtain ⟨y4, g4⟩ := some_of (hf 4 _ rfl) hx (by decide)
    have w4 := (hf 4 _ rfl).symm.trans g4
    change DataW.trod enc Try.prog w base spare held m 3 (List.take (Try.prog.cellsOf 3) (List.drop 5 _)) = _ at g4
    obtain ⟨y5, g5⟩ := some_of (hf 5 _ rfl) hx (by decide)
    have w5 := (hf 5 _ rfl).symm.trans g5
    change DataW.trod enc Try.prog w base spare held m 3 (List.take (Try.prog.cellsOf 3) (List.drop 6 _)) = _ at g5
    obtain ⟨y6, g6⟩ := some_of (hf 6 _ rfl) hx (by decide)
    have w6 := (hf 6 _ rfl).symm.trans g6
    change DataW.trod enc Try.prog w base spare held m 26 (List.take (Try.prog.cellsOf 26) (List.drop 7 _)) = _ at g6
    rw [cells_types] at g0 g1
    rw [cells_type] at g2
    rw [cells_code] at g3
    rw [cells_int] at g4 g5
    rw [cells_ints] at g6
    obtain ⟨A0, k0, l0, e0, s0, zl0⟩ := slc_typesZ g0
    obtain ⟨A1, k1, l1, e1, s1, zl1⟩ := slc_typesZ g1
    obtain ⟨A3, k3, l3, e3, s3, zl3⟩ := slc_codeZ g3
    obtain ⟨v4, e4⟩ := fld_int g4
    obtain ⟨v5, e5⟩ := fld_int g5
    obtain ⟨A6, k6, l6, e6, s6, zl6⟩ := slc_intsZ g6
    obtain ⟨r, hr0, hr1⟩ := opens_type m _ y2 (off_ p 2) (fun j u hu => by
      match j, hu with
      | 0, hu => simp at hu; subst hu; have := hc 2 _ rfl; rw [add_off _ (by decide)] at this; rwa [add_0]
      | 1, hu => simp at hu; subst hu; have := hc 3 _ rfl; rw [add_off _ (by decide)] at this; rwa [add_off _ (by decide)]
      | j + 2, hu => simp at hu) g2 (by simp)
    simp at e0 e1 e3 e4 e5 e6
    subst e0 e1 e3 e4 e5 e6
    refine ⟨⟨l0, l1, r, l3, v4, v5, l6⟩, ⟨⟨A0, k0, ?_, s0⟩, ⟨A1, k1, ?_, s1⟩, hr0, ?_, ⟨A3, k3, ?_, s3⟩, ?_, ?_, ⟨A6, k6, ?_, s6⟩⟩, fun hw => ⟨(zl0 (light_field Try.underlying43 (congrArg Prod.fst hxe) hw (j := 0) rfl w0)).1, (zl1 (light_field Try.underlying43 (congrArg Prod.fst hxe) hw (j := 1) rfl w1)).1, (zl3 (light_field Try.underlying43 (congrArg Prod.fst hxe) hw (j := 3) rfl w3)).1, (zl6 (light_field Try.underlying43 (congrArg Prod.fst hxe) hw (j := 6) rfl w6)).1⟩⟩
    · have := hc 0 _ rfl; rwa [add_0] at this
    · have := hc 1 _ rfl; rwa [add_off _ (by decide)] at this
    · exact hr1
    · have := hc 4 _ rfl; rwa [add_off _ (by decide)] at this
    · have := hc 5 _ rfl; rwa [add_off _ (by decide)] at this
    · have := hc 6 _ rfl; rwa [add_off _ (by decide)] at this
    · have := hc 7 _ rfl; rwa [add_off _ (by decide)] at this

/-- An image by value. -/
theorem open_imageZ {r : Reach} {b0 : Nat} {v : Value} {d : DataW H} {p : List MemPlace} (hv : Value.okWide Try.prog w r b0 28 v) (h : DataW.Trod enc Try.prog w base spare held 28 v d p) :
    ∃ (hd : Hnd) (m : Img), v = imgV hd m ∧ ImgIn w w.heap.size hd m ∧ (Light Try.prog 28 d → ImgSized m) := by
  obtain ⟨cs, rfl, hsz⟩ := okWide_struct Try.underlying28 hv
  obtain ⟨fuel, hf⟩ := h
  have hsz' : cs.size = 7 := hsz.trans (by kernel_rfl)
  obtain ⟨xs, m, _, hxe, _, hx, hf⟩ := DataW.trod_struct Try.underlying28 hf
  obtain ⟨l⟩ := cs
  have hl : l.length = 7 := hsz'
  match l, hl with
  | [c0, c1, c2, c3, c4, c5, c6], _ =>
    obtain ⟨y0, g0⟩ := some_of (hf 0 _ rfl) hx (by decide)
    have w0 := (hf 0 _ rfl).symm.trans g0
    change DataW.trod enc Try.prog w base spare held m 22 (List.take (Try.prog.cellsOf 22) (List.drop 0 _)) = _ at g0
    obtain ⟨y1, g1⟩ := some_of (hf 1 _ rfl) hx (by decide)
    have w1 := (hf 1 _ rfl).symm.trans g1
    change DataW.trod enc Try.prog w base spare held m 23 (List.take (Try.prog.cellsOf 23) (List.drop 1 _)) = _ at g1
    obtain ⟨y2, g2⟩ := some_of (hf 2 _ rfl) hx (by decide)
    have w2 := (hf 2 _ rfl).symm.trans g2
    change DataW.trod enc Try.prog w base spare held m 24 (List.take (Try.prog.cellsOf 24) (List.drop 2 _)) = _ at g2
    obtain ⟨y3, g3⟩ := some_of (hf 3 _ rfl) hx (by decide)
    have w3 := (hf 3 _ rfl).symm.trans g3
    change DataW.trod enc Try.prog w base spare held m 25 (List.take (Try.prog.cellsOf 25) (List.drop 3 _)) = _ at g3
    obtain ⟨y4, g4⟩ := some_of (hf 4 _ rfl) hx (by decide)
    have w4 := (hf 4 _ rfl).symm.trans g4
    change DataW.trod enc Try.prog w base spare held m 26 (List.take (Try.prog.cellsOf 26) (List.drop 4 _)) = _ at g4
    obtain ⟨y5, g5⟩ := some_of (hf 5 _ rfl) hx (by decide)
    have w5 := (hf 5 _ rfl).symm.trans g5
    change DataW.trod enc Try.prog w base spare held m 3 (List.take (Try.prog.cellsOf 3) (List.drop 5 _)) = _ at g5
    obtain ⟨y6, g6⟩ := some_of (hf 6 _ rfl) hx (by decide)
    have w6 := (hf 6 _ rfl).symm.trans g6
    change DataW.trod enc Try.prog w base spare held m 3 (List.take (Try.prog.cellsOf 3) (List.drop 6 _)) = _ at g6
    rw [show Try.prog.cellsOf 22 = 1 by kernel_rfl] at g0
    rw [cells_types] at g1
    rw [show Try.prog.cellsOf 24 = 1 by kernel_rfl] at g2
    rw [show Try.prog.cellsOf 25 = 1 by kernel_rfl] at g3
    rw [cells_ints] at g4
    rw [cells_int] at g5 g6
    obtain ⟨A0, k0, l0, e0, s0, zl0⟩ := open_rowOfZ (b := 56) Try.underlying22 (by kernel_rfl) (by kernel_rfl) (by decide) opens_classZ g0
    obtain ⟨A1, k1, l1, e1, s1, zl1⟩ := slc_typesZ g1
    obtain ⟨A2, k2, l2, e2, s2, zl2⟩ := slc_longsZ g2
    obtain ⟨A3, k3, l3, e3, s3, zl3⟩ := open_rowOfZ (b := 128) Try.underlying25 (by kernel_rfl) (by kernel_rfl) (by decide) opens_methodZ g3
    obtain ⟨A4, k4, l4, e4, s4, zl4⟩ := slc_intsZ g4
    obtain ⟨v5, e5⟩ := fld_int g5
    obtain ⟨v6, e6⟩ := fld_int g6
    simp [Value.cells] at e0 e1 e2 e3 e4 e5 e6
    subst e0 e1 e2 e3 e4 e5 e6
    exact ⟨⟨A0, A1, A2, A3, A4, k0, k1, k2, k3, k4⟩, ⟨l0, l1, l2, l3, l4, v5, v6⟩, rfl, ⟨s0, s1, s2, s3, s4⟩, fun hw => ⟨(zl0 (light_field Try.underlying28 (congrArg Prod.fst hxe) hw (j := 0) rfl w0)).1, (zl1 (light_field Try.underlying28 (congrArg Prod.fst hxe) hw (j := 1) rfl w1)).1, (zl2 (light_field Try.underlying28 (congrArg Prod.fst hxe) hw (j := 2) rfl w2)).1, (zl3 (light_field Try.underlying28 (congrArg Prod.fst hxe) hw (j := 3) rfl w3)).1, (zl4 (light_field Try.underlying28 (congrArg Prod.fst hxe) hw (j := 4) rfl w4)).1, (zl0 (light_field Try.underlying28 (congrArg Prod.fst hxe) hw (j := 0) rfl w0)).2, (zl3 (light_field Try.underlying28 (congrArg Prod.fst hxe) hw (j := 3) rfl w3)).2⟩⟩
end
end Go.Proofs.Ytcehkmnneimdeaa
