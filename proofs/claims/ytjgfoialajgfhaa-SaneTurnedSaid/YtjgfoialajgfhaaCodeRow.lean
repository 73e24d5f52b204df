/-
  Instructions in a row of the call's own; an image of which one method's instructions are others; a cell that is written and put back. Plain lemmas; no conditions.
-/
import Derived.Test.YtjgfoialajgfhaaRefMethod
import Derived.ProofKit
import Derived.Laws.OwnMore
namespace Go.Proofs.Ytjgfoialajgfhaa
set_option maxRecDepth 100000
set_option linter.unusedVariables false
set_option linter.unusedSimpArgs false
open Go.ChangeShapes Go.WideShapes Go.ChangeAt Go.RowKit
set_option linter.unusedVariables false
set_option linter.unusedSimpArgs false

theorem info_ins : (Try.prog.info? 41).map (fun i => (i.zero, i.size, i.bytes)) = some (some (.agg #[.int .i64 0, .int .i64 0, .int .i64 0]), 3, 24) := by kernel_rfl
/-- Instructions, cell by cell. -/
def codC (t : Int × Int × Int) : List Value := [.int .i64 t.1, .int .i64 t.2.1, .int .i64 t.2.2]
def codV (l : List (Int × Int × Int)) : List Value := l.flatMap codC
theorem codV_len (l : List (Int × Int × Int)) : (codV l).length = l.length * 3 := flat_length (f := codC) (k := 3) (fun _ => rfl) l
theorem codV_one (l : List (Int × Int × Int)) : ∀ u ∈ codV l, u.oneCell' = true := fun u hu => by
  obtain ⟨t, _, h⟩ := List.mem_flatMap.mp hu
  simp [codC] at h
  rcases h with rfl | rfl | rfl <;> rfl
theorem add_off1 (a : Addr) (i : Nat) (hi : 0 < i) : a.add i = off_ a i := by unfold Addr.add; split <;> simp_all
theorem cod_lie {w : World} {B : Nat} {A : Option Addr} {l : List (Int × Int × Int)} (h : RowOf CodeAt 3 w B A l) : Lies w B A (codV l) := fun j u hu => by
  obtain ⟨i, r, t, rfl, hr, hi, hv⟩ := flat_at (f := codC) (k := 3) (by decide) (fun _ => rfl) l j u hu
  obtain ⟨ad, e, hb, h0, h1, h2⟩ := h i t hi
  refine ⟨ad, e, hb, ?_⟩
  match r, hr, hv with
  | 0, _, hv => simp [codC] at hv; subst hv; exact h0
  | 1, _, hv =>
    simp [codC] at hv
    subst hv
    rw [← addr_add_add, add_off1 _ 1 (by decide)]
    exact h1
  | 2, _, hv =>
    simp [codC] at hv
    subst hv
    rw [← addr_add_add, add_off1 _ 2 (by decide)]
    exact h2
theorem addg (g n : Nat) : (Addr.add ⟨g, 0, none⟩ n) = ⟨g, n, none⟩ := by
  unfold Addr.add; split
  · rename_i h0; rw [h0]
  · simp
theorem own_codeB {w : World} {B e g c : Nat} {l : List (Int × Int × Int)} (h : w.ownsRow B e 3 (.slice (some ⟨g, 0, none⟩) l.length c) l.length (codV l)) (hp : 0 < l.length) : SlcIs CodeAt 3 w w.heap.size (some ⟨g, 0, none⟩) c l ∧ B ≤ g ∧ g < w.heap.size := by
  rcases ownK_slice h with ⟨hn, _⟩ | ⟨g', c', h0, h1, h2⟩
  · cases hn
  · injection h0 with h0 _ h3
    simp at h0
    subst h0 h3
    obtain ⟨hb, hc⟩ := ownK_cell h
    have hrow : ∀ i t, l[i]? = some t → g < w.heap.size ∧ w.cell? ⟨g, i * 3, none⟩ = some (.int .i64 t.1) ∧ w.cell? ⟨g, i * 3 + 1, none⟩ = some (.int .i64 t.2.1) ∧ w.cell? ⟨g, i * 3 + 2, none⟩ = some (.int .i64 t.2.2) := fun i t hi =>
      have e0 := hc _ _ (flat_get (f := codC) (k := 3) (fun _ => rfl) l i 0 t hi (by decide))
      have e1 := hc _ _ (flat_get (f := codC) (k := 3) (fun _ => rfl) l i 1 t hi (by decide))
      have e2 := hc _ _ (flat_get (f := codC) (k := 3) (fun _ => rfl) l i 2 t hi (by decide))
      ⟨e0.2, e0.1, e1.1, e2.1⟩
    refine ⟨⟨h1, h2, fun i t hi => ?_⟩, hb, (hrow 0 _ (List.getElem?_eq_getElem hp)).1⟩
    obtain ⟨hg, q0, q1, q2⟩ := hrow i t hi
    refine ⟨_, rfl, hg, ?_, ?_, ?_⟩ <;> rw [addg] <;> assumption
theorem codV_set : ∀ (l : List (Int × Int × Int)) (j : Nat) (t : Int × Int × Int) (a b : Int), l[j]? = some t → ((codV l).set (j * 3 + 1) (.int .i64 a)).set (j * 3 + 2) (.int .i64 b) = codV (l.set j (t.1, a, b))
  | [], j, t, a, b, h => by simp at h
  | x :: l, 0, t, a, b, h => by
    simp at h
    subst h
    simp [codV, codC]
  | x :: l, j + 1, t, a, b, h => by
    have ih := codV_set l j t a b (by simpa using h)
    have e1 : (j + 1) * 3 + 1 = (j * 3 + 1) + 3 := by omega
    have e2 : (j + 1) * 3 + 2 = (j * 3 + 2) + 3 := by omega
    rw [e1, e2]
    show ((codC x ++ codV l).set _ _).set _ _ = codC x ++ codV (l.set j (t.1, a, b))
    rw [← ih]
    simp [codC]

/-- A cell that holds a slice is written: what holds numbers is as it was. -/
theorem int_kept {w : World} {c p : Addr} {A : Option Addr} {n k : Nat} {v : Value} {K : IntKind} {z : Int} (hc : w.cell? c = some (.slice A n k)) (h : w.cell? p = some (.int K z)) : (w.setCell c v).cell? p = some (.int K z) := by
  rw [World.cell?_setCell_other (h := fun e => by subst e; rw [hc] at h; cases h)]
  exact h
theorem slc_kept {α : Type} {At : AtP α} {k : Nat} {w w' : World} {B C : Nat} {A : Option Addr} {cap : Nat} {l : List α} (h : SlcIs At k w B A cap l) (hC : B ≤ C) (hk : ∀ (p : Addr) x, p.block < B → At w B p x → At w' C p x) : SlcIs At k w' C A cap l :=
  ⟨h.le, h.cap, fun i x hi => by
    obtain ⟨ad, e, hb, hx⟩ := h.row i x hi
    exact ⟨ad, e, Nat.lt_of_lt_of_le hb hC, hk _ _ (by rw [addr_add_block]; exact hb) hx⟩⟩
theorem add_block_off (a : Addr) (n : Nat) : (a.add n).block = a.block ∧ (a.add n).off = a.off + n := by
  unfold Addr.add; split <;> simp_all
/-- One method's instructions are others, in new memory: the image is the one with these. -/
theorem img_code {w : World} {B C : Nat} {h : Hnd} {m : Img} {k : Nat} {x : Mth} {ad : Addr} {A A' : Option Addr} {n0 c0 c : Nat} {L : List (Int × Int × Int)} (H : ImgIn w B h m) (hx : m.methods[k]? = some x) (ha : h.A3 = some ad)
    (hc : w.cell? (off_ (ad.add (k * 8)) 4) = some (.slice A n0 c0)) (hC : B ≤ C)
    (hl : SlcIs CodeAt 3 (w.setCell (off_ (ad.add (k * 8)) 4) (.slice A' L.length c)) C A' c L) :
    ImgIn (w.setCell (off_ (ad.add (k * 8)) 4) (.slice A' L.length c)) C h { m with methods := m.methods.set k { x with code := L } } := by
  have hty : ∀ (p : Addr) t, p.block < B → TyAt w B p t → TyAt (w.setCell (off_ (ad.add (k * 8)) 4) (.slice A' L.length c)) C p t := fun p t _ g => ⟨int_kept hc g.1, int_kept hc g.2⟩
  have hin : ∀ (p : Addr) t, p.block < B → IntAt w B p t → IntAt (w.setCell (off_ (ad.add (k * 8)) 4) (.slice A' L.length c)) C p t := fun p t _ g => int_kept hc g
  have hlo : ∀ (p : Addr) t, p.block < B → LongAt w B p t → LongAt (w.setCell (off_ (ad.add (k * 8)) 4) (.slice A' L.length c)) C p t := fun p t _ g => ⟨int_kept hc g.1, g.2⟩
  have hco : ∀ (p : Addr) t, p.block < B → CodeAt w B p t → CodeAt (w.setCell (off_ (ad.add (k * 8)) 4) (.slice A' L.length c)) C p t := fun p t _ g => ⟨int_kept hc g.1, int_kept hc g.2.1, int_kept hc g.2.2⟩
  obtain ⟨adx, ex, hbx, hmx⟩ := H.methods.row k x hx
  obtain rfl : ad = adx := by rw [ha] at ex; injection ex
  obtain ⟨eb, eo⟩ := add_block_off ad (k * 8)
  refine ⟨slc_kept H.classes hC ?_, slc_kept H.statics hC hty, slc_kept H.ints hC hlo, ⟨by simpa using H.methods.le, H.methods.cap, ?_⟩, slc_kept H.entries hC hin⟩
  · rintro p x' _ ⟨s0, ⟨A1, k1, s1, hs1⟩, ⟨A2, k2, s2, hs2⟩, sr⟩
    have n1 : off_ (ad.add (k * 8)) 4 ≠ off_ p 1 := fun e => by
      have e2 : off_ p 2 = off_ (ad.add (k * 8)) 5 := by
        simp only [Addr.mk.injEq] at e ⊢
        exact ⟨e.1.symm, by omega, trivial⟩
      rw [e2, hmx.depth] at s2
      cases s2
    have n2 : off_ (ad.add (k * 8)) 4 ≠ off_ p 2 := fun e => by
      have e2 : off_ p 1 = off_ (ad.add (k * 8)) 3 := by
        simp only [Addr.mk.injEq] at e ⊢
        exact ⟨e.1.symm, by omega, trivial⟩
      rw [e2, hmx.ret1] at s1
      cases s1
    exact ⟨int_kept hc s0, ⟨A1, k1, (World.cell?_setCell_other (h := n1) ..).trans s1, slc_kept hs1 hC hty⟩, ⟨A2, k2, (World.cell?_setCell_other (h := n2) ..).trans s2, slc_kept hs2 hC hin⟩, sr⟩
  · intro i x' hi
    have hil : i < m.methods.length := by
      have h2 : i < (m.methods.set k { x with code := L }).length := (List.getElem?_eq_some_iff.mp hi).1
      rw [List.length_set] at h2
      exact h2
    obtain ⟨adi, ei, hbi, hmi⟩ := H.methods.row.at_ hil
    obtain rfl : ad = adi := by rw [ha] at ei; injection ei
    obtain ⟨fb, fo⟩ := add_block_off ad (i * 8)
    have ne : ∀ j, (i * 8 + j ≠ k * 8 + 4) → off_ (ad.add (k * 8)) 4 ≠ off_ (ad.add (i * 8)) j := fun j hj e => by
      simp only [Addr.mk.injEq] at e
      omega
    have ne0 : off_ (ad.add (k * 8)) 4 ≠ ad.add (i * 8) := fun e => by
      have := congrArg Addr.off e
      simp only at this
      omega
    refine ⟨ad, ha, Nat.lt_of_lt_of_le hbi hC, ?_⟩
    by_cases hik : i = k
    · subst hik
      obtain ⟨_, e1⟩ := List.getElem?_eq_some_iff.mp hx
      have hi : (m.methods.set i { x with code := L })[i]? = some x' := hi
      rw [e1] at hmi
      obtain rfl : x' = { x with code := L } := by
        have e3 : (m.methods.set i { x with code := L })[i]? = some { x with code := L } := List.getElem?_set_self hil
        exact Option.some.inj (hi.symm.trans e3)
      obtain ⟨⟨A0, k0, s0, hs0⟩, ⟨A1, k1, s1, hs1⟩, s2, s3, _, s5, s6, ⟨A7, k7, s7, hs7⟩⟩ := hmi
      exact ⟨⟨A0, k0, (World.cell?_setCell_other (h := ne0) ..).trans s0, slc_kept hs0 hC hty⟩, ⟨A1, k1, (World.cell?_setCell_other (h := ne 1 (by omega)) ..).trans s1, slc_kept hs1 hC hty⟩, int_kept hc s2, int_kept hc s3,
        ⟨A', c, World.cell?_setCell_same (h := hc) .., hl⟩, int_kept hc s5, int_kept hc s6, ⟨A7, k7, (World.cell?_setCell_other (h := ne 7 (by omega)) ..).trans s7, slc_kept hs7 hC hin⟩⟩
    · have hi : (m.methods.set k { x with code := L })[i]? = some x' := hi
      have e1 : x' = m.methods[i] := by
        rw [List.getElem?_set_ne (fun e => hik e.symm), List.getElem?_eq_getElem hil] at hi
        injection hi with hi
        exact hi.symm
      rw [e1]
      obtain ⟨⟨A0, k0, s0, hs0⟩, ⟨A1, k1, s1, hs1⟩, s2, s3, ⟨A4, k4, s4, hs4⟩, s5, s6, ⟨A7, k7, s7, hs7⟩⟩ := hmi
      exact ⟨⟨A0, k0, (World.cell?_setCell_other (h := ne0) ..).trans s0, slc_kept hs0 hC hty⟩, ⟨A1, k1, (World.cell?_setCell_other (h := ne 1 (by omega)) ..).trans s1, slc_kept hs1 hC hty⟩, int_kept hc s2, int_kept hc s3,
        ⟨A4, k4, (World.cell?_setCell_other (h := ne 4 (by omega)) ..).trans s4, slc_kept hs4 hC hco⟩, int_kept hc s5, int_kept hc s6, ⟨A7, k7, (World.cell?_setCell_other (h := ne 7 (by omega)) ..).trans s7, slc_kept hs7 hC hin⟩⟩

/-- A cell is written, and later put back: nothing that was there has changed. -/
theorem below_restore {w w' : World} {b o : Nat} {v old : Value} (hc : w.cell? ⟨b, o, none⟩ = some old) (hb : Below (w.setCell ⟨b, o, none⟩ v).heap.size (w.setCell ⟨b, o, none⟩ v) w') : Below w.heap.size w (w'.setCell ⟨b, o, none⟩ old) := by
  have hs : (w.setCell ⟨b, o, none⟩ v).heap.size = w.heap.size := World.size_setCell ..
  rw [hs] at hb
  refine ⟨hb.os, hb.tape, hb.output, by rw [World.size_setCell]; have := hb.size; rw [hs] at this; exact this, fun i hi => ?_⟩
  by_cases e : i = b
  · subst e
    have h1 : w'.heap[i]? = (w.setCell ⟨i, o, none⟩ v).heap[i]? := hb.block i hi
    simp only [World.setCell, Array.getElem?_modify, if_pos] at h1 ⊢
    rw [h1]
    cases hh : w.heap[i]? with
    | none => rfl
    | some ob =>
      cases ob with
      | cells cs t fr =>
        simp [World.cell?, hh] at hc
        simp only [Option.map_some, Option.isSome_none, Bool.false_eq_true, if_false, Option.some.injEq]
        congr 1
        apply Array.ext_getElem?
        intro j
        simp only [Array.getElem?_setIfInBounds]
        by_cases ej : o = j
        · subst ej
          obtain ⟨hl, hv⟩ := Array.getElem?_eq_some_iff.mp hc
          simp [hl, hv]
        · simp [ej]
      | _ => rfl
  · rw [heap_setCell_other _ _ _ _ e]
    exact (hb.block i hi).trans (heap_setCell_other _ _ _ _ e)
end Go.Proofs.Ytjgfoialajgfhaa
