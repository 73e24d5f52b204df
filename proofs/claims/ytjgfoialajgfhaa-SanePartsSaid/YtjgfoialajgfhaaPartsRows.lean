/-
  An image of which one list is another one, in new memory: rows of the call's own of numbers, types, classes. Plain lemmas; no conditions.
-/
import Derived.Test.YtjgfoialajgfhaaPartsMath
import Derived.Test.YtjgfoialajgfhaaCodeRow
import Derived.Test.YtjgfoialajgfhaaSaneLaws
namespace Go.Proofs.Ytjgfoialajgfhaa
set_option maxRecDepth 100000
set_option linter.unusedVariables false
set_option linter.unusedSimpArgs false
open Go.ChangeShapes Go.WideShapes Go.ChangeAt Go.RowKit
set_option linter.unusedVariables false
set_option linter.unusedSimpArgs false

theorem info_long : (Try.prog.info? 21).map (fun i => (i.zero, i.size, i.bytes)) = some (some (.int .i32 0), 1, 4) := by kernel_rfl
theorem info_cls : (Try.prog.info? 44).map (fun i => (i.zero, i.size, i.bytes)) = some (some (.agg #[.int .i64 0, .slice none 0 0, .slice none 0 0]), 3, 56) := by kernel_rfl
/-- Numbers of 32 bits, cell by cell. -/
def lngV (l : List Int) : List Value := l.map (Value.int .i32)
theorem lngV_one (l : List Int) : ∀ u ∈ lngV l, u.oneCell' = true := fun u hu => by
  obtain ⟨t, _, rfl⟩ := List.mem_map.mp hu
  rfl
theorem lngV_len (l : List Int) : (lngV l).length = l.length * 1 := by simp [lngV]
theorem lng_lie {w : World} {B : Nat} {A : Option Addr} {l : List Int} (h : RowOf LongAt 1 w B A l) : Lies w B A (lngV l) := fun j u hu => by
  unfold lngV at hu
  rw [List.getElem?_map] at hu
  cases hx : l[j]? with
  | none => rw [hx] at hu; cases hu
  | some n =>
    rw [hx] at hu
    simp at hu
    subst hu
    obtain ⟨ad, e, hb, h0, _⟩ := h j n hx
    rw [Nat.mul_one] at h0
    exact ⟨ad, e, hb, h0⟩
theorem row_long {w : World} {B : Nat} {A : Option Addr} {l : List Int} (h : RowOf LongAt 1 w B A l) : ∀ n ∈ l, -2147483648 ≤ n ∧ n ≤ 2147483647 := fun n hn => by
  obtain ⟨i, hi⟩ := List.getElem?_of_mem hn
  obtain ⟨ad, e, hb, h0, h1⟩ := h i n hi
  exact h1
theorem own_longs1 {w : World} {B e : Nat} {v : Value} {l : List Int} {n : Int} (h : w.ownsRow B e 1 v (l.length + 1) (lngV l ++ [.int .i32 n])) (hr : ∀ x ∈ l, -2147483648 ≤ x ∧ x ≤ 2147483647) (hn : -2147483648 ≤ n ∧ n ≤ 2147483647) :
    ∃ g c, v = .slice (some ⟨g, 0, none⟩) (l.length + 1) c ∧ SlcIs LongAt 1 w w.heap.size (some ⟨g, 0, none⟩) c (l ++ [n]) := by
  rcases ownK_slice h with ⟨_, hz⟩ | ⟨g, c, rfl, h1, h2⟩
  · omega
  · obtain ⟨hb, hc⟩ := ownK_cell h
    refine ⟨g, c, rfl, by simpa using h1, h2, fun i x hi => ?_⟩
    have hx : (lngV l ++ [.int .i32 n])[i]? = some (.int .i32 x) := by
      have : lngV l ++ [.int .i32 n] = lngV (l ++ [n]) := by simp [lngV]
      rw [this]
      unfold lngV
      rw [List.getElem?_map, hi]
      rfl
    obtain ⟨c0, hg⟩ := hc i _ hx
    refine ⟨_, rfl, hg, by rw [addg, Nat.mul_one]; exact c0, ?_⟩
    rcases List.mem_append.mp (List.mem_of_getElem? hi) with q | q
    · exact hr x q
    · simp at q
      subst q
      exact hn
theorem own_types1 {w : World} {B e : Nat} {v : Value} {l : List (Int × Int)} {t : Int × Int} (h : w.ownsRow B e 2 v (l.length + 1) (tysV l ++ [.int .i64 t.1, .int .i64 t.2])) :
    ∃ g c, v = .slice (some ⟨g, 0, none⟩) (l.length + 1) c ∧ SlcIs TyAt 2 w w.heap.size (some ⟨g, 0, none⟩) c (l ++ [t]) := by
  have e1 : tysV l ++ [.int .i64 t.1, .int .i64 t.2] = tysV (l ++ [t]) := by simp [tysV, tyC]
  have e2 : l.length + 1 = (l ++ [t]).length := by simp
  rw [e1, e2] at h
  rcases ownK_slice h with ⟨_, hz⟩ | ⟨g, c, rfl, h1, h2⟩
  · simp at hz
  · obtain ⟨A, c', e3, h3, _⟩ := own_types h
    injection e3 with e3 _ e4
    subst e3 e4
    exact ⟨g, c, by rw [e2], h3⟩

/-- Where a class's lists are. -/
structure CHnd where
  A1 : Option Addr
  A2 : Option Addr
  k1 : Nat
  k2 : Nat
/-- Classes, cell by cell. -/
def clsC (z : Cls × CHnd) : List Value := [.int .i64 z.1.sup, .slice z.2.A1 z.1.fields.length z.2.k1, .slice z.2.A2 z.1.slots.length z.2.k2]
def clsW (zs : List (Cls × CHnd)) : List Value := zs.flatMap clsC
theorem clsW_len (l : List (Cls × CHnd)) : (clsW l).length = l.length * 3 := flat_length (f := clsC) (k := 3) (fun _ => rfl) l
theorem clsW_one (l : List (Cls × CHnd)) : ∀ u ∈ clsW l, u.oneCell' = true := fun u hu => by
  obtain ⟨t, _, h⟩ := List.mem_flatMap.mp hu
  simp [clsC] at h
  rcases h with rfl | rfl | rfl <;> rfl
/-- Their lists stand. -/
def ClsGood (w : World) (B : Nat) (z : Cls × CHnd) : Prop := SlcIs TyAt 2 w B z.2.A1 z.2.k1 z.1.fields ∧ SlcIs IntAt 1 w B z.2.A2 z.2.k2 z.1.slots ∧ -9223372036854775808 ≤ z.1.sup ∧ z.1.sup ≤ 9223372036854775807
theorem ClsGood.now {w w' : World} {z : Cls × CHnd} (h : ClsGood w w.heap.size z) (hb : Below w.heap.size w w') : ClsGood w' w'.heap.size z :=
  ⟨(h.1.below_to TyAt.keeps hb (Nat.le_refl _)).keep' TyAt.keeps hb.size (fun _ _ => rfl), (h.2.1.below_to IntAt.keeps hb (Nat.le_refl _)).keep' IntAt.keeps hb.size (fun _ _ => rfl), h.2.2⟩
theorem choose_row {α β : Type} {Q : Nat → α → β → Prop} : ∀ (l : List α) (k : Nat), (∀ i x, l[i]? = some x → ∃ y, Q (k + i) x y) → ∃ zs : List (α × β), zs.map (·.1) = l ∧ ∀ i z, zs[i]? = some z → Q (k + i) z.1 z.2
  | [], k, _ => ⟨[], rfl, fun i z h => by simp at h⟩
  | a :: l, k, h => by
    obtain ⟨y, hy⟩ := h 0 a rfl
    obtain ⟨zs, e, hz⟩ := choose_row (Q := Q) l (k + 1) fun i x hi => by
      have := h (i + 1) x (by simpa using hi)
      rwa [show k + 1 + i = k + (i + 1) by omega]
    refine ⟨(a, y) :: zs, by simp [e], fun i z hi => ?_⟩
    match i, hi with
    | 0, hi => simp at hi; subst hi; exact hy
    | i + 1, hi =>
      have := hz i z (by simpa using hi)
      rwa [show k + (i + 1) = k + 1 + i by omega]
theorem cls_lie {w : World} {B : Nat} {A : Option Addr} {l : List Cls} (h : RowOf ClsAt 3 w B A l) : ∃ zs : List (Cls × CHnd), zs.map (·.1) = l ∧ Lies w B A (clsW zs) ∧ ∀ z ∈ zs, ClsGood w B z := by
  obtain ⟨zs, e, hz⟩ := choose_row (Q := fun i (x : Cls) (y : CHnd) => ClsGood w B (x, y) ∧ ∃ ad, A = some ad ∧ ad.block < B ∧ w.cell? (ad.add (i * 3)) = some (.int .i64 x.sup) ∧ w.cell? (off_ (ad.add (i * 3)) 1) = some (.slice y.A1 x.fields.length y.k1) ∧ w.cell? (off_ (ad.add (i * 3)) 2) = some (.slice y.A2 x.slots.length y.k2)) l 0 (fun i x hi => by
    obtain ⟨ad, e, hb, ⟨s0, ⟨A1, k1, s1, hs1⟩, ⟨A2, k2, s2, hs2⟩, sr⟩⟩ := h i x hi
    exact ⟨⟨A1, A2, k1, k2⟩, ⟨hs1, hs2, sr⟩, ad, e, hb, by simpa using s0, by simpa using s1, by simpa using s2⟩)
  refine ⟨zs, e, fun j u hu => ?_, fun z hz' => ?_⟩
  · obtain ⟨i, r, t, rfl, hr, hi, hv⟩ := flat_at (f := clsC) (k := 3) (by decide) (fun _ => rfl) zs j u hu
    obtain ⟨_, ad, e, hb, h0, h1, h2⟩ := hz i t hi
    rw [Nat.zero_add] at h0 h1 h2
    refine ⟨ad, e, hb, ?_⟩
    match r, hr, hv with
    | 0, _, hv => simp [clsC] at hv; subst hv; exact h0
    | 1, _, hv =>
      simp [clsC] at hv
      subst hv
      rw [← addr_add_add, add_off1 _ 1 (by decide)]
      exact h1
    | 2, _, hv =>
      simp [clsC] at hv
      subst hv
      rw [← addr_add_add, add_off1 _ 2 (by decide)]
      exact h2
  · obtain ⟨i, hi⟩ := List.getElem?_of_mem hz'
    exact (hz i z hi).1
theorem own_cls1 {w : World} {B e n : Nat} {v : Value} {zs : List (Cls × CHnd)} (hn : zs.length = n) (h : w.ownsRow B e 3 v (n + 1) (clsW zs ++ [.int .i64 (-1), .slice none 0 0, .slice none 0 0])) (hg : ∀ z ∈ zs, ClsGood w w.heap.size z) :
    ∃ g c, v = .slice (some ⟨g, 0, none⟩) (n + 1) c ∧ SlcIs ClsAt 3 w w.heap.size (some ⟨g, 0, none⟩) c (zs.map (·.1) ++ [⟨-1, [], []⟩]) := by
  subst hn
  have e1 : clsW zs ++ [.int .i64 (-1), .slice none 0 0, .slice none 0 0] = clsW (zs ++ [(⟨-1, [], []⟩, ⟨none, none, 0, 0⟩)]) := by simp [clsW, clsC]
  have hg' : ∀ z ∈ zs ++ [((⟨-1, [], []⟩ : Cls), (⟨none, none, 0, 0⟩ : CHnd))], ClsGood w w.heap.size z := fun z hz => by
    rcases List.mem_append.mp hz with q | q
    · exact hg z q
    · simp at q
      subst q
      exact ⟨slc_none, slc_none, by decide, by decide⟩
  have e2 : zs.map (·.1) ++ [(⟨-1, [], []⟩ : Cls)] = (zs ++ [((⟨-1, [], []⟩ : Cls), (⟨none, none, 0, 0⟩ : CHnd))]).map (·.1) := by simp
  have e3 : zs.length + 1 = (zs ++ [((⟨-1, [], []⟩ : Cls), (⟨none, none, 0, 0⟩ : CHnd))]).length := by simp
  rw [e1, e3] at h
  rw [e2, e3]
  generalize zs ++ [((⟨-1, [], []⟩ : Cls), (⟨none, none, 0, 0⟩ : CHnd))] = ys at *
  rcases ownK_slice h with ⟨_, hz⟩ | ⟨g, c, rfl, h1, h2⟩
  · omega
  · obtain ⟨hb, hc⟩ := ownK_cell h
    refine ⟨g, c, rfl, by simpa using h1, h2, fun i x hi => ?_⟩
    rw [List.getElem?_map] at hi
    cases hz : ys[i]? with
    | none => rw [hz] at hi; cases hi
    | some z =>
      rw [hz] at hi
      simp at hi
      subst hi
      have e0 := hc _ _ (flat_get (f := clsC) (k := 3) (fun _ => rfl) ys i 0 z hz (by decide))
      have e1 := hc _ _ (flat_get (f := clsC) (k := 3) (fun _ => rfl) ys i 1 z hz (by decide))
      have e2 := hc _ _ (flat_get (f := clsC) (k := 3) (fun _ => rfl) ys i 2 z hz (by decide))
      have hgz := hg' z (List.mem_of_getElem? hz)
      refine ⟨_, rfl, e0.2, ?_, ⟨_, _, ?_, hgz.1⟩, ⟨_, _, ?_, hgz.2.1⟩, hgz.2.2⟩ <;> rw [addg]
      · exact e0.1
      · exact e1.1
      · exact e2.1

section
variable {m : Img} {h : Hnd} {w0 w : World} {r n : Int} {A : Option Addr} {c : Nat}
theorem check_ent (HI : Hid (ImgIn w0 w0.heap.size h m)) (HX : Hid (Below w0.heap.size w0 w)) (HR : Hid (saneR (noEnt m) = r)) :
    Calls Try.prog 8 #[.agg #[.slice h.A0 m.classes.length h.c0, .slice h.A1 m.statics.length h.c1, .slice h.A2 m.ints.length h.c2, .slice h.A3 m.methods.length h.c3, .slice none 0 0, .int .i64 m.stack, .int .i64 m.heap]] w fun e w' => e = .returned (.int .i64 r) ∧ Below w.heap.size w w' :=
  scheck_is (h := { h with A4 := none, c4 := 0 }) (m := noEnt m) (Lib.hid ⟨HI.out.classes, HI.out.statics, HI.out.ints, HI.out.methods, slc_none⟩) HX HR
theorem check_int (HI : Hid (ImgIn w0 w0.heap.size h m)) (HS : Hid (SlcIs LongAt 1 w0 w0.heap.size A c (m.ints ++ [n]))) (HX : Hid (Below w0.heap.size w0 w)) (HR : Hid (saneR (oneInt m n) = r)) :
    Calls Try.prog 8 #[.agg #[.slice h.A0 m.classes.length h.c0, .slice h.A1 m.statics.length h.c1, .slice A (m.ints.length + 1) c, .slice h.A3 m.methods.length h.c3, .slice h.A4 m.entries.length h.c4, .int .i64 m.stack, .int .i64 m.heap]] w fun e w' => e = .returned (.int .i64 r) ∧ Below w.heap.size w w' := by
  have H := scheck_is (h := { h with A2 := A, c2 := c }) (m := oneInt m n) (Lib.hid ⟨HI.out.classes, HI.out.statics, HS.out, HI.out.methods, HI.out.entries⟩) HX HR
  unfold imgV at H
  rw [show (oneInt m n).ints.length = m.ints.length + 1 by simp] at H
  exact H
theorem check_stat (HI : Hid (ImgIn w0 w0.heap.size h m)) (HS : Hid (SlcIs TyAt 2 w0 w0.heap.size A c (m.statics ++ [(2, 0)]))) (HX : Hid (Below w0.heap.size w0 w)) (HR : Hid (saneR (oneStat m) = r)) :
    Calls Try.prog 8 #[.agg #[.slice h.A0 m.classes.length h.c0, .slice A (m.statics.length + 1) c, .slice h.A2 m.ints.length h.c2, .slice h.A3 m.methods.length h.c3, .slice h.A4 m.entries.length h.c4, .int .i64 m.stack, .int .i64 m.heap]] w fun e w' => e = .returned (.int .i64 r) ∧ Below w.heap.size w w' := by
  have H := scheck_is (h := { h with A1 := A, c1 := c }) (m := oneStat m) (Lib.hid ⟨HI.out.classes, HS.out, HI.out.ints, HI.out.methods, HI.out.entries⟩) HX HR
  unfold imgV at H
  rw [show (oneStat m).statics.length = m.statics.length + 1 by simp] at H
  exact H
theorem check_cls (HI : Hid (ImgIn w0 w0.heap.size h m)) (HS : Hid (SlcIs ClsAt 3 w0 w0.heap.size A c (m.classes ++ [⟨-1, [], []⟩]))) (HX : Hid (Below w0.heap.size w0 w)) (HR : Hid (saneR (oneCls m) = r)) :
    Calls Try.prog 8 #[.agg #[.slice A (m.classes.length + 1) c, .slice h.A1 m.statics.length h.c1, .slice h.A2 m.ints.length h.c2, .slice h.A3 m.methods.length h.c3, .slice h.A4 m.entries.length h.c4, .int .i64 m.stack, .int .i64 m.heap]] w fun e w' => e = .returned (.int .i64 r) ∧ Below w.heap.size w w' := by
  have H := scheck_is (h := { h with A0 := A, c0 := c }) (m := oneCls m) (Lib.hid ⟨HS.out, HI.out.statics, HI.out.ints, HI.out.methods, HI.out.entries⟩) HX HR
  unfold imgV at H
  rw [show (oneCls m).classes.length = m.classes.length + 1 by simp] at H
  exact H
end
end Go.Proofs.Ytjgfoialajgfhaa
