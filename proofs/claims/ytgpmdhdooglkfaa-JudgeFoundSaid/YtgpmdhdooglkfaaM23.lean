/-
  Which images the laws of a step, and of right types, speak of, as plain data. Plain definitions; no conditions.
  The fixed image of the statements on one instruction, on right types, on calls: where it stands. Plain definitions and lemmas; no conditions.
  What a step comes to when the stack holds more below. Plain lemmas; no conditions.
  Plain facts of when a type fits another: through a third, itself. No conditions.
  What a step comes to when the stack's types fit another stack's. Plain lemmas; no conditions.
  What an instruction of a sane image gives is a type that fits itself. Plain lemmas; no conditions.
  Shapes, and whether types are right, as plain data. Plain definitions and lemmas; no conditions.
  A row of shapes of the call's own, written place by place. Plain definitions and lemmas; no conditions.
  A row of shapes of the call's own whose operands lie in blocks of the call's own, all different, and are turned in place. Plain definitions and lemmas; no conditions.
-/
import Derived.Test.YtgpmdhdooglkfaaM22
import Derived.Test.YtgpmdhdooglkfaaM19
import Derived.Test.YtgpmdhdooglkfaaM21
import Derived.Test.YtgpmdhdooglkfaaM01
import Derived.Test.YtgpmdhdooglkfaaM03
import Derived.OwnWalk
import Derived.Deep.RegionHeld3
namespace Go.Proofs.Ytgpmdhdooglkfaa
set_option maxRecDepth 100000
set_option linter.unusedVariables false
set_option linter.unusedSimpArgs false
open Go.ChangeShapes Go.WideShapes Go.ChangeAt Go.RowKit

def saneB8 (m : Img) : Bool := decide (m.methods.length ≤ 12) && (decide (m.classes.length ≤ 8) && (decide (m.ints.length ≤ 16) && decide (saneR m = 0)))
theorem saneB8_yes {m : Img} (h : saneB8 m = true) : SaneI m := by
  unfold saneB8 at h
  simp only [Bool.and_eq_true, decide_eq_true_eq] at h
  exact saneI h.2.2.2

end Go.Proofs.Ytgpmdhdooglkfaa
namespace Go.Proofs.Ytgpmdhdooglkfaa
set_option maxRecDepth 100000
set_option linter.unusedVariables false
set_option linter.unusedSimpArgs false
open Go.ChangeShapes Go.WideShapes Go.ChangeAt Go.RowKit

theorem rsane_is {m : Img} {h : Hnd} {w0 w : World} {r : Int} (HI : Hid (ImgIn w0 w0.heap.size h m)) (HX : Hid (Below w0.heap.size w0 w)) (HR : Hid (saneR m = r)) : Calls Try.prog 14 #[imgV h m] w fun e w' => e = .returned (.int .i64 r) ∧ Below w.heap.size w w' := by
  have H := rsane_any m h w (HI.out.now HX.out)
  rw [HR.out] at H
  exact H
/-- The fixed image. -/
def actM : Img := ⟨[], [], [1], [⟨[], [], (1, 0), [(1, 0, 0), (33, 0, 0)], 0, 0, [0, 0]⟩], [], 0, 0⟩
def actH (N : Nat) : Hnd := ⟨none, none, some ⟨N, 0, none⟩, some ⟨N + 1 + 1 + 1, 0, none⟩, none, 0, 0, 1, 1, 0⟩
theorem act_yes : saneR actM = 0 := sane_yes (by decide) (by
  simp [okB, actM, goodsB, clsOk, methodB, codesB, namedB, retB, entryB, goodB])
theorem act_step1 : stepOf actM 0 0 [] = ⟨[(1, 0)], [1], 0⟩ := by decide
theorem act_step2 : stepOf actM 0 1 [(1, 0)] = ⟨[], [], 0⟩ := by decide
theorem act_step3 : stepOf actM 0 1 [] = ⟨[], [], 4⟩ := by decide
/-- The world in which it stands. -/
abbrev actW (w : World) : World :=
  ((((w.alloc (.cells #[.int .i32 1] 21)).alloc (.cells #[.int .i64 1, .int .i64 0, .int .i64 0, .int .i64 33, .int .i64 0, .int .i64 0] 49)).alloc (.cells #[.int .i64 0, .int .i64 0] 3)).alloc
    (.cells #[.slice none 0 0, .slice none 0 0, .int .i64 1, .int .i64 0, .slice (some ⟨w.heap.size + 1, 0, none⟩) 2 2, .int .i64 0, .int .i64 0, .slice (some ⟨w.heap.size + 1 + 1, 0, none⟩) 2 2] 52)).alloc
    (.cells #[.slice none 0 0, .slice none 0 0, .slice (some ⟨w.heap.size, 0, none⟩) 1 1, .slice (some ⟨w.heap.size + 1 + 1 + 1, 0, none⟩) 1 1, .slice none 0 0, .int .i64 0, .int .i64 0] 28)
theorem code_two {w : World} {g : Nat} {B : Nat} {x y z x' y' z' : Int} (hg : g < B) (h : Cells w g [.int .i64 x, .int .i64 y, .int .i64 z, .int .i64 x', .int .i64 y', .int .i64 z']) : SlcIs CodeAt 3 w B (some ⟨g, 0, none⟩) 2 [(x, y, z), (x', y', z')] :=
  ⟨Nat.le_refl _, by show 2 ≤ 9223372036854775807; decide, fun i t hi => by
    match i, hi with
    | 0, hi => simp at hi; subst hi; exact ⟨_, rfl, hg, h 0 _ rfl, h 1 _ rfl, h 2 _ rfl⟩
    | 1, hi => simp at hi; subst hi; exact ⟨_, rfl, hg, by rw [show (⟨g, 0, none⟩ : Addr).add (1 * 3) = ⟨g, 3, none⟩ by simp [Addr.add]]; exact ⟨h 3 _ rfl, h 4 _ rfl, h 5 _ rfl⟩⟩
    | i + 2, hi => simp at hi⟩
theorem act_parts (w : World) : Below w.heap.size w (actW w) ∧ (actW w).heap.size = w.heap.size + 1 + 1 + 1 + 1 + 1 ∧ ImgIn (actW w) (actW w).heap.size (actH w.heap.size) actM ∧ ImgBox (actW w) (w.heap.size + 1 + 1 + 1 + 1) (actH w.heap.size) actM := by
  obtain ⟨c0, z0, b0⟩ := cells_step (w := w) rfl [.int .i32 1] 21
  obtain ⟨c1, z1, b1⟩ := cells_step z0 [.int .i64 1, .int .i64 0, .int .i64 0, .int .i64 33, .int .i64 0, .int .i64 0] 49
  obtain ⟨c2, z2, b2⟩ := cells_step z1 [.int .i64 0, .int .i64 0] 3
  obtain ⟨c3, z3, b3⟩ := cells_step z2 [.slice none 0 0, .slice none 0 0, .int .i64 1, .int .i64 0, .slice (some ⟨w.heap.size + 1, 0, none⟩) 2 2, .int .i64 0, .int .i64 0, .slice (some ⟨w.heap.size + 1 + 1, 0, none⟩) 2 2] 52
  obtain ⟨c5, z5, b5⟩ := cells_step z3 [.slice none 0 0, .slice none 0 0, .slice (some ⟨w.heap.size, 0, none⟩) 1 1, .slice (some ⟨w.heap.size + 1 + 1 + 1, 0, none⟩) 1 1, .slice none 0 0, .int .i64 0, .int .i64 0] 28
  have b3' := b3.trans (b5.mono (by omega))
  have b2' := b2.trans (b3'.mono (by omega))
  have b1' := b1.trans (b2'.mono (by omega))
  have c3 := c3.keep b5 (by omega)
  have c2 := c2.keep b3' (by omega)
  have c1 := c1.keep b2' (by omega)
  have c0 := c0.keep b1' (by omega)
  have z : (actW w).heap.size = w.heap.size + 1 + 1 + 1 + 1 + 1 := z5
  have hC : SlcIs CodeAt 3 (actW w) (actW w).heap.size (some ⟨w.heap.size + 1, 0, none⟩) 2 [(1, 0, 0), (33, 0, 0)] := code_two (by omega) c1
  have hP : SlcIs IntAt 1 (actW w) (actW w).heap.size (some ⟨w.heap.size + 1 + 1, 0, none⟩) 2 [0, 0] := int_two (by omega) (c2 0 _ rfl) (c2 1 _ rfl)
  have hM : MthAt (actW w) (actW w).heap.size ⟨w.heap.size + 1 + 1 + 1, 0, none⟩ ⟨[], [], (1, 0), [(1, 0, 0), (33, 0, 0)], 0, 0, [0, 0]⟩ :=
    ⟨⟨none, 0, c3 0 _ rfl, slc_none⟩, ⟨none, 0, c3 1 _ rfl, slc_none⟩, c3 2 _ rfl, c3 3 _ rfl, ⟨_, 2, c3 4 _ rfl, hC⟩, c3 5 _ rfl, c3 6 _ rfl, ⟨_, 2, c3 7 _ rfl, hP⟩⟩
  refine ⟨b0.trans (b1'.mono (by omega)), z, ⟨slc_none, slc_none, ⟨Nat.le_refl _, by show 1 ≤ 9223372036854775807; decide, row_one ⟨c0 0 _ rfl, by decide, by decide⟩ (by omega)⟩, ⟨Nat.le_refl _, by show 1 ≤ 9223372036854775807; decide, row_one hM (by omega)⟩, slc_none⟩,
    ⟨c5 0 _ rfl, c5 1 _ rfl, c5 2 _ rfl, c5 3 _ rfl, c5 4 _ rfl, c5 5 _ rfl, c5 6 _ rfl⟩⟩
section
variable {N : Nat} {w0 w : World}
theorem act_edges (HI : Hid (ImgIn w0 w0.heap.size (actH N) actM)) (HX : Hid (Below w0.heap.size w0 w)) : Calls Try.prog 15 #[imgV (actH N) actM] w fun e w' => ∃ A c, e = .returned (.slice A 1 c) ∧ Below w.heap.size w w' := by
  refine (redges_any actM (actH N) w (HI.out.now HX.out) (by decide) (by decide) (by decide)).mono ?_
  rintro e w' ⟨v, xs, rfl, ho, hb⟩
  rcases ownK_slice ho with ⟨_, hn⟩ | ⟨g, c, rfl, _⟩
  · cases hn
  · exact ⟨_, c, rfl, hb⟩
end
end Go.Proofs.Ytgpmdhdooglkfaa
namespace Go.Proofs.Ytgpmdhdooglkfaa
set_option maxRecDepth 100000
set_option linter.unusedVariables false
set_option linter.unusedSimpArgs false

theorem tail_below {sup : List Int} {op : Int} {TK GV low st : List (Int × Int)} {nl : List Int} (h : (stepTail sup op TK GV nl st).err = 0) (hl : low.length + st.length ≤ 5) (hg : GV.length ≤ 2) :
    stepTail sup op TK GV nl (low ++ st) = ⟨low ++ (stepTail sup op TK GV nl st).after, nl, 0⟩ ∧ (stepTail sup op TK GV nl st).next = nl := by
  by_cases g : st.length < TK.length ∨ 8 < st.length - TK.length + GV.length
  · unfold stepTail at h
    rw [if_pos g] at h
    exact absurd h (show ¬ (4 : Int) = 0 by decide)
  by_cases q : ((st.drop (st.length - TK.length)).zip TK).all (fun p => doesB sup op p.1 p.2) = true
  · have e : stepTail sup op TK GV nl st = ⟨st.take (st.length - TK.length) ++ GV, nl, 0⟩ := by unfold stepTail; rw [if_neg g, if_pos q]
    rw [e]
    refine ⟨?_, rfl⟩
    have hd : (low ++ st).length - TK.length = low.length + (st.length - TK.length) := by rw [List.length_append]; omega
    unfold stepTail
    rw [hd, if_neg (by rw [List.length_append]; omega), List.drop_length_add_append, List.take_length_add_append, if_pos q, List.append_assoc]
  · unfold stepTail at h
    rw [if_neg g, if_neg q] at h
    exact absurd h (show ¬ (4 : Int) = 0 by decide)
theorem takes_below {m : Img} {x : Mth} {op a b : Int} {low st : List (Int × Int)} (h : ¬ (op = 6 ∧ st = [])) : takes m x op a b (low ++ st) = takes m x op a b st := by
  unfold takes
  by_cases h6 : op = 6
  · have hs : st ≠ [] := fun e => h ⟨h6, e⟩
    have hs' : low ++ st ≠ [] := by simp [hs]
    rw [if_pos ⟨h6, hs'⟩, if_pos ⟨h6, hs⟩]
  · rw [if_neg (fun q => h6 q.1), if_neg (fun q => h6 q.1)]
theorem gives_below {m : Img} {x : Mth} {op a b : Int} {low st : List (Int × Int)} (h : ¬ (op = 6 ∧ st = [])) : gives m x op a b (low ++ st) = gives m x op a b st := by
  unfold gives
  by_cases h6 : op = 6
  · have hs : st ≠ [] := fun e => h ⟨h6, e⟩
    have hs' : low ++ st ≠ [] := by simp [hs]
    have hl : (low ++ st).getLast? = st.getLast? := by rw [List.getLast?_append]; cases hq : st.getLast? with
      | none => exact absurd (List.getLast?_eq_none_iff.mp hq) hs
      | some v => rfl
    rw [if_pos ⟨h6, hs'⟩, if_pos ⟨h6, hs⟩, hl]
  · rw [if_neg (fun q => h6 q.1), if_neg (fun q => h6 q.1)]
theorem gives_len (m : Img) (x : Mth) (op a b : Int) (st : List (Int × Int)) : (gives m x op a b st).length ≤ 2 := by
  unfold gives
  exact len_ite (Nat.le_refl _) (giveOf_len m x op a b)
/-- A step that goes well, goes as well with more below. -/
theorem step_below {m : Img} {x : Mth} {pc op a b : Int} {low st : List (Int × Int)} (h : (stepIn m x pc op a b st).err = 0) (h6 : ¬ (op = 6 ∧ st = [])) (hl : low.length + st.length ≤ 5) :
    stepIn m x pc op a b (low ++ st) = ⟨low ++ (stepIn m x pc op a b st).after, (stepIn m x pc op a b st).next, 0⟩ := by
  by_cases ho : (nextOfOp pc op a).head?.any (fun n => decide ((x.code.length : Int) ≤ n)) = true
  · unfold stepIn at h
    rw [if_pos ho] at h
    exact absurd h (show ¬ (4 : Int) = 0 by decide)
  have h6' : ¬ (op = 6 ∧ low ++ st = []) := fun q => h6 ⟨q.1, (List.append_eq_nil_iff.mp q.2).2⟩
  rw [step_tail ho h6] at h
  rw [step_tail ho h6, step_tail ho h6', takes_below h6, gives_below h6]
  obtain ⟨e1, e2⟩ := tail_below h hl (gives_len m x op a b st)
  rw [e1, e2]
theorem stepOf_below {m : Img} {f pc : Int} {low st : List (Int × Int)} (h : (stepOf m f pc st).err = 0) (h6 : ∀ i, (mthN m f).code[pc.toNat]? = some i → ¬ (i.1 = 6 ∧ st = [])) (hl : low.length + st.length ≤ 5) :
    stepOf m f pc (low ++ st) = ⟨low ++ (stepOf m f pc st).after, (stepOf m f pc st).next, 0⟩ := by
  unfold stepOf at h ⊢
  by_cases g : 0 ≤ f ∧ f < m.methods.length ∧ 0 ≤ pc ∧ pc < (mthN m f).code.length
  · rw [if_pos g] at h
    rw [if_pos g, if_pos g]
    cases hi : (mthN m f).code[pc.toNat]? with
    | none => rw [hi] at h; exact absurd h (show ¬ (1 : Int) = 0 by decide)
    | some i => rw [hi] at h; exact step_below h (h6 i hi) hl
  · rw [if_neg g] at h
    exact absurd h (show ¬ (1 : Int) = 0 by decide)
/-- Where the stack is too small for what is taken, the step fails. -/
theorem step_few {m : Img} {x : Mth} {pc op a b : Int} {st : List (Int × Int)} (h : st.length < (takes m x op a b st).length) : (stepIn m x pc op a b st).err = 4 := by
  unfold stepIn
  by_cases ho : (nextOfOp pc op a).head?.any (fun n => decide ((x.code.length : Int) ≤ n)) = true
  · rw [if_pos ho]; rfl
  · rw [if_neg ho, if_pos (Or.inr (Or.inl h))]; rfl
end Go.Proofs.Ytgpmdhdooglkfaa
namespace Go.Proofs.Ytgpmdhdooglkfaa
set_option maxRecDepth 100000
set_option linter.unusedVariables false
set_option linter.unusedSimpArgs false

theorem sub_trans' {sup : List Int} {k n k' n' k'' n'' : Int} (h : subB sup k n k' n' = true) (g : subB sup k' n' k'' n'' = true) : subB sup k n k'' n'' = true := by
  rw [sub_iff] at *
  rcases h with ⟨rfl, h⟩ | ⟨rfl, rfl, h⟩ | ⟨h0, rfl, rfl⟩
  · rcases g with ⟨rfl, g⟩ | ⟨rfl, rfl, g⟩ | ⟨g0, rfl, rfl⟩
    · exact .inl ⟨rfl, g⟩
    · exact .inl ⟨rfl, by omega⟩
    · exact .inl ⟨rfl, h⟩
  · rcases g with ⟨h4, _⟩ | ⟨_, rfl, g⟩ | ⟨g0, _, _⟩
    · omega
    · exact .inr (.inl ⟨rfl, rfl, above_trans h g⟩)
    · omega
  · exact g
/-- May a type be asked after: is its class there, if it has one? -/
def thereP (sup : List Int) (k n : Int) : Prop := k = 3 → 0 ≤ n ∧ n < sup.length
theorem sub_refl' {sup : List Int} {k n : Int} (hk : k = 1 ∨ k = 2 ∨ k = 3 ∨ k = 4) (ht : thereP sup k n) : subB sup k n k n = true := by
  rw [sub_iff]
  rcases hk with rfl | rfl | rfl | rfl
  · exact .inr (.inr ⟨.inl rfl, rfl, rfl⟩)
  · exact .inr (.inr ⟨.inr rfl, rfl, rfl⟩)
  · exact .inr (.inl ⟨rfl, rfl, above_self (ht rfl).1 (ht rfl).2⟩)
  · exact .inl ⟨rfl, by omega⟩
theorem sub_kinds {sup : List Int} {k n k' n' : Int} (h : subB sup k n k' n' = true) : (k = 1 ∨ k = 2 ∨ k = 3 ∨ k = 4) ∧ (k' = 1 ∨ k' = 2 ∨ k' = 3 ∨ k' = 4) := by
  rw [sub_iff] at h
  omega
end Go.Proofs.Ytgpmdhdooglkfaa
namespace Go.Proofs.Ytgpmdhdooglkfaa
set_option maxRecDepth 100000
set_option linter.unusedVariables false
set_option linter.unusedSimpArgs false

/-- Each of these types fits the other list's at its place. -/
def FitsAll (sup : List Int) (s t : List (Int × Int)) : Prop := s.length = t.length ∧ ∀ (i : Nat) (h1 : i < s.length) (h2 : i < t.length), subB sup s[i].1 s[i].2 t[i].1 t[i].2 = true
theorem isref_back {sup : List Int} {k n k' n' : Int} (h : subB sup k n k' n' = true) (g : isRefB k' = true) : isRefB k = true := by
  rw [sub_iff] at h
  unfold isRefB at g ⊢
  rw [decide_eq_true_eq] at g ⊢
  omega
theorem ints_back {sup : List Int} {k n k' n' : Int} (h : subB sup k n k' n' = true) (g : k = 2) : k' = 2 := by
  rw [sub_iff] at h
  omega
theorem does_fits {sup : List Int} {op : Int} {a b u : Int × Int} (h : subB sup a.1 a.2 b.1 b.2 = true) (g : doesB sup op b u = true) : doesB sup op a u = true := by
  unfold doesB at g ⊢
  by_cases h0 : u.1 = 0
  · rw [if_pos h0]
  rw [if_neg h0] at g ⊢
  by_cases h4 : u.1 = 4
  · rw [if_pos h4] at g ⊢
    simp only [Bool.and_eq_true, Bool.not_eq_true', Bool.and_eq_false_iff, decide_eq_false_iff_not] at g ⊢
    exact ⟨isref_back h g.1, g.2.imp id (fun q r => q (ints_back h r))⟩
  · rw [if_neg h4] at g ⊢
    exact sub_trans' h g
theorem FitsAll.take {sup : List Int} {s t : List (Int × Int)} (h : FitsAll sup s t) (d : Nat) : FitsAll sup (s.take d) (t.take d) := by
  refine ⟨by rw [List.length_take, List.length_take, h.1], fun i h1 h2 => ?_⟩
  rw [List.getElem_take, List.getElem_take]
  exact h.2 i _ _
theorem FitsAll.append {sup : List Int} {s t u v : List (Int × Int)} (h : FitsAll sup s t) (g : FitsAll sup u v) : FitsAll sup (s ++ u) (t ++ v) := by
  refine ⟨by rw [List.length_append, List.length_append, h.1, g.1], fun i h1 h2 => ?_⟩
  by_cases q : i < s.length
  · rw [List.getElem_append_left q, List.getElem_append_left (by rw [← h.1]; exact q)]
    exact h.2 i _ _
  · rw [List.getElem_append_right (by omega), List.getElem_append_right (by rw [← h.1]; omega)]
    have e : i - t.length = i - s.length := by rw [h.1]
    simp only [e]
    exact g.2 _ _ _
theorem all_fits {sup : List Int} {op : Int} {s t TK : List (Int × Int)} (h : FitsAll sup s t) (g : (t.zip TK).all (fun p => doesB sup op p.1 p.2) = true) : (s.zip TK).all (fun p => doesB sup op p.1 p.2) = true := by
  rw [List.all_eq_true] at g ⊢
  intro p hp
  obtain ⟨i, hi, rfl⟩ := List.getElem_of_mem hp
  rw [List.length_zip] at hi
  have h1 : i < s.length := by omega
  have h2 : i < t.length := by rw [← h.1]; exact h1
  have h3 : i < TK.length := by omega
  have hz : i < (t.zip TK).length := by rw [List.length_zip]; omega
  have q := g _ (List.getElem_mem hz)
  rw [List.getElem_zip] at q ⊢
  exact does_fits (h.2 i h1 h2) q
theorem FitsAll.drop {sup : List Int} {s t : List (Int × Int)} (h : FitsAll sup s t) (d : Nat) : FitsAll sup (s.drop d) (t.drop d) := by
  refine ⟨by rw [List.length_drop, List.length_drop, h.1], fun i h1 h2 => ?_⟩
  rw [List.getElem_drop, List.getElem_drop]
  exact h.2 _ _ _
theorem tail_fits {sup : List Int} {op : Int} {TK GV GV' s t : List (Int × Int)} {nl : List Int} (h : FitsAll sup s t) (hg : FitsAll sup GV' GV) (e : (stepTail sup op TK GV nl t).err = 0) :
    (stepTail sup op TK GV' nl s).err = 0 ∧ (stepTail sup op TK GV' nl s).next = (stepTail sup op TK GV nl t).next ∧ FitsAll sup (stepTail sup op TK GV' nl s).after (stepTail sup op TK GV nl t).after := by
  by_cases g : t.length < TK.length ∨ 8 < t.length - TK.length + GV.length
  · unfold stepTail at e
    rw [if_pos g] at e
    exact absurd e (show ¬ (4 : Int) = 0 by decide)
  by_cases q : ((t.drop (t.length - TK.length)).zip TK).all (fun p => doesB sup op p.1 p.2) = true
  · have e1 : stepTail sup op TK GV nl t = ⟨t.take (t.length - TK.length) ++ GV, nl, 0⟩ := by unfold stepTail; rw [if_neg g, if_pos q]
    have e2 : stepTail sup op TK GV' nl s = ⟨s.take (t.length - TK.length) ++ GV', nl, 0⟩ := by
      unfold stepTail
      rw [h.1, hg.1, if_neg g, if_pos (all_fits (h.drop _) q)]
    rw [e1, e2]
    exact ⟨rfl, rfl, (h.take _).append hg⟩
  · unfold stepTail at e
    rw [if_neg g, if_neg q] at e
    exact absurd e (show ¬ (4 : Int) = 0 by decide)
theorem FitsAll.nil_iff {sup : List Int} {s t : List (Int × Int)} (h : FitsAll sup s t) : s = [] ↔ t = [] := by
  rw [← List.length_eq_zero_iff, ← List.length_eq_zero_iff, h.1]
theorem FitsAll.last {sup : List Int} {s t : List (Int × Int)} (h : FitsAll sup s t) (hs : s ≠ []) : subB sup (s.getLast?.getD (0, 0)).1 (s.getLast?.getD (0, 0)).2 (t.getLast?.getD (0, 0)).1 (t.getLast?.getD (0, 0)).2 = true := by
  have h0 : 0 < s.length := List.length_pos_iff.mpr hs
  have h1 : s.length - 1 < s.length := by omega
  have h2 : s.length - 1 < t.length := by rw [← h.1]; exact h1
  rw [List.getLast?_eq_getElem?, List.getLast?_eq_getElem?, ← h.1, List.getElem?_eq_getElem h1, List.getElem?_eq_getElem h2]
  exact h.2 _ _ _
theorem FitsAll.self {sup : List Int} {s : List (Int × Int)} (h : ∀ t ∈ s, subB sup t.1 t.2 t.1 t.2 = true) : FitsAll sup s s := ⟨rfl, fun _ h1 _ => h _ (List.getElem_mem h1)⟩
theorem takes_fits {m : Img} {x : Mth} {op a b : Int} {s t : List (Int × Int)} {sup : List Int} (h : FitsAll sup s t) : takes m x op a b s = takes m x op a b t := by
  unfold takes
  by_cases hs : s = []
  · rw [hs, h.nil_iff.mp hs]
  · have ht : t ≠ [] := fun e => hs (h.nil_iff.mpr e)
    by_cases h6 : op = 6
    · rw [if_pos ⟨h6, hs⟩, if_pos ⟨h6, ht⟩]
    · rw [if_neg (fun q => h6 q.1), if_neg (fun q => h6 q.1)]
theorem gives_fits {m : Img} {x : Mth} {op a b : Int} {s t : List (Int × Int)} {sup : List Int} (h : FitsAll sup s t) (hr : ∀ t ∈ giveOf m x op a b, subB sup t.1 t.2 t.1 t.2 = true) : FitsAll sup (gives m x op a b s) (gives m x op a b t) := by
  unfold gives
  by_cases hs : s = []
  · rw [hs, h.nil_iff.mp hs, if_neg (fun q => q.2 rfl)]
    exact FitsAll.self hr
  · have ht : t ≠ [] := fun e => hs (h.nil_iff.mpr e)
    by_cases h6 : op = 6
    · rw [if_pos ⟨h6, hs⟩, if_pos ⟨h6, ht⟩]
      have hl := h.last hs
      refine ⟨rfl, fun i h1 h2 => ?_⟩
      match i, h1 with
      | 0, _ => exact hl
      | 1, _ => exact hl
    · rw [if_neg (fun q => h6 q.1), if_neg (fun q => h6 q.1)]
      exact FitsAll.self hr
/-- A stack whose types fit another's goes where that one goes, and what is left fits. -/
theorem step_fits {m : Img} {x : Mth} {pc op a b : Int} {s t : List (Int × Int)} (h : FitsAll (supsOf m.classes) s t) (hr : ∀ t ∈ giveOf m x op a b, subB (supsOf m.classes) t.1 t.2 t.1 t.2 = true) (e : (stepIn m x pc op a b t).err = 0) :
    (stepIn m x pc op a b s).err = 0 ∧ (stepIn m x pc op a b s).next = (stepIn m x pc op a b t).next ∧ FitsAll (supsOf m.classes) (stepIn m x pc op a b s).after (stepIn m x pc op a b t).after := by
  by_cases ho : (nextOfOp pc op a).head?.any (fun n => decide ((x.code.length : Int) ≤ n)) = true
  · unfold stepIn at e
    rw [if_pos ho] at e
    exact absurd e (show ¬ (4 : Int) = 0 by decide)
  by_cases h6 : op = 6 ∧ t = []
  · obtain ⟨rfl, rfl⟩ := h6
    rw [step_none] at e
    exact absurd e (show ¬ (4 : Int) = 0 by decide)
  have h6' : ¬ (op = 6 ∧ s = []) := fun q => h6 ⟨q.1, h.nil_iff.mp q.2⟩
  rw [step_tail ho h6] at e ⊢
  rw [step_tail ho h6', takes_fits h]
  exact tail_fits h (gives_fits h hr) e
end Go.Proofs.Ytgpmdhdooglkfaa
namespace Go.Proofs.Ytgpmdhdooglkfaa
set_option maxRecDepth 100000
set_option linter.unusedVariables false
set_option linter.unusedSimpArgs false

theorem mem_ite {c : Prop} [Decidable c] {A B : List (Int × Int)} {P : Int × Int → Prop} (hA : c → ∀ t ∈ A, P t) (hB : ¬ c → ∀ t ∈ B, P t) : ∀ t ∈ (if c then A else B), P t := by
  by_cases g : c
  · rw [if_pos g]; exact hA g
  · rw [if_neg g]; exact hB g
theorem mem_one {P : Int × Int → Prop} {u : Int × Int} (h : P u) : ∀ t ∈ [u], P t := fun t ht => by
  rw [List.mem_singleton.mp ht]; exact h
theorem good_self {cl : List Cls} {t : Int × Int} (h : goodB t.1 t.2 cl.length = true) : subB (supsOf cl) t.1 t.2 t.1 t.2 = true := by
  unfold goodB at h
  rw [decide_eq_true_eq] at h
  refine sub_refl' (by omega) (fun h3 => ?_)
  rw [supsOf_len]
  omega
theorem fields_good {m : Img} (hm : SaneI m) {c : Int} {t : Int × Int} (h : t ∈ fieldsOf m.classes c) : goodB t.1 t.2 m.classes.length = true := by
  unfold fieldsOf at h
  obtain ⟨j, _, hj⟩ := List.mem_flatMap.mp h
  unfold fieldsAt at hj
  cases hc : m.classes[j.toNat]? with
  | none => rw [hc] at hj; simp at hj
  | some y =>
    rw [hc] at hj
    have h1 := hm.cls _ _ hc
    unfold classB at h1
    simp only [Bool.and_eq_true] at h1
    have h2 := h1.2.1
    unfold goodsB at h2
    exact List.all_eq_true.mp h2 _ hj
theorem ret_self {m : Img} {y : Mth} (hy : SaneM m y) : ∀ t ∈ givesOf y, subB (supsOf m.classes) t.1 t.2 t.1 t.2 = true := by
  unfold givesOf
  refine mem_ite (fun _ t ht => absurd ht (by simp)) (fun h5 => mem_one ?_)
  rcases hy.rt with h | h
  · rw [h] at h5; exact absurd rfl h5
  · exact good_self h
theorem at_getD {l : List (Int × Int)} {a : Int} (h0 : 0 ≤ a) (h1 : a < l.length) : l[a.toNat]?.getD (0, 0) ∈ l := by
  have h2 : a.toNat < l.length := by omega
  rw [List.getElem?_eq_getElem h2]
  exact List.getElem_mem h2
/-- Each type that an instruction of a sane image gives fits itself. -/
theorem give_self {m : Img} {x : Mth} {f : Nat} {op a b : Int} (hm : SaneI m) (hg : m.methods[f]? = some x) (hi : instrB op a b = true) (hn : namedB m x op a b = true) :
    ∀ t ∈ giveOf m x op a b, subB (supsOf m.classes) t.1 t.2 t.1 t.2 = true := by
  obtain ⟨o0, o1, a0, a1, b0, b1⟩ := instr_bounds hi
  have hx := hm.method (List.mem_of_getElem? hg)
  have s1 : subB (supsOf m.classes) 1 0 1 0 = true := sub_refl' (.inl rfl) (fun q => by cases q)
  have s2 : subB (supsOf m.classes) 2 0 2 0 = true := sub_refl' (.inr (.inl rfl)) (fun q => by cases q)
  have s4 : subB (supsOf m.classes) 4 0 4 0 = true := sub_refl' (.inr (.inr (.inr rfl))) (fun q => by cases q)
  have s3 : a < m.classes.length → subB (supsOf m.classes) 3 a 3 a = true := fun q => sub_refl' (.inr (.inr (.inl rfl))) (fun _ => ⟨a0, by rw [supsOf_len]; exact q⟩)
  unfold giveOf
  refine mem_ite (fun _ => mem_one s1) (fun _ => ?_)
  refine mem_ite (fun _ => mem_one s4) (fun _ => ?_)
  refine mem_ite (fun h => mem_one ?_) (fun _ => ?_)
  · have hl := named_get (.inl h) hn
    unfold localOf
    rw [if_pos a0]
    have hmem := at_getD (l := x.args ++ x.locals) a0 (by rw [List.length_append]; omega)
    rcases List.mem_append.mp hmem with q | q
    · exact good_self (hx.at_ _ q)
    · exact good_self (hx.lt _ q)
  refine mem_ite (fun _ => mem_one s1) (fun _ => ?_)
  refine mem_ite (fun _ => mem_one s1) (fun _ => ?_)
  refine mem_ite (fun h => mem_one (s3 (named_class (.inl h) hn))) (fun _ => ?_)
  refine mem_ite (fun _ => mem_one s2) (fun _ => ?_)
  refine mem_ite (fun _ => mem_one s1) (fun _ => ?_)
  refine mem_ite (fun _ => mem_one s1) (fun _ => ?_)
  refine mem_ite (fun h => mem_one ?_) (fun _ => ?_)
  · exact good_self (fields_good hm (at_getD b0 (named_field (.inl h) hn).2))
  refine mem_ite (fun h => mem_one ?_) (fun _ => ?_)
  · exact good_self (hm.st _ (at_getD a0 (named_static (.inl h) hn)))
  refine mem_ite (fun h => mem_one (s3 (named_class (.inr h) hn))) (fun _ => ?_)
  refine mem_ite (fun h => ?_) (fun _ => ?_)
  · subst h
    have h1 := named_call hn
    have h2 : a.toNat < m.methods.length := by omega
    refine ret_self (hm.method ?_)
    unfold mthN
    rw [List.getElem?_eq_getElem h2]
    exact List.getElem_mem h2
  refine mem_ite (fun h => ?_) (fun _ => ?_)
  · subst h
    obtain ⟨_, k, y, hk, hy, _⟩ := named_virt hm a0 b0 hn
    refine ret_self (hm.method ?_)
    unfold mthN slotN
    rw [hk, Option.getD_some, Int.toNat_natCast, hy]
    exact List.mem_of_getElem? hy
  refine mem_ite (fun _ => mem_one s1) (fun _ => ?_)
  exact fun t ht => absurd ht (by simp)
theorem stepOf_fits {m : Img} {f pc : Int} {s t : List (Int × Int)} (hm : SaneI m) (h : FitsAll (supsOf m.classes) s t) (e : (stepOf m f pc t).err = 0) :
    (stepOf m f pc s).err = 0 ∧ (stepOf m f pc s).next = (stepOf m f pc t).next ∧ FitsAll (supsOf m.classes) (stepOf m f pc s).after (stepOf m f pc t).after := by
  unfold stepOf at e ⊢
  by_cases g : 0 ≤ f ∧ f < m.methods.length ∧ 0 ≤ pc ∧ pc < (mthN m f).code.length
  · rw [if_pos g] at e
    rw [if_pos g, if_pos g]
    cases hi : (mthN m f).code[pc.toNat]? with
    | none => rw [hi] at e; exact absurd e (show ¬ (1 : Int) = 0 by decide)
    | some i =>
      rw [hi] at e
      have hf : f.toNat < m.methods.length := by omega
      have hg : m.methods[f.toNat]? = some (mthN m f) := by unfold mthN; rw [List.getElem?_eq_getElem hf]; rfl
      have hx := hm.method (List.mem_of_getElem? hg)
      have him := List.mem_of_getElem? hi
      exact step_fits h (give_self hm hg (hx.fits.ct _ him) (hx.co _ him)) e
  · rw [if_neg g] at e
    exact absurd e (show ¬ (1 : Int) = 0 by decide)
end Go.Proofs.Ytgpmdhdooglkfaa
namespace Go.Proofs.Ytgpmdhdooglkfaa
set_option maxRecDepth 100000
set_option linter.unusedVariables false
set_option linter.unusedSimpArgs false
open Go.ChangeShapes Go.WideShapes Go.ChangeAt Go.RowKit

/-- What is known at an instruction. -/
structure Shp where
  seen : Bool
  stack : List (Int × Int)
deriving DecidableEq
def ShpAt : AtP Shp := fun w B p s => w.cell? p = some (.bool s.seen) ∧ SlcAt TyAt 2 w B (off_ p 1) s.stack
theorem ShpAt.keeps : Keeps ShpAt := fun _ _ _ _ p _ h hp hC hc => ⟨(hc _ hp).trans h.1, SlcAt.keeps TyAt.keeps 2 h.2 hp hC hc⟩
theorem RowAt.keeps : Keeps (SlcAt ShpAt 2) := SlcAt.keeps ShpAt.keeps 2
def shpN (S : List Shp) (i : Int) : Shp := S[i.toNat]?.getD ⟨false, []⟩
theorem shpN_at {S : List Shp} {i : Nat} (h : i < S.length) : shpN S (i : Int) = S[i] := by unfold shpN; rw [Int.toNat_natCast, List.getElem?_eq_getElem h]; rfl
/-- Do operands fit where others are? -/
def underB (sup : List Int) (a b : List (Int × Int)) : Bool := decide (a.length = b.length) && (a.zip b).all fun p => subB sup p.1.1 p.1.2 p.2.1 p.2.2
theorem underB_iff {sup : List Int} {a b : List (Int × Int)} : underB sup a b = true ↔ FitsAll sup a b := by
  unfold underB FitsAll
  rw [Bool.and_eq_true, decide_eq_true_eq, List.all_eq_true]
  constructor
  · rintro ⟨h1, h2⟩
    refine ⟨h1, fun i g1 g2 => ?_⟩
    have hz : i < (a.zip b).length := by rw [List.length_zip]; omega
    have := h2 _ (List.getElem_mem hz)
    rw [List.getElem_zip] at this
    exact this
  · rintro ⟨h1, h2⟩
    refine ⟨h1, fun p hp => ?_⟩
    obtain ⟨i, hi, rfl⟩ := List.getElem_of_mem hp
    rw [List.getElem_zip]
    exact h2 i _ _
/-- Does a step go on as it should? -/
def onB (m : Img) (S : List Shp) (af : List (Int × Int)) (n : Int) : Bool := (shpN S n).seen && underB (supsOf m.classes) af (shpN S n).stack
def goB (m : Img) (f pc : Int) (S : List Shp) (st : List (Int × Int)) : Bool := decide ((stepOf m f pc st).err = 0) && (stepOf m f pc st).next.all (onB m S (stepOf m f pc st).after)
def placeB (m : Img) (f : Int) (S : List Shp) (pc : Int) : Bool := !(shpN S pc).seen || goB m f pc S (shpN S pc).stack
def firstB (m : Img) (f : Int) (S : List Shp) : Bool := decide (0 < S.length) && (decide (S.length = (mthN m f).code.length) && ((shpN S 0).seen && decide ((shpN S 0).stack.length = 0)))
def rightS (m : Img) (f : Int) (S : List Shp) : Bool := firstB m f S && (List.range S.length).all (fun pc => placeB m f S (pc : Int))
/-- Are types right? -/
def rightB (m : Img) (maps : List (List Shp)) : Bool := decide (maps.length = m.methods.length) && (List.range maps.length).all (fun f => rightS m (f : Int) (maps[f]?.getD []))
theorem range_all {n : Nat} {p : Nat → Bool} : (List.range n).all p = true ↔ ∀ i < n, p i = true := by
  rw [List.all_eq_true]
  exact ⟨fun h i hi => h i (List.mem_range.mpr hi), fun h i hi => h i (List.mem_range.mp hi)⟩
theorem range_not {n : Nat} {p : Nat → Bool} {i : Nat} (hi : i < n) (h : p i = false) : (List.range n).all p = false := by
  rw [Bool.eq_false_iff]
  intro q
  have := range_all.mp q i hi
  rw [h] at this
  cases this
/-- Where a step of a sane image goes, there is an instruction. -/
theorem next_in {m : Img} {x : Mth} {F P : Nat} {op a b : Int} {st : List (Int × Int)} (hi : instrB op a b = true) (hn : namedB m x op a b = true) (he : (stepIn m x P op a b st).err = 0) : ∀ n ∈ (stepIn m x P op a b st).next, 0 ≤ n ∧ n < x.code.length := by
  obtain ⟨o0, o1, a0, a1, b0, b1⟩ := instr_bounds hi
  have e4 : ¬ (badStep 4).err = 0 := by unfold badStep; decide
  unfold stepIn at he ⊢
  by_cases h1 : (nextOfOp P op a).head?.any (fun n => decide ((x.code.length : Int) ≤ n)) = true
  · rw [if_pos h1] at he; exact absurd he e4
  rw [if_neg h1] at he ⊢
  by_cases h2 : (op = 6 ∧ st = []) ∨ st.length < (takes m x op a b st).length ∨ 8 < st.length - (takes m x op a b st).length + (gives m x op a b st).length
  · rw [if_pos h2] at he; exact absurd he e4
  rw [if_neg h2] at he ⊢
  by_cases h3 : ((st.drop (st.length - (takes m x op a b st).length)).zip (takes m x op a b st)).all (fun p => doesB (supsOf m.classes) op p.1 p.2) = true
  · rw [if_pos h3]
    intro n hm
    dsimp only at hm
    unfold nextOfOp at hm h1
    by_cases h18 : op = 18
    · rw [if_pos h18] at hm h1
      simp at hm h1
      omega
    · rw [if_neg h18] at hm h1
      by_cases h19 : op = 19
      · rw [if_pos h19] at hm h1
        have := named_jump (.inr h19) hn
        simp at hm h1
        omega
      · rw [if_neg h19] at hm h1
        by_cases h33 : op = 33
        · rw [if_pos h33] at hm; simp at hm
        · rw [if_neg h33] at hm h1
          simp at hm h1
          omega
  · rw [if_neg h3] at he; exact absurd he e4
end Go.Proofs.Ytgpmdhdooglkfaa
namespace Go.Proofs.Ytgpmdhdooglkfaa
set_option maxRecDepth 100000
set_option linter.unusedVariables false
set_option linter.unusedSimpArgs false
open Go.ChangeShapes Go.WideShapes Go.ChangeAt Go.RowKit
set_option linter.unusedVariables false

/-- A shape, and where its operands lie. -/
structure Shx where
  seen : Bool
  A : Option Addr
  c : Nat
  stack : List (Int × Int)
def Shx.shp (x : Shx) : Shp := ⟨x.seen, x.stack⟩
def shxC (x : Shx) : List Value := [.bool x.seen, .slice x.A x.stack.length x.c]
def shxV (X : List Shx) : List Value := X.flatMap shxC
/-- A block of shapes, whose operands lie about. -/
structure OutIn (w : World) (g : Nat) (X : List Shx) : Prop where
  blk : Whole w g (shxV X) 44
  row : ∀ x ∈ X, SlcIs TyAt 2 w w.heap.size x.A x.c x.stack
theorem shxV_len (X : List Shx) : (shxV X).length = X.length * 2 := flat_length (f := shxC) (k := 2) (fun _ => rfl) X
theorem OutIn.seen_at {w : World} {g i : Nat} {X : List Shx} (h : OutIn w g X) (hi : i < X.length) : w.cell? ⟨g, i * 2, none⟩ = some (.bool X[i].seen) :=
  h.blk.cells _ _ (flat_get (f := shxC) (k := 2) (fun _ => rfl) X i 0 X[i] (List.getElem?_eq_getElem hi) (by decide))
theorem OutIn.stack_at {w : World} {g i : Nat} {X : List Shx} (h : OutIn w g X) (hi : i < X.length) : w.cell? ⟨g, i * 2 + 1, none⟩ = some (.slice X[i].A X[i].stack.length X[i].c) :=
  h.blk.cells _ _ (flat_get (f := shxC) (k := 2) (fun _ => rfl) X i 1 X[i] (List.getElem?_eq_getElem hi) (by decide))
/-- No number lies in it. -/
theorem OutIn.noint {w : World} {g : Nat} {X : List Shx} (h : OutIn w g X) {p : Addr} {k : IntKind} {v : Int} (hp : p.block = g) : ¬ w.cell? p = some (.int k v) := fun e => by
  have hb := h.blk
  unfold Whole at hb
  unfold World.cell? at e
  rw [hp, hb] at e
  simp at e
  obtain ⟨_, e⟩ := e
  have hm : (Value.int k v) ∈ shxV X := List.mem_of_getElem? e
  obtain ⟨x, _, hx⟩ := List.mem_flatMap.mp hm
  simp [shxC] at hx
theorem OutIn.ty_apart {w : World} {g B c i : Nat} {X : List Shx} {A : Option Addr} {L : List (Int × Int)} (h : OutIn w g X) (hs : SlcIs TyAt 2 w B A c L) (hi : i < L.length) : ∀ ad, A = some ad → ad.block ≠ g := fun ad e q => by
  obtain ⟨ad', e', _, h0, _⟩ := hs.row.at_ hi
  rw [e] at e'
  injection e' with e'
  subst e'
  exact h.noint (p := ad.add (i * 2)) (by rw [addr_add_block]; exact q) h0
theorem OutIn.int_apart {w : World} {g B c i : Nat} {X : List Shx} {A : Option Addr} {L : List Int} (h : OutIn w g X) (hs : SlcIs IntAt 1 w B A c L) (hi : i < L.length) : ∀ ad, A = some ad → ad.block ≠ g := fun ad e q => by
  obtain ⟨ad', e', _, h0⟩ := hs.row.at_ hi
  rw [e] at e'
  injection e' with e'
  subst e'
  exact h.noint (p := ad.add (i * 1)) (by rw [addr_add_block]; exact q) h0
/-- A list of types that another block's cells leave alone. -/
theorem ty_other {w w' : World} {g B C c : Nat} {A : Option Addr} {L : List (Int × Int)} (hs : SlcIs TyAt 2 w B A c L) (hC : B ≤ C) (hk : ∀ q : Addr, q.block ≠ g → w'.cell? q = w.cell? q) (ha : ∀ i, i < L.length → ∀ ad, A = some ad → ad.block ≠ g) : SlcIs TyAt 2 w' C A c L :=
  ⟨hs.le, hs.cap, fun i t hi => by
    obtain ⟨ad, e, hb, h0, h1⟩ := hs.row i t hi
    have hil : i < L.length := by
      rcases Nat.lt_or_ge i L.length with q | q
      · exact q
      · rw [List.getElem?_eq_none q] at hi; cases hi
    have hn := ha i hil ad e
    refine ⟨ad, e, Nat.lt_of_lt_of_le hb hC, (hk _ (by rw [addr_add_block]; exact hn)).trans h0, (hk _ (by show (ad.add _).block ≠ g; rw [addr_add_block]; exact hn)).trans h1⟩⟩
theorem int_other {w w' : World} {g B C c : Nat} {A : Option Addr} {L : List Int} (hs : SlcIs IntAt 1 w B A c L) (hC : B ≤ C) (hk : ∀ q : Addr, q.block ≠ g → w'.cell? q = w.cell? q) (ha : ∀ i, i < L.length → ∀ ad, A = some ad → ad.block ≠ g) : SlcIs IntAt 1 w' C A c L :=
  ⟨hs.le, hs.cap, fun i t hi => by
    obtain ⟨ad, e, hb, h0⟩ := hs.row i t hi
    have hil : i < L.length := by
      rcases Nat.lt_or_ge i L.length with q | q
      · exact q
      · rw [List.getElem?_eq_none q] at hi; cases hi
    have hn := ha i hil ad e
    exact ⟨ad, e, Nat.lt_of_lt_of_le hb hC, (hk _ (by rw [addr_add_block]; exact hn)).trans h0⟩⟩
theorem OutIn.keep {w w' : World} {g : Nat} {X : List Shx} (h : OutIn w g X) (hb : Below w.heap.size w w') : OutIn w' g X :=
  ⟨h.blk.keep hb h.blk.lt, fun x hx => ((h.row x hx).below_to TyAt.keeps hb (Nat.le_refl _)).keep' TyAt.keeps hb.size (fun _ _ => rfl)⟩
/-- The world with one place written. -/
abbrev putW (w : World) (g i : Nat) (x : Shx) : World := (w.setCell ⟨g, i * 2, none⟩ (.bool x.seen)).setCell ⟨g, i * 2 + 1, none⟩ (.slice x.A x.stack.length x.c)
theorem put_other (w : World) (g i : Nat) (x : Shx) : ∀ q : Addr, q.block ≠ g → (putW w g i x).cell? q = w.cell? q := fun q hq => by
  unfold putW
  rw [World.cell?_setCell_far _ _ _ _ (fun e => hq e.symm), World.cell?_setCell_far _ _ _ _ (fun e => hq e.symm)]
theorem shxV_set : ∀ (X : List Shx) (i : Nat) (x : Shx), (shxV (X.set i x)) = ((shxV X).set (i * 2) (.bool x.seen)).set (i * 2 + 1) (.slice x.A x.stack.length x.c) ∨ X.length ≤ i
  | [], i, x => .inr (Nat.zero_le _)
  | y :: X, 0, x => .inl rfl
  | y :: X, i + 1, x => by
    rcases shxV_set X i x with h | h
    · refine .inl ?_
      show shxC y ++ shxV (X.set i x) = ((shxC y ++ shxV X).set _ _).set _ _
      rw [h, show (i + 1) * 2 = i * 2 + 2 by omega]
      rfl
    · exact .inr (by simp; omega)
theorem OutIn.put {w : World} {g i : Nat} {X : List Shx} {x : Shx} (h : OutIn w g X) (hi : i < X.length) (hx : SlcIs TyAt 2 w w.heap.size x.A x.c x.stack) : OutIn (putW w g i x) g (X.set i x) := by
  have hz : (putW w g i x).heap.size = w.heap.size := by simp [putW]
  have hap : ∀ {A : Option Addr} {c : Nat} {L : List (Int × Int)}, SlcIs TyAt 2 w w.heap.size A c L → SlcIs TyAt 2 (putW w g i x) (putW w g i x).heap.size A c L := fun {A c L} hs =>
    ty_other hs (by rw [hz]; exact Nat.le_refl _) (put_other w g i x) (fun j hj => h.ty_apart hs hj)
  refine ⟨?_, fun y hy => ?_⟩
  · rcases shxV_set X i x with e | e
    · rw [e]
      exact (h.blk.set _ _).set _ _
    · omega
  · rcases List.mem_or_eq_of_mem_set hy with q | q
    · exact hap (h.row y q)
    · rw [q]; exact hap hx
end Go.Proofs.Ytgpmdhdooglkfaa
namespace Go.Proofs.Ytgpmdhdooglkfaa
set_option maxRecDepth 100000
set_option linter.unusedVariables false
set_option linter.unusedSimpArgs false
open Go.ChangeShapes Go.WideShapes Go.ChangeAt Go.RowKit
set_option linter.unusedVariables false

/-- Operands that lie at the head of a block of their own. -/
def OwnsSt (w : World) (B : Nat) (x : Shx) : Prop := ∃ gi rest, x.A = some ⟨gi, 0, none⟩ ∧ B ≤ gi ∧ Whole w gi (tysV x.stack ++ rest) 39
structure OwnIn (w : World) (B g : Nat) (X : List Shx) : Prop where
  out : OutIn w g X
  base : B ≤ g
  own : ∀ i (hi : i < X.length), X[i].stack ≠ [] → OwnsSt w B X[i]
  apart : ∀ i j (hi : i < X.length) (hj : j < X.length), i ≠ j → X[i].stack ≠ [] → X[j].stack ≠ [] → X[i].A ≠ X[j].A
theorem Whole.other {w : World} {g : Nat} {vs : List Value} {T : TypeId} (h : Whole w g vs T) {a : Addr} (ha : g ≠ a.block) (v : Value) : Whole (w.setCell a v) g vs T := (Below.heap_setCell w a v g ha).trans h
theorem Whole.type_eq {w : World} {g : Nat} {vs us : List Value} {T U : TypeId} (h : Whole w g vs T) (h' : Whole w g us U) : T = U := by
  unfold Whole at h h'
  rw [h] at h'
  injection h' with h'
  injection h'
theorem shape_type {w : World} {g : Nat} {vs us : List Value} (h : Whole w g vs 44) (h' : Whole w g us 39) : False := absurd (h.type_eq h') (by decide)
theorem OwnsSt.keep {w w' : World} {B : Nat} {x : Shx} (h : OwnsSt w B x) (hb : Below w.heap.size w w') : OwnsSt w' B x := by
  obtain ⟨gi, rest, h1, h2, h3⟩ := h
  exact ⟨gi, rest, h1, h2, h3.keep hb h3.lt⟩
theorem OwnIn.keep {w w' : World} {B g : Nat} {X : List Shx} (h : OwnIn w B g X) (hb : Below w.heap.size w w') : OwnIn w' B g X :=
  ⟨h.out.keep hb, h.base, fun i hi hn => (h.own i hi hn).keep hb, h.apart⟩
theorem OwnsSt.lt {w : World} {B : Nat} {x : Shx} (h : OwnsSt w B x) : ∃ gi, x.A = some ⟨gi, 0, none⟩ ∧ gi < w.heap.size := by
  obtain ⟨gi, rest, h1, h2, h3⟩ := h
  exact ⟨gi, h1, h3.lt⟩
theorem set_at {α : Type} {X : List α} {i j : Nat} {x : α} (hi : i < X.length) (hj : j < (X.set i x).length) : (X.set i x)[j] = if i = j then x else X[j]'(by rw [List.length_set] at hj; exact hj) := by
  rw [List.getElem_set]
/-- A new shape at a place. -/
theorem OwnIn.put {w0 w : World} {B g i : Nat} {X : List Shx} {x : Shx} (h : OwnIn w0 B g X) (hb : Below w0.heap.size w0 w) (hB : B ≤ w0.heap.size) (hi : i < X.length) (hx : SlcIs TyAt 2 w w.heap.size x.A x.c x.stack)
    (hn : x.stack ≠ [] → OwnsSt w w0.heap.size x) : OwnIn (putW w g i x) B g (X.set i x) := by
  have hk := h.keep hb
  have hown : ∀ {y : Shx} {C : Nat}, OwnsSt w C y → OwnsSt (putW w g i x) C y := fun {y C} q => by
    obtain ⟨gi, rest, h1, h2, h3⟩ := q
    have hne : gi ≠ g := fun e => by subst e; exact shape_type hk.out.blk h3
    exact ⟨gi, rest, h1, h2, (h3.other hne _).other hne _⟩
  have hB' : ∀ {y : Shx}, OwnsSt (putW w g i x) w0.heap.size y → OwnsSt (putW w g i x) B y := fun {y} ⟨gi, rest, h1, h2, h3⟩ => ⟨gi, rest, h1, Nat.le_trans hB h2, h3⟩
  have hfar : x.stack ≠ [] → ∀ j (hj : j < X.length), X[j].stack ≠ [] → x.A ≠ X[j].A := fun q j hj q2 e => by
    obtain ⟨gi, rest, h1, h2, h3⟩ := hn q
    obtain ⟨gj, e2, h4⟩ := (h.own j hj q2).lt
    rw [h1, e2] at e
    injection e with e
    injection e with e
    omega
  refine ⟨hk.out.put hi hx, h.base, fun j hj q => ?_, fun j k hj hk' hjk q1 q2 => ?_⟩
  · rw [set_at hi hj] at q ⊢
    by_cases e : i = j
    · rw [if_pos e] at q ⊢
      exact hB' (hown (hn q))
    · rw [if_neg e] at q ⊢
      exact hown (hk.own j _ q)
  · rw [set_at hi hj] at q1 ⊢
    rw [set_at hi hk'] at q2 ⊢
    by_cases e : i = j
    · rw [if_pos e] at q1 ⊢
      rw [if_neg (fun e2 => hjk (e.symm.trans e2))] at q2 ⊢
      exact hfar q1 k _ q2
    · rw [if_neg e] at q1 ⊢
      by_cases e2 : i = k
      · rw [if_pos e2] at q2 ⊢
        exact fun e3 => hfar q2 j _ q1 e3.symm
      · rw [if_neg e2] at q2 ⊢
        exact h.apart j k _ _ hjk q1 q2
theorem tysV_set : ∀ (L : List (Int × Int)) (k : Nat) (t : Int × Int) (rest : List Value), k < L.length → ((tysV L ++ rest).set (k * 2) (.int .i64 t.1)).set (k * 2 + 1) (.int .i64 t.2) = tysV (L.set k t) ++ rest
  | [], k, t, rest, h => by simp at h
  | a :: L, 0, t, rest, h => rfl
  | a :: L, k + 1, t, rest, h => by
    have := tysV_set L k t rest (by simpa using h)
    show ((tyC a ++ tysV L ++ rest).set _ _).set _ _ = tyC a ++ tysV (L.set k t) ++ rest
    rw [List.append_assoc, List.append_assoc, ← this, show (k + 1) * 2 = k * 2 + 2 by omega]
    rfl
theorem whole_slc {w : World} {gi c : Nat} {L : List (Int × Int)} {rest : List Value} (h : Whole w gi (tysV L ++ rest) 39) (hc : L.length ≤ c) (hm : c ≤ 9223372036854775807) : SlcIs TyAt 2 w w.heap.size (some ⟨gi, 0, none⟩) c L :=
  ⟨hc, hm, fun i t hi => by
    have hlt : i < L.length := by
      rcases Nat.lt_or_ge i L.length with q | q
      · exact q
      · rw [List.getElem?_eq_none q] at hi; cases hi
    have hl : (tysV L).length = L.length * 2 := tysV_len L
    have e0 := flat_get (f := tyC) (k := 2) (fun _ => rfl) L i 0 t hi (by decide)
    have e1 := flat_get (f := tyC) (k := 2) (fun _ => rfl) L i 1 t hi (by decide)
    have c0 := h.cells (i * 2) _ (by rw [List.getElem?_append_left (by omega)]; exact e0)
    have c1 := h.cells (i * 2 + 1) _ (by rw [List.getElem?_append_left (by omega)]; exact e1)
    have ea : (Addr.add ⟨gi, 0, none⟩ (i * 2)) = ⟨gi, i * 2, none⟩ := by
      unfold Addr.add
      split
      · rename_i h0; rw [h0]
      · simp
    exact ⟨_, rfl, h.lt, by rw [ea]; exact c0, by rw [ea]; exact c1⟩⟩
theorem st_at {w : World} {gi k : Nat} {L : List (Int × Int)} {rest : List Value} (h : Whole w gi (tysV L ++ rest) 39) (hk : k < L.length) : w.cell? ⟨gi, k * 2, none⟩ = some (.int .i64 L[k].1) ∧ w.cell? ⟨gi, k * 2 + 1, none⟩ = some (.int .i64 L[k].2) := by
  have hl : (tysV L).length = L.length * 2 := tysV_len L
  have hi : L[k]? = some L[k] := List.getElem?_eq_getElem hk
  have e0 := flat_get (f := tyC) (k := 2) (fun _ => rfl) L k 0 _ hi (by decide)
  have e1 := flat_get (f := tyC) (k := 2) (fun _ => rfl) L k 1 _ hi (by decide)
  exact ⟨h.cells (k * 2) _ (by rw [List.getElem?_append_left (by omega)]; exact e0), h.cells (k * 2 + 1) _ (by rw [List.getElem?_append_left (by omega)]; exact e1)⟩
theorem shxV_same : ∀ (X : List Shx) (i : Nat) (x : Shx) (hi : i < X.length), x.seen = X[i].seen → x.A = X[i].A → x.c = X[i].c → x.stack.length = X[i].stack.length → shxV (X.set i x) = shxV X
  | [], i, x, hi, _, _, _, _ => by simp at hi
  | y :: X, 0, x, hi, h1, h2, h3, h4 => by
    show shxC x ++ shxV X = shxC y ++ shxV X
    have h1 : x.seen = y.seen := h1
    have h2 : x.A = y.A := h2
    have h3 : x.c = y.c := h3
    have h4 : x.stack.length = y.stack.length := h4
    unfold shxC
    rw [h1, h2, h3, h4]
  | y :: X, i + 1, x, hi, h1, h2, h3, h4 => by
    show shxC y ++ shxV (X.set i x) = shxC y ++ shxV X
    rw [shxV_same X i x (by simpa using hi) h1 h2 h3 h4]
/-- The world with one type written into operands. -/
abbrev turnW (w : World) (gi k : Nat) (t : Int × Int) : World := (w.setCell ⟨gi, k * 2, none⟩ (.int .i64 t.1)).setCell ⟨gi, k * 2 + 1, none⟩ (.int .i64 t.2)
theorem turn_other (w : World) (gi k : Nat) (t : Int × Int) : ∀ b, b ≠ gi → (turnW w gi k t).heap[b]? = w.heap[b]? := fun b hb => by
  unfold turnW
  rw [Below.heap_setCell _ _ _ b hb, Below.heap_setCell _ _ _ b hb]
theorem turn_cell (w : World) (gi k : Nat) (t : Int × Int) : ∀ q : Addr, q.block ≠ gi → (turnW w gi k t).cell? q = w.cell? q := fun q hq => World.cell?_of_block (turn_other w gi k t _ hq)
theorem OwnIn.turn {w : World} {B g i gi k : Nat} {X : List Shx} {t : Int × Int} {y : Shx} (h : OwnIn w B g X) (hi : i < X.length) (hy : X[i] = y) (hk : k < y.stack.length) (eA : y.A = some ⟨gi, 0, none⟩) :
    OwnIn (turnW w gi k t) B g (X.set i ⟨y.seen, y.A, y.c, y.stack.set k t⟩) := by
  subst hy
  have hne : X[i].stack ≠ [] := fun e => by rw [e] at hk; simp at hk
  obtain ⟨gi', rest, e1, hB, hw⟩ := h.own i hi hne
  rw [eA] at e1
  obtain rfl : gi = gi' := by injection e1 with e1; injection e1
  have hgg : g ≠ gi := fun e => by subst e; exact shape_type h.out.blk hw
  have hz : (turnW w gi k t).heap.size = w.heap.size := by simp [turnW]
  have hw2 : Whole (turnW w gi k t) gi (tysV (X[i].stack.set k t) ++ rest) 39 := by
    have := (hw.set (k * 2) (.int .i64 t.1)).set (k * 2 + 1) (.int .i64 t.2)
    rw [tysV_set _ _ _ _ hk] at this
    exact this
  have hsl := h.out.row _ (List.getElem_mem hi)
  have hfar : ∀ j (hj : j < X.length), i ≠ j → X[j].stack ≠ [] → ∀ ad, X[j].A = some ad → ad.block ≠ gi := fun j hj hij q ad ea eb => by
    obtain ⟨gj, rj, e2, _, _⟩ := h.own j hj q
    rw [e2] at ea
    injection ea with ea
    subst ea
    dsimp only at eb
    subst eb
    exact h.apart i j hi hj hij hne q (eA.trans e2.symm)
  refine ⟨⟨?_, fun z hz' => ?_⟩, h.base, fun j hj q => ?_, fun j l hj hl hjl q1 q2 => ?_⟩
  · rw [shxV_same X i ⟨X[i].seen, X[i].A, X[i].c, X[i].stack.set k t⟩ hi rfl rfl rfl (by simp)]
    exact (h.out.blk.other (a := ⟨gi, k * 2, none⟩) hgg _).other (a := ⟨gi, k * 2 + 1, none⟩) hgg _
  · obtain ⟨j, hj, rfl⟩ := List.getElem_of_mem hz'
    rw [set_at hi hj]
    by_cases e : i = j
    · rw [if_pos e]
      dsimp only
      rw [eA]
      exact whole_slc hw2 (by rw [List.length_set]; exact hsl.le) hsl.cap
    · rw [if_neg e]
      have hj' : j < X.length := by rw [List.length_set] at hj; exact hj
      by_cases q : X[j].stack = []
      · have := h.out.row _ (List.getElem_mem hj')
        exact ⟨this.le, this.cap, fun a b hb => by rw [q] at hb; simp at hb⟩
      · exact ty_other (g := gi) (h.out.row _ (List.getElem_mem hj')) (by rw [hz]; exact Nat.le_refl _) (turn_cell w gi k t) (fun a ha ad ea => hfar j hj' e q ad ea)
  · rw [set_at hi hj] at q ⊢
    by_cases e : i = j
    · rw [if_pos e]
      exact ⟨gi, rest, eA, hB, hw2⟩
    · rw [if_neg e] at q ⊢
      have hj' : j < X.length := by rw [List.length_set] at hj; exact hj
      obtain ⟨gj, rj, e2, h2, h3⟩ := h.own j hj' q
      have := hfar j hj' e q _ e2
      exact ⟨gj, rj, e2, h2, (turn_other w gi k t gj this).trans h3⟩
  · have hs : ∀ a (ha : a < (X.set i ⟨X[i].seen, X[i].A, X[i].c, X[i].stack.set k t⟩).length), ∃ ha' : a < X.length, (X.set i ⟨X[i].seen, X[i].A, X[i].c, X[i].stack.set k t⟩)[a].A = X[a].A ∧ ((X.set i ⟨X[i].seen, X[i].A, X[i].c, X[i].stack.set k t⟩)[a].stack ≠ [] → X[a].stack ≠ []) := fun a ha => by
      have ha' : a < X.length := by rw [List.length_set] at ha; exact ha
      refine ⟨ha', ?_⟩
      rw [set_at hi ha]
      by_cases e : i = a
      · subst e
        rw [if_pos rfl]
        exact ⟨rfl, fun _ => hne⟩
      · rw [if_neg e]
        exact ⟨rfl, fun q => q⟩
    obtain ⟨hj', ej, nj⟩ := hs j hj
    obtain ⟨hl', el, nl⟩ := hs l hl
    rw [ej, el]
    exact h.apart j l hj' hl' hjl (nj q1) (nl q2)
/-- A list whose own block stays. -/
theorem ty_heap {w w' : World} {B c : Nat} {A : Option Addr} {L : List (Int × Int)} (h : SlcIs TyAt 2 w B A c L) (hz : B ≤ w'.heap.size) (hb : ∀ ad, A = some ad → w'.heap[ad.block]? = w.heap[ad.block]?) : SlcIs TyAt 2 w' w'.heap.size A c L :=
  ⟨h.le, h.cap, fun i t hi => by
    obtain ⟨ad, e, h1, h2, h3⟩ := h.row i t hi
    have := hb ad e
    refine ⟨ad, e, Nat.lt_of_lt_of_le h1 hz, (World.cell?_of_block (w := w) (by rw [addr_add_block]; exact this)).trans h2, (World.cell?_of_block (w := w) (by show w'.heap[(ad.add _).block]? = _; rw [addr_add_block]; exact this)).trans h3⟩⟩
theorem int_heap {w w' : World} {B c : Nat} {A : Option Addr} {L : List Int} (h : SlcIs IntAt 1 w B A c L) (hz : B ≤ w'.heap.size) (hb : ∀ ad, A = some ad → w'.heap[ad.block]? = w.heap[ad.block]?) : SlcIs IntAt 1 w' w'.heap.size A c L :=
  ⟨h.le, h.cap, fun i t hi => by
    obtain ⟨ad, e, h1, h2⟩ := h.row i t hi
    have := hb ad e
    exact ⟨ad, e, Nat.lt_of_lt_of_le h1 hz, (World.cell?_of_block (w := w) (by rw [addr_add_block]; exact this)).trans h2⟩⟩
end Go.Proofs.Ytgpmdhdooglkfaa
