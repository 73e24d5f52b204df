/-
  An image that is right is right without its entries; with a class, a static, a number more it is as long as it fits. Plain facts; no conditions.
-/
import Derived.Test.YtjgfoialajgfhaaSaneMath
import Derived.Test.YtjgfoialajgfhaaFitsDefs
namespace Go.Proofs.Ytjgfoialajgfhaa
set_option maxRecDepth 100000
set_option linter.unusedVariables false
set_option linter.unusedSimpArgs false
open Go.ChangeShapes Go.WideShapes Go.ChangeAt Go.RowKit
set_option linter.unusedVariables false

theorem sane_iff {m : Img} : saneR m = 0 ↔ fitsB m = true ∧ okB m = true := by
  constructor
  · intro h
    have hf : fitsB m = true := by
      cases hf : fitsB m with
      | true => rfl
      | false => rw [sane_not hf] at h; cases h
    refine ⟨hf, ?_⟩
    cases ho : okB m with
    | true => rfl
    | false => rw [sane_no hf ho] at h; cases h
  · rintro ⟨hf, ho⟩
    exact sane_yes hf ho

theorem aboveOf_app {sup more : List Int} {c : Nat} (h : c < sup.length) : aboveOf (sup ++ more) c = aboveOf sup c := by
  induction c using Nat.strongRecOn with
  | ind c ih =>
    have h1 : sup[c]? = some sup[c] := List.getElem?_eq_getElem h
    rw [aboveOf_some h1, aboveOf_some (s := sup[c]) (by rw [List.getElem?_append_left h]; exact h1)]
    congr 1
    split
    · unfold aboveI
      split
      · exact ih _ (by omega) (by omega)
      · rfl
    · rfl
theorem aboveI_app {sup more : List Int} {c : Int} (h : c < sup.length) : aboveI (sup ++ more) c = aboveI sup c := by
  unfold aboveI
  split
  · exact aboveOf_app (by omega)
  · rfl
theorem supsOf_app (cl cs : List Cls) : supsOf (cl ++ cs) = supsOf cl ++ supsOf cs := List.map_append
theorem fieldsAt_app {cl cs : List Cls} {i : Int} (h0 : 0 ≤ i) (h : i < cl.length) : fieldsAt (cl ++ cs) i = fieldsAt cl i := by
  unfold fieldsAt
  rw [List.getElem?_append_left (by omega)]
theorem flatMap_same {α β : Type} {f g : α → List β} : ∀ {l : List α}, (∀ x ∈ l, f x = g x) → l.flatMap f = l.flatMap g
  | [], _ => rfl
  | a :: l, h => by rw [List.flatMap_cons, List.flatMap_cons, h a (List.mem_cons_self ..), flatMap_same fun x hx => h x (List.mem_cons_of_mem _ hx)]
theorem fieldsOf_app {cl cs : List Cls} {c : Int} (h : c < cl.length) : fieldsOf (cl ++ cs) c = fieldsOf cl c := by
  unfold fieldsOf
  rw [supsOf_app, aboveI_app (by rw [supsOf_len]; exact h)]
  refine flatMap_same fun i hi => ?_
  have := aboveI_lt (List.mem_reverse.mp hi)
  rw [supsOf_len] at this
  exact fieldsAt_app this.1 this.2
theorem goodB_more {k n c d : Int} (h : c ≤ d) (g : goodB k n c = true) : goodB k n d = true := by
  unfold goodB at *
  simp only [decide_eq_true_eq] at *
  omega
theorem goodsB_more {l : List (Int × Int)} {c d : Int} (h : c ≤ d) (g : goodsB l c = true) : goodsB l d = true :=
  List.all_eq_true.mpr fun t ht => goodB_more h (List.all_eq_true.mp g t ht)
theorem retB_more {r : Int × Int} {c d : Int} (h : c ≤ d) (g : retB r c = true) : retB r d = true := by
  unfold retB at *
  simp only [Bool.or_eq_true] at *
  exact g.imp id (goodB_more h)

/-- One image has all that another one has, in the same places. -/
structure More (m m' : Img) : Prop where
  mth : m'.methods = m.methods
  ints : m.ints.length ≤ m'.ints.length
  stat : m.statics.length ≤ m'.statics.length
  cls : ∃ cs, m'.classes = m.classes ++ cs
section
variable {m m' : Img}
theorem More.len (H : More m m') : m.classes.length ≤ m'.classes.length := by
  obtain ⟨cs, e⟩ := H.cls
  rw [e]
  simp
theorem More.named (H : More m m') {x : Mth} {op a b : Int} (ha : 0 ≤ a) (g : namedB m x op a b = true) : namedB m' x op a b = true := by
  have hl := H.len
  have hi := H.ints
  have hs := H.stat
  obtain ⟨cs, e⟩ := H.cls
  unfold namedB at *
  split
  · rename_i h; rw [if_pos h] at g; simp only [decide_eq_true_eq] at *; omega
  rename_i n1; rw [if_neg n1] at g
  split
  · rename_i h; rw [if_pos h] at g; exact g
  rename_i n1; rw [if_neg n1] at g
  split
  · rename_i h; rw [if_pos h] at g; exact g
  rename_i n1; rw [if_neg n1] at g
  split
  · rename_i h; rw [if_pos h] at g; simp only [decide_eq_true_eq] at *; omega
  rename_i n1; rw [if_neg n1] at g
  split
  · rename_i h; rw [if_pos h] at g
    simp only [Bool.and_eq_true, decide_eq_true_eq] at *
    exact ⟨by omega, by rw [e, fieldsOf_app g.1]; exact g.2⟩
  rename_i n1; rw [if_neg n1] at g
  split
  · rename_i h; rw [if_pos h] at g; simp only [decide_eq_true_eq] at *; omega
  rename_i n1; rw [if_neg n1] at g
  split
  · rename_i h; rw [if_pos h] at g; rw [H.mth]; exact g
  rename_i n1; rw [if_neg n1] at g
  split
  · rename_i h; rw [if_pos h] at g
    simp only [Bool.and_eq_true, decide_eq_true_eq] at *
    refine ⟨by omega, ?_⟩
    unfold slotsN at *
    rw [e, List.getElem?_append_left (by omega)]
    exact g.2
  · rfl
theorem More.method (H : More m m') {x : Mth} (ha : ∀ i ∈ x.code, 0 ≤ i.2.1) (g : methodB m x = true) : methodB m' x = true := by
  have hl : (m.classes.length : Int) ≤ m'.classes.length := by have := H.len; omega
  unfold methodB at *
  simp only [Bool.and_eq_true] at *
  obtain ⟨g1, g2, g3, g4, g5, g6, g7⟩ := g
  exact ⟨goodsB_more hl g1, goodsB_more hl g2, retB_more hl g3, g4, g5, g6, List.all_eq_true.mpr fun i hi => H.named (ha i hi) (List.all_eq_true.mp g7 i hi)⟩
theorem More.slot (H : More m m') {c : Int} (hc : c < m.classes.length) {ab : List Int} {k : Nat} {s : Int} : slotB m' c ab k s = slotB m c ab k s := by
  obtain ⟨cs, e⟩ := H.cls
  have hs : ∀ a b, subB (supsOf m'.classes) 3 c a b = subB (supsOf m.classes) 3 c a b := fun a b => by
    unfold subB
    rw [e, supsOf_app, aboveI_app (by rw [supsOf_len]; exact hc)]
  unfold slotB
  rw [H.mth]
  simp only [hs]
theorem More.slots (H : More m m') {c : Int} (hc : c < m.classes.length) {ab : List Int} : ∀ (l : List Int) (k : Nat), slotsFrom m' c ab k l = slotsFrom m c ab k l
  | [], _ => rfl
  | s :: r, k => by rw [slotsFrom, slotsFrom, H.slot hc, H.slots hc r (k + 1)]
theorem More.above (H : More m m') {x : Cls} (hx : x.sup < m.classes.length) : aboveSlots m' x = aboveSlots m x := by
  obtain ⟨cs, e⟩ := H.cls
  unfold aboveSlots
  split
  · rw [e, List.getElem?_append_left (by omega)]
  · rfl
theorem More.class_ (H : More m m') {c : Nat} (hc : c < m.classes.length) {x : Cls} (g : classB m c x = true) : classB m' c x = true := by
  have hl : (m.classes.length : Int) ≤ m'.classes.length := by have := H.len; omega
  obtain ⟨cs, e⟩ := H.cls
  unfold classB at *
  simp only [Bool.and_eq_true, decide_eq_true_eq] at *
  obtain ⟨g1, g2, g3, g4, g5⟩ := g
  rw [H.above (by omega), H.slots (by omega)]
  exact ⟨g1, goodsB_more hl g2, by rw [e, fieldsOf_app (by omega)]; exact g3, g4, g5⟩
theorem More.classes (H : More m m') (g : clsOk m m.classes.length = true) : clsOk m' m.classes.length = true := by
  obtain ⟨cs, e⟩ := H.cls
  refine List.all_eq_true.mpr fun i hi => ?_
  have hi := List.mem_range.mp hi
  have h1 : m.classes[i]? = some m.classes[i] := List.getElem?_eq_getElem hi
  rw [show m'.classes[i]? = some m.classes[i] by rw [e, List.getElem?_append_left hi]; exact h1]
  exact H.class_ hi (clsOk_at g hi h1)
theorem More.ok (H : More m m') (hf : fitsB m = true) (g : okB m = true) (hs : goodsB m'.statics m'.classes.length = true) (hc : clsOk m' m'.classes.length = true) (he : ∀ n ∈ m'.entries, n ∈ m.entries) : okB m' = true := by
  unfold okB at *
  simp only [Bool.and_eq_true] at *
  obtain ⟨g1, g2, g3, g4⟩ := g
  refine ⟨hs, hc, ?_, ?_⟩
  · rw [H.mth]
    refine List.all_eq_true.mpr fun x hx => H.method (fun i hi => ?_) (List.all_eq_true.mp g3 x hx)
    have := ((imgFits hf).mt x hx).ct i hi
    exact (instr_bounds this).2.2.1
  · refine List.all_eq_true.mpr fun n hn => ?_
    have := List.all_eq_true.mp g4 n (he n hn)
    unfold entryB at *
    rw [H.mth]
    exact this
end

/-- The image without entries. -/
abbrev noEnt (m : Img) : Img := { m with entries := [] }
abbrev oneInt (m : Img) (n : Int) : Img := { m with ints := m.ints ++ [n] }
abbrev oneStat (m : Img) : Img := { m with statics := m.statics ++ [(2, 0)] }
abbrev oneCls (m : Img) : Img := { m with classes := m.classes ++ [⟨-1, [], []⟩] }
theorem fits_iff {m : Img} : fitsB m = true ↔ (m.classes.length : Int) ≤ 8 ∧ (m.ints.length : Int) ≤ 16 ∧ (m.methods.length : Int) ≤ 12 ∧ typesB m.statics 8 = true ∧ listB m.entries 12 11 = true ∧ withinB m.stack 0 4096 = true ∧ withinB m.heap 0 4096 = true ∧ m.classes.all clsB = true ∧ m.methods.all mthB = true := by
  unfold fitsB headB
  simp only [Bool.and_eq_true, decide_eq_true_eq, and_assoc]
theorem parts_ent {m : Img} (h : saneR m = 0) : saneR (noEnt m) = 0 := by
  obtain ⟨hf, ho⟩ := sane_iff.mp h
  have HM : More m (noEnt m) := ⟨rfl, Nat.le_refl _, Nat.le_refl _, [], by simp⟩
  have h2 := ho
  unfold okB at h2
  simp only [Bool.and_eq_true] at h2
  refine sane_iff.mpr ⟨?_, HM.ok hf ho h2.1 (HM.classes h2.2.1) (fun n hn => by simp at hn)⟩
  obtain ⟨f1, f2, f3, f4, f5, f6⟩ := fits_iff.mp hf
  exact fits_iff.mpr ⟨f1, f2, f3, f4, by simp [listB], f6⟩
theorem parts_int {m : Img} (n : Int) (h : saneR m = 0) : saneR (oneInt m n) = 0 ↔ m.ints.length < 16 := by
  obtain ⟨hf, ho⟩ := sane_iff.mp h
  have HM : More m (oneInt m n) := ⟨rfl, by simp, Nat.le_refl _, [], by simp⟩
  have h2 := ho
  unfold okB at h2
  simp only [Bool.and_eq_true] at h2
  obtain ⟨f1, f2, f3, f4, f5, f6⟩ := fits_iff.mp hf
  constructor
  · intro g
    have := (fits_iff.mp (sane_iff.mp g).1).2.1
    simp at this
    omega
  · intro g
    refine sane_iff.mpr ⟨fits_iff.mpr ⟨f1, by simp; omega, f3, f4, f5, f6⟩, HM.ok hf ho h2.1 (HM.classes h2.2.1) (fun n hn => hn)⟩
theorem parts_stat {m : Img} (h : saneR m = 0) : saneR (oneStat m) = 0 ↔ m.statics.length < 8 := by
  obtain ⟨hf, ho⟩ := sane_iff.mp h
  have HM : More m (oneStat m) := ⟨rfl, Nat.le_refl _, by simp, [], by simp⟩
  have h2 := ho
  unfold okB at h2
  simp only [Bool.and_eq_true] at h2
  obtain ⟨f1, f2, f3, f4, f5, f6⟩ := fits_iff.mp hf
  constructor
  · intro g
    have := (of_decide_eq_true (fits_iff.mp (sane_iff.mp g).1).2.2.2.1).1
    simp at this
    omega
  · intro g
    refine sane_iff.mpr ⟨fits_iff.mpr ⟨f1, f2, f3, ?_, f5, f6⟩, HM.ok hf ho ?_ (HM.classes h2.2.1) (fun n hn => hn)⟩
    · refine decide_eq_true ⟨by simp; omega, fun t ht => ?_⟩
      rcases List.mem_append.mp ht with ht | ht
      · exact (of_decide_eq_true f4).2 t ht
      · simp at ht
        subst ht
        rfl
    · unfold goodsB at *
      rw [List.all_append, h2.1]
      simp [goodB]
theorem parts_cls {m : Img} (h : saneR m = 0) : saneR (oneCls m) = 0 ↔ m.classes.length < 8 := by
  obtain ⟨hf, ho⟩ := sane_iff.mp h
  have HM : More m (oneCls m) := ⟨rfl, Nat.le_refl _, Nat.le_refl _, _, rfl⟩
  have h2 := ho
  unfold okB at h2
  simp only [Bool.and_eq_true] at h2
  obtain ⟨f1, f2, f3, f4, f5, f6, f7, f8, f9⟩ := fits_iff.mp hf
  constructor
  · intro g
    have := (fits_iff.mp (sane_iff.mp g).1).1
    simp at this
    omega
  · intro g
    have hl : (m.classes.length : Int) ≤ (oneCls m).classes.length := by have := HM.len; omega
    refine sane_iff.mpr ⟨fits_iff.mpr ⟨by simp; omega, f2, f3, f4, f5, f6, f7, ?_, f9⟩, HM.ok hf ho (goodsB_more hl h2.1) ?_ (fun n hn => hn)⟩
    · show (m.classes ++ [_]).all clsB = true
      rw [List.all_append, f8]
      simp [clsB, withinB, typesB, listB]
    · have hn : (oneCls m).classes.length = m.classes.length + 1 := by simp
      have hat : (oneCls m).classes[m.classes.length]? = some ⟨-1, [], []⟩ := by simp
      rw [hn, clsOk_succ hat, HM.classes h2.2.1, Bool.true_and]
      have hfo : fieldsOf (oneCls m).classes (m.classes.length : Int) = [] := by
        unfold fieldsOf aboveI
        rw [if_pos (by omega), Int.toNat_natCast, aboveOf_some (s := -1) (by simp [supsOf])]
        simp [aboveI, fieldsAt]
      unfold classB
      rw [hfo]
      have hab : aboveSlots (oneCls m) ⟨-1, [], []⟩ = [] := rfl
      rw [hab]
      simp [goodsB, slotsFrom]
      omega
end Go.Proofs.Ytjgfoialajgfhaa
