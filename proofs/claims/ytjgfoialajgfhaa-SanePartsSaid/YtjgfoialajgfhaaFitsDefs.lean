/-
  What an image that fits is: each part small. Plain facts; no conditions.
-/
import Derived.Test.YtjgfoialajgfhaaRefFits2
namespace Go.Proofs.Ytjgfoialajgfhaa
set_option maxRecDepth 100000
set_option linter.unusedVariables false
set_option linter.unusedSimpArgs false
open Go.ChangeShapes Go.WideShapes Go.ChangeAt Go.RowKit
set_option linter.unusedVariables false

theorem within_iff {n a b : Int} : withinB n a b = true ↔ a ≤ n ∧ n ≤ b := by unfold withinB; simp
theorem typB_small {t : Int × Int} (h : typB t = true) : 0 ≤ t.1 ∧ t.1 ≤ 5 ∧ 0 ≤ t.2 ∧ t.2 ≤ 7 := by
  have := of_decide_eq_true h
  omega
theorem typesB_small {l : List (Int × Int)} {n : Int} (h : typesB l n = true) : (l.length : Int) ≤ n ∧ ∀ t ∈ l, 0 ≤ t.1 ∧ t.1 ≤ 5 ∧ 0 ≤ t.2 ∧ t.2 ≤ 7 := by
  have := of_decide_eq_true h
  exact ⟨this.1, fun t ht => typB_small (this.2 t ht)⟩
theorem listB_small {l : List Int} {n most : Int} (h : listB l n most = true) : (l.length : Int) ≤ n ∧ ∀ t ∈ l, 0 ≤ t ∧ t ≤ most := of_decide_eq_true h
theorem codeB_in {l : List (Int × Int × Int)} (h : codeB l = true) : ∀ i ∈ l, instrB i.1 i.2.1 i.2.2 = true := fun i hi => List.all_eq_true.mp h i hi
structure ClsFits (c : Cls) : Prop where
  sup0 : -1 ≤ c.sup
  sup1 : c.sup ≤ 7
  fl : c.fields.length ≤ 8
  ft : ∀ t ∈ c.fields, 0 ≤ t.1 ∧ t.1 ≤ 5 ∧ 0 ≤ t.2 ∧ t.2 ≤ 7
  sl : c.slots.length ≤ 4
  st : ∀ t ∈ c.slots, 0 ≤ t ∧ t ≤ 11
theorem clsFits {c : Cls} (h : clsB c = true) : ClsFits c := by
  unfold clsB at h
  simp only [Bool.and_eq_true] at h
  obtain ⟨h1, h2, h3⟩ := h
  have h1 := within_iff.mp h1
  have h2 := typesB_small h2
  have h3 := listB_small h3
  exact ⟨h1.1, h1.2, by omega, h2.2, by omega, h3.2⟩
structure MthFits (x : Mth) : Prop where
  al : x.args.length ≤ 4
  at_ : ∀ t ∈ x.args, 0 ≤ t.1 ∧ t.1 ≤ 5 ∧ 0 ≤ t.2 ∧ t.2 ≤ 7
  ll : x.locals.length ≤ 8
  lt : ∀ t ∈ x.locals, 0 ≤ t.1 ∧ t.1 ≤ 5 ∧ 0 ≤ t.2 ∧ t.2 ≤ 7
  rt : 0 ≤ x.ret.1 ∧ x.ret.1 ≤ 5 ∧ 0 ≤ x.ret.2 ∧ x.ret.2 ≤ 7
  cl : x.code.length ≤ 64
  ct : ∀ i ∈ x.code, instrB i.1 i.2.1 i.2.2 = true
  d0 : 0 ≤ x.depth
  d1 : x.depth ≤ 8
  p0 : 0 ≤ x.pot
  p1 : x.pot ≤ 4096
  pl : x.phi.length ≤ 64
  pt : ∀ t ∈ x.phi, 0 ≤ t ∧ t ≤ 4096
theorem mthFits {x : Mth} (h : mthB x = true) : MthFits x := by
  unfold mthB at h
  simp only [Bool.and_eq_true, decide_eq_true_eq] at h
  obtain ⟨h1, h2, h3, h4, h5, h6, h7, h8⟩ := h
  have h1 := typesB_small h1
  have h2 := typesB_small h2
  have h3 := typB_small h3
  have h5 := within_iff.mp h5
  have h6 := within_iff.mp h6
  have h7 := listB_small h7
  exact ⟨by omega, h1.2, by omega, h2.2, h3, by omega, codeB_in h8, h5.1, h5.2, h6.1, h6.2, by omega, h7.2⟩
structure ImgFits (m : Img) : Prop where
  cl : m.classes.length ≤ 8
  ct : ∀ c ∈ m.classes, ClsFits c
  sl : m.statics.length ≤ 8
  st : ∀ t ∈ m.statics, 0 ≤ t.1 ∧ t.1 ≤ 5 ∧ 0 ≤ t.2 ∧ t.2 ≤ 7
  il : m.ints.length ≤ 16
  ml : m.methods.length ≤ 12
  mt : ∀ x ∈ m.methods, MthFits x
  el : m.entries.length ≤ 12
  et : ∀ t ∈ m.entries, 0 ≤ t ∧ t ≤ 11
  k0 : 0 ≤ m.stack
  k1 : m.stack ≤ 4096
  h0 : 0 ≤ m.heap
  h1 : m.heap ≤ 4096
theorem imgFits {m : Img} (h : fitsB m = true) : ImgFits m := by
  unfold fitsB headB at h
  simp only [Bool.and_eq_true, decide_eq_true_eq] at h
  obtain ⟨⟨h1, h2, h3, h4, h5, h6, h7⟩, h8, h9⟩ := h
  have h4 := typesB_small h4
  have h5 := listB_small h5
  have h6 := within_iff.mp h6
  have h7 := within_iff.mp h7
  exact ⟨by omega, fun c hc => clsFits (List.all_eq_true.mp h8 c hc), by omega, h4.2, by omega, by omega, fun x hx => mthFits (List.all_eq_true.mp h9 x hx), by omega, h5.2, h6.1, h6.2, h7.1, h7.2⟩
end Go.Proofs.Ytjgfoialajgfhaa
