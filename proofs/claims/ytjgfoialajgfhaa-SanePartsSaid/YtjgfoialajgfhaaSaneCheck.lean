/-
  What the program's own sane.Check comes to, and that it is what the document says.
-/
import Derived.Test.YtjgfoialajgfhaaSaneNamed
import Derived.Test.YtjgfoialajgfhaaImgFits
namespace Go.Proofs.Ytjgfoialajgfhaa
set_option maxRecDepth 100000
set_option linter.unusedVariables false
set_option linter.unusedSimpArgs false
open Go.ChangeShapes Go.WideShapes Go.ChangeAt Go.RowKit
set_option linter.unusedVariables false
set_option linter.unusedSimpArgs false

/-- The types of methods of an image that fits: only a reference has a number that is not 0. -/
theorem fits_types {m : Img} (h : fitsB m = true) : ∀ x ∈ m.methods, typB x.ret = true ∧ ∀ t ∈ x.args, typB t = true := fun x hx => by
  unfold fitsB at h
  simp only [Bool.and_eq_true] at h
  have h1 := List.all_eq_true.mp h.2.2 x hx
  unfold mthB at h1
  simp only [Bool.and_eq_true] at h1
  exact ⟨h1.2.2.1, (of_decide_eq_true h1.1 : _ ∧ _).2⟩
theorem typ_plain {t : Int × Int} {k : Int} (h : typB t = true) (hk : k ≠ 3) : (t = (k, 0)) ↔ t.1 = k := by
  have h := of_decide_eq_true h
  constructor
  · rintro rfl; rfl
  · intro e
    have : t.2 = 0 := by omega
    exact Prod.ext e this
theorem entry_same {m : Img} (h : fitsB m = true) (n : Int) : enamedB m n = entryB m n := by
  unfold enamedB entryB
  cases hf : m.methods[n.toNat]? with
  | none => rfl
  | some f =>
    obtain ⟨h1, h2⟩ := fits_types h f (List.mem_of_getElem? hf)
    dsimp only
    rw [Bool.eq_iff_iff]
    simp only [Bool.and_eq_true, Bool.or_eq_true, List.all_eq_true, decide_eq_true_eq]
    rw [typ_plain h1 (by decide), typ_plain h1 (by decide)]
    constructor
    · rintro ⟨g1, g2⟩
      exact ⟨g2, fun t ht => (typ_plain (h2 t ht) (by decide)).mp (g1 t ht)⟩
    · rintro ⟨g2, g1⟩
      exact ⟨fun t ht => (typ_plain (h2 t ht) (by decide)).mpr (g1 t ht), g2⟩
theorem lists_iff (m : Img) (c : Int) : listsB (typeLists m m.methods.length) c = true ↔ goodsB m.statics c = true ∧ (∀ x ∈ m.classes, goodsB x.fields c = true) ∧ ∀ x ∈ m.methods, goodsB x.args c = true ∧ goodsB x.locals c = true := by
  unfold listsB typeLists
  rw [List.take_of_length_le (Nat.le_refl _)]
  simp only [List.all_cons, List.all_append, Bool.and_eq_true, List.all_eq_true, List.mem_map, List.mem_flatMap]
  constructor
  · rintro ⟨h1, h2, h3⟩
    refine ⟨h1, fun x hx => h2 _ ⟨x, hx, rfl⟩, fun x hx => ⟨h3 _ ⟨x, hx, by simp⟩, h3 _ ⟨x, hx, by simp⟩⟩⟩
  · rintro ⟨h1, h2, h3⟩
    refine ⟨h1, ?_, ?_⟩
    · rintro l ⟨x, hx, rfl⟩
      exact h2 x hx
    · rintro l ⟨x, hx, hl⟩
      simp at hl
      rcases hl with rfl | rfl
      · exact (h3 x hx).1
      · exact (h3 x hx).2
theorem clsOk_iff (m : Img) : clsOk m m.classes.length = true ↔ ∀ (i : Nat) x, m.classes[i]? = some x → classB m (i : Int) x = true := by
  constructor
  · intro h i x hx
    obtain ⟨hi, _⟩ := List.getElem?_eq_some_iff.mp hx
    exact clsOk_at h hi hx
  · intro h
    refine List.all_eq_true.mpr fun i hi => ?_
    cases hx : m.classes[i]? with
    | none => rfl
    | some x => exact h i x hx
theorem clsOwn_iff (m : Img) : clsOwnB m = true ↔ ∀ (i : Nat) x, m.classes[i]? = some x → (fieldsOf m.classes (i : Int)).length ≤ 8 ∧ slotsB m i x = true := by
  constructor
  · intro h i x hx
    obtain ⟨hi, _⟩ := List.getElem?_eq_some_iff.mp hx
    have := List.all_eq_true.mp h i (List.mem_range.mpr hi)
    rw [clsAt_some hx] at this
    simpa using this
  · intro h
    refine List.all_eq_true.mpr fun i hi => ?_
    cases hx : m.classes[i]? with
    | none => unfold clsAtB; rw [hx]
    | some x =>
      rw [clsAt_some hx]
      simpa using h i x hx
theorem sups_iff (cl : List Cls) : supsB cl = true ↔ ∀ (i : Nat) x, cl[i]? = some x → x.sup < (i : Int) := by
  constructor
  · intro h i x hx
    exact sups_at h hx
  · intro h
    refine List.all_eq_true.mpr fun i hi => ?_
    unfold supB
    cases hx : cl[i]? with
    | none => rfl
    | some x => exact decide_eq_true (h i x hx)
theorem class_iff (m : Img) (i : Nat) (x : Cls) : classB m (i : Int) x = true ↔ x.sup < (i : Int) ∧ goodsB x.fields m.classes.length = true ∧ (fieldsOf m.classes (i : Int)).length ≤ 8 ∧ slotsB m i x = true := by
  unfold classB slotsB
  simp only [Bool.and_eq_true, decide_eq_true_eq]
theorem method_iff (m : Img) (x : Mth) : methodB m x = true ↔ goodsB x.args m.classes.length = true ∧ goodsB x.locals m.classes.length = true ∧ retB x.ret m.classes.length = true ∧ mnamedB m x = true := by
  unfold methodB mnamedB
  simp only [Bool.and_eq_true]
/-- The program's order, and the document's. -/
theorem named_same {m : Img} (h : fitsB m = true) : snamedB m = okB m := by
  rw [Bool.eq_iff_iff]
  unfold snamedB okB tnamedB
  simp only [Bool.and_eq_true]
  rw [lists_iff, sups_iff, clsOwn_iff, clsOk_iff, show m.entries.all (enamedB m) = m.entries.all (entryB m) by rw [show enamedB m = entryB m from funext (entry_same h)]]
  unfold retsB
  simp only [List.all_eq_true]
  constructor
  · rintro ⟨⟨r, s, f, t⟩, u, c, x, e⟩
    exact ⟨s, fun i y hy => (class_iff m i y).mpr ⟨u i y hy, f y (List.mem_of_getElem? hy), (c i y hy).1, (c i y hy).2⟩, fun y hy => (method_iff m y).mpr ⟨(t y hy).1, (t y hy).2, r y hy, x y hy⟩, e⟩
  · rintro ⟨s, c, x, e⟩
    have c' := fun i y hy => (class_iff m i y).mp (c i y hy)
    have x' := fun y hy => (method_iff m y).mp (x y hy)
    refine ⟨⟨fun y hy => (x' y hy).2.2.1, s, fun y hy => ?_, fun y hy => ⟨(x' y hy).1, (x' y hy).2.1⟩⟩, fun i y hy => (c' i y hy).1, fun i y hy => ⟨(c' i y hy).2.2.1, (c' i y hy).2.2.2⟩, fun y hy => (x' y hy).2.2.2, e⟩
    obtain ⟨i, hi⟩ := List.getElem?_of_mem hy
    exact (c' i y hi).2.1

set_option maxHeartbeats 800000 in
theorem scheck_any (m : Img) (h : Hnd) (w : World) (H : ImgIn w w.heap.size h m) :
    Calls Try.prog 8 #[imgV h m] w fun e w' => e = .returned (.int .i64 (saneR m)) ∧ Below w.heap.size w w' := by
  have HW := Lib.hid (below_box (w := w) (h := h) (m := m))
  have HBX := Lib.hid (img_box w h m)
  have HZ : Hid (w.heap.size < (w.alloc (imgO h m)).heap.size) := Lib.hid (by simp)
  have HI := Lib.hid (H.now HW.out)
  clear H
  obtain ⟨r, hr⟩ : ∃ r, fitsB m = r := ⟨_, rfl⟩
  have R := Lib.hid hr
  clear hr
  go_enter Try.func8, Try.ntmps8
  go_upto_region 1 with fail
  generalize w.alloc (imgO h m) = w1 at *
  obtain ⟨q0, q1, q2, q3, q4, q5, q6⟩ := HBX.out
  cases r
  · have EN := Lib.hid (sane_not R.out)
    go_wp2_with (go_at_call 11; (with_reducible refine (ifits_any m h _ _ (Nat.le_refl _) HI.out).mono ?_); rintro e w2 ⟨he, hb⟩; rw [R.out] at he; subst he; have HX := Lib.hid hb; obtain ⟨q0, q1, q2, q3, q4, q5, q6⟩ := HBX.out.keep HX.out HZ.out; clear hb)
    go_ret
    exact ⟨by rw [EN.out]; rfl, HW.out.trans (HX.out.mono HW.out.size)⟩
  · have HF := Lib.hid (imgFits R.out)
    have HS := Lib.hid (named_same R.out)
    obtain ⟨d, hd⟩ : ∃ d, snamedB m = d := ⟨_, rfl⟩
    have D := Lib.hid hd
    have HOK := Lib.hid (HS.out.symm.trans hd)
    clear hd HS
    cases d
    · have EN := Lib.hid (sane_no R.out HOK.out)
      go_wp2_with (first | (go_at_call 11; (with_reducible refine (ifits_any m h _ _ (Nat.le_refl _) HI.out).mono ?_); rintro e w2 ⟨he, hb⟩; rw [R.out] at he; subst he; have HX := Lib.hid hb; obtain ⟨q0, q1, q2, q3, q4, q5, q6⟩ := HBX.out.keep HX.out HZ.out; clear hb) | (go_at_call 12; (with_reducible refine (snamed_any m h _ (HI.out.now HX.out) HF.out).mono ?_); rintro e w3 ⟨he, hb⟩; rw [D.out] at he; subst he; have HX := Lib.hid (HX.out.trans (hb.mono HX.out.size)); clear hb))
      go_ret
      exact ⟨by rw [EN.out]; rfl, HW.out.trans (HX.out.mono HW.out.size)⟩
    · have EN := Lib.hid (sane_yes R.out HOK.out)
      go_wp2_with (first | (go_at_call 11; (with_reducible refine (ifits_any m h _ _ (Nat.le_refl _) HI.out).mono ?_); rintro e w2 ⟨he, hb⟩; rw [R.out] at he; subst he; have HX := Lib.hid hb; obtain ⟨q0, q1, q2, q3, q4, q5, q6⟩ := HBX.out.keep HX.out HZ.out; clear hb) | (go_at_call 12; (with_reducible refine (snamed_any m h _ (HI.out.now HX.out) HF.out).mono ?_); rintro e w3 ⟨he, hb⟩; rw [D.out] at he; subst he; have HX := Lib.hid (HX.out.trans (hb.mono HX.out.size)); clear hb))
      go_ret
      exact ⟨by rw [EN.out]; rfl, HW.out.trans (HX.out.mono HW.out.size)⟩
end Go.Proofs.Ytjgfoialajgfhaa
