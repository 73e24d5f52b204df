/-
  What a reader's parts answer, as a relation: if the reader is good behind it, these were the bytes; and of such bytes just this is answered. Plain facts; no conditions.
-/
import Derived.Test.YtikljohgdgibnaaImgDec
import Derived.Test.YtikljohgdgibnaaInst
import Derived.Test.YtikljohgdgibnaaBitsLong
namespace Go.Proofs.Ytikljohgdgibnaa
set_option maxRecDepth 100000
open Go.ChangeShapes Go.WideShapes Go.ChangeAt Go.RowKit
set_option linter.unusedVariables false

def Bts (l : List Int) : Prop := l.length ≤ 1048576 ∧ ∀ b ∈ l, 0 ≤ b ∧ b ≤ 255
def GRel {α : Type} (enc : α → List Int) (ok : α → Prop) (rest : List Int) (bad : Bool) (x : α) (rest' : List Int) (bad' : Bool) : Prop :=
  Bts rest' ∧ (bad' = false → bad = false ∧ rest = enc x ++ rest') ∧ ∀ y r, bad = false → ok y → rest = enc y ++ r → bad' = false ∧ x = y ∧ rest' = r

theorem bts_drop {l : List Int} (h : Bts l) (n : Nat) : Bts (l.drop n) := ⟨by have := h.1; simp; omega, fun b hb => h.2 b (List.mem_of_mem_drop hb)⟩
theorem bts_back {a l : List Int} (h : Bts (a ++ l)) : Bts l := ⟨by have := h.1; simp at this; omega, fun b hb => h.2 b (List.mem_append_right _ hb)⟩
theorem getR_grel {rest rest' : List Int} {bad bad' : Bool} {n most : Int} (hb : Bts rest) (hm : 0 ≤ most) (hm2 : most ≤ 34359738367) (h : getR rest bad most = (n, rest', bad')) :
    0 ≤ n ∧ n ≤ most ∧ GRel bytesN (fun n => 0 ≤ n ∧ n ≤ most) rest bad n rest' bad' := by
  have hr := getR_range rest bad most hm
  rw [h] at hr
  refine ⟨hr.1, hr.2, ?_, fun hb' => ?_, fun y r h0 hy hr' => ?_⟩
  · obtain ⟨n1, r1, b1, h1, h2, h3⟩ := getR_rest (rest := rest) (bad := bad) (most := most) hb.1 hb.2
    rw [h] at h1
    simp only [Prod.mk.injEq] at h1
    obtain ⟨rfl, rfl, rfl⟩ := h1
    exact ⟨h2, h3⟩
  · subst hb'
    cases bad
    · exact ⟨rfl, (get_back hb.2 h).1⟩
    · rw [get_bad'] at h
      simp at h
  · subst h0 hr'
    have e := get_put (n := y) (most := most) r hy.1 hy.2 hm2
    rw [show bytesN y ++ r = bytesOf y.toNat ++ r from rfl, e] at h
    simp only [Prod.mk.injEq] at h
    exact ⟨h.2.2.symm, h.1.symm, h.2.1.symm⟩
theorem getI_bad (rest : List Int) : (getI rest true).2.2 = true := by
  unfold getI
  simp only [get_bad']
  split <;> split <;> simp_all [get_bad']
theorem getI_grel {rest : List Int} {bad : Bool} {op a b : Int} (hb : Bts rest) (h : (getI rest bad).2.2 = false → (getI rest bad).1 = (op, a, b)) :
    ∃ rest', GRel encI1 (fun i => instrB i.1 i.2.1 i.2.2 = true) rest bad (op, a, b) rest' (getI rest bad).2.2 ∧ ((getI rest bad).2.2 = false → rest' = (getI rest bad).2.1) := by
  obtain ⟨g, hg⟩ : ∃ g, getI rest bad = g := ⟨_, rfl⟩
  obtain ⟨x, r, b'⟩ := g
  rw [hg] at h
  rw [hg]
  dsimp only at h ⊢
  cases b'
  · obtain rfl := h rfl
    have hbad : bad = false := by
      cases bad
      · rfl
      · have := getI_bad rest
        rw [hg] at this
        cases this
    subst hbad
    have e := (getI_back hb.2 hg).1
    refine ⟨r, ⟨bts_back (a := putI op a b) (by rw [← e]; exact hb), fun _ => ⟨rfl, e⟩, fun y r' _ hy he => ?_⟩, fun _ => rfl⟩
    have e2 := getI_put r' hy
    rw [show putI y.1 y.2.1 y.2.2 = encI1 y from rfl, ← he, hg] at e2
    simp only [Prod.mk.injEq] at e2
    exact ⟨rfl, by rw [Prod.ext_iff, Prod.ext_iff]; exact e2.1, e2.2.1⟩
  · refine ⟨[], ⟨⟨by simp, by simp⟩, fun hx => by (cases hx), fun y r' hbad hy he => ?_⟩, fun hx => by (cases hx)⟩
    subst hbad
    have e2 := getI_put r' hy
    rw [show putI y.1 y.2.1 y.2.2 = encI1 y from rfl, ← he, hg] at e2
    simp at e2

section
variable {α β : Type} {e1 : α → List Int} {o1 : α → Prop} {e2 : β → List Int} {o2 : β → Prop} {rest r1 r2 : List Int} {bad b1 b2 : Bool} {x : α} {y : β}
theorem GRel.seq (h1 : GRel e1 o1 rest bad x r1 b1) (h2 : GRel e2 o2 r1 b1 y r2 b2) : GRel (fun p : α × β => e1 p.1 ++ e2 p.2) (fun p => o1 p.1 ∧ o2 p.2) rest bad (x, y) r2 b2 := by
  refine ⟨h2.1, fun hb => ?_, fun z r hb ho he => ?_⟩
  · obtain ⟨g1, g2⟩ := h2.2.1 hb
    obtain ⟨g3, g4⟩ := h1.2.1 g1
    exact ⟨g3, by rw [g4, g2, List.append_assoc]⟩
  · obtain ⟨g1, g2, g3⟩ := h1.2.2 z.1 (e2 z.2 ++ r) hb ho.1 (by rw [he, List.append_assoc])
    obtain ⟨g4, g5, g6⟩ := h2.2.2 z.2 r g1 ho.2 g3
    exact ⟨g4, by rw [g2, g5], g6⟩
theorem GRel.map (f : α → β) (h : GRel e1 o1 rest bad x r1 b1) (he : e2 (f x) = e1 x) (ho : ∀ z, o2 z → ∃ y, o1 y ∧ f y = z ∧ e2 z = e1 y) : GRel e2 o2 rest bad (f x) r1 b1 := by
  refine ⟨h.1, fun hb => ?_, fun z r hb hz hr => ?_⟩
  · obtain ⟨g1, g2⟩ := h.2.1 hb
    exact ⟨g1, by rw [g2, he]⟩
  · obtain ⟨y, h1, h2, h3⟩ := ho z hz
    obtain ⟨g1, g2, g3⟩ := h.2.2 y r hb h1 (by rw [hr, h3])
    exact ⟨g1, by rw [g2, h2], g3⟩
theorem GRel.ls_nil (hb : Bts rest) : GRel (fun l : List α => l.flatMap e1) (fun l => l.length = 0 ∧ ∀ y ∈ l, o1 y) rest bad [] rest bad :=
  ⟨hb, fun h => ⟨h, by simp⟩, fun z r h hz hr => by
    obtain rfl : z = [] := List.eq_nil_of_length_eq_zero hz.1
    exact ⟨h, rfl, by simpa using hr⟩⟩
theorem GRel.ls_snoc {xs : List α} {k : Nat} (h1 : GRel (fun l : List α => l.flatMap e1) (fun l => l.length = k ∧ ∀ y ∈ l, o1 y) rest bad xs r1 b1) (h2 : GRel e1 o1 r1 b1 x r2 b2) :
    GRel (fun l : List α => l.flatMap e1) (fun l => l.length = k + 1 ∧ ∀ y ∈ l, o1 y) rest bad (xs ++ [x]) r2 b2 := by
  refine ⟨h2.1, fun hb => ?_, fun z r hb hz hr => ?_⟩
  · obtain ⟨g1, g2⟩ := h2.2.1 hb
    obtain ⟨g3, g4⟩ := h1.2.1 g1
    exact ⟨g3, by rw [g4, g2]; simp⟩
  · have hne : z ≠ [] := fun e => by have := hz.1; rw [e] at this; simp at this
    have hz' := List.dropLast_concat_getLast hne
    generalize z.dropLast = z0 at *
    generalize z.getLast hne = y at *
    subst hz'
    obtain ⟨g1, g2, g3⟩ := h1.2.2 z0 (e1 y ++ r) hb ⟨by have := hz.1; simp at this; omega, fun w hw => hz.2 w (List.mem_append_left _ hw)⟩ (by rw [hr]; simp)
    obtain ⟨g4, g5, g6⟩ := h2.2.2 y r g1 (hz.2 y (by simp)) g3
    exact ⟨g4, by rw [g2, g5], g6⟩
theorem GRel.ls_end {n most : Int} {xs : List α} {k : Nat} (hn0 : 0 ≤ n) (hk : k = n.toNat) (hxk : xs.length = k) (h1 : GRel bytesN (fun n => 0 ≤ n ∧ n ≤ most) rest bad n r1 b1) (h2 : GRel (fun l : List α => l.flatMap e1) (fun l => l.length = k ∧ ∀ y ∈ l, o1 y) r1 b1 xs r2 b2) :
    GRel (fun l : List α => bytesOf l.length ++ l.flatMap e1) (fun l => (l.length : Int) ≤ most ∧ ∀ y ∈ l, o1 y) rest bad xs r2 b2 := by
  refine ⟨h2.1, fun hb => ?_, fun z r hb hz hr => ?_⟩
  · obtain ⟨g1, g2⟩ := h2.2.1 hb
    obtain ⟨g3, g4⟩ := h1.2.1 g1
    exact ⟨g3, by rw [g4, g2]; dsimp only; rw [hxk, hk, List.append_assoc]⟩
  · obtain ⟨g1, g2, g3⟩ := h1.2.2 (z.length : Int) (z.flatMap e1 ++ r) hb ⟨by omega, hz.1⟩ (by rw [hr, List.append_assoc]; rfl)
    obtain ⟨g4, g5, g6⟩ := h2.2.2 z r g1 ⟨by rw [hk, g2]; simp, hz.2⟩ g3
    exact ⟨g4, g5, g6⟩
end
theorem GRel.ty3 {rest r1 r2 : List Int} {bad b1 b2 : Bool} {m : Int} (h1 : GRel bytesN (fun n => 0 ≤ n ∧ n ≤ 5) rest bad 3 r1 b1) (h2 : GRel bytesN (fun n => 0 ≤ n ∧ n ≤ 7) r1 b1 m r2 b2) :
    GRel encT (fun t => typB t = true) rest bad (3, m) r2 b2 := by
  refine ⟨h2.1, fun hb => ?_, fun z r hb hz hr => ?_⟩
  · obtain ⟨g1, g2⟩ := h2.2.1 hb
    obtain ⟨g3, g4⟩ := h1.2.1 g1
    exact ⟨g3, by rw [g4, g2, show encT (3, m) = bytesOf 3 ++ bytesOf m.toNat from if_pos rfl, List.append_assoc]; rfl⟩
  · have hz' := of_decide_eq_true hz
    by_cases h3 : z.1 = 3
    · rw [show encT z = bytesOf 3 ++ bytesOf z.2.toNat from if_pos h3, List.append_assoc] at hr
      obtain ⟨g1, g2, g3⟩ := h1.2.2 3 (bytesOf z.2.toNat ++ r) hb (by omega) hr
      obtain ⟨g4, g5, g6⟩ := h2.2.2 z.2 r g1 (by omega) g3
      exact ⟨g4, by rw [Prod.ext_iff]; exact ⟨h3.symm, g5⟩, g6⟩
    · rw [show encT z = bytesOf z.1.toNat from if_neg h3] at hr
      obtain ⟨g1, g2, g3⟩ := h1.2.2 z.1 r hb (by omega) hr
      exact absurd g2.symm h3
theorem GRel.ty0 {rest r1 : List Int} {bad b1 : Bool} {n : Int} (hn : ¬ n = 3) (h1 : GRel bytesN (fun n => 0 ≤ n ∧ n ≤ 5) rest bad n r1 b1) : GRel encT (fun t => typB t = true) rest bad (n, 0) r1 b1 := by
  refine ⟨h1.1, fun hb => ?_, fun z r hb hz hr => ?_⟩
  · obtain ⟨g3, g4⟩ := h1.2.1 hb
    exact ⟨g3, by rw [g4, show encT (n, 0) = bytesOf n.toNat from if_neg hn]⟩
  · have hz' := of_decide_eq_true hz
    by_cases h3 : z.1 = 3
    · rw [show encT z = bytesOf 3 ++ bytesOf z.2.toNat from if_pos h3, List.append_assoc] at hr
      obtain ⟨g1, g2, g3⟩ := h1.2.2 3 (bytesOf z.2.toNat ++ r) hb (by omega) hr
      exact absurd g2 hn
    · rw [show encT z = bytesOf z.1.toNat from if_neg h3] at hr
      obtain ⟨g1, g2, g3⟩ := h1.2.2 z.1 r hb (by omega) hr
      exact ⟨g1, by rw [Prod.ext_iff]; exact ⟨g2, by dsimp only; omega⟩, g3⟩
theorem GRel.long {rest r1 : List Int} {bad b1 : Bool} {n : Int} (h0 : 0 ≤ n) (h1 : GRel bytesN (fun n => 0 ≤ n ∧ n ≤ 4294967295) rest bad n r1 b1) : GRel encL OkL rest bad (zag n) r1 b1 :=
  h1.map zag (by unfold encL; rw [zig_zag h0]) fun z hz => ⟨zig z, ⟨zig_lo, zig_hi hz.1 hz.2⟩, zag_zig z, rfl⟩

abbrev encTl (l : List (Int × Int)) : List Int := bytesOf l.length ++ l.flatMap encT
abbrev encNl (l : List Int) : List Int := bytesOf l.length ++ l.flatMap bytesN
theorem GRel.cls {rest r0 r1 r2 : List Int} {bad b0 b1 b2 : Bool} {n : Int} {f : List (Int × Int)} {s : List Int} (hn : 0 ≤ n) (h0 : GRel bytesN (fun n => 0 ≤ n ∧ n ≤ 8) rest bad n r0 b0)
    (h1 : GRel encTl (fun l => (l.length : Int) ≤ 8 ∧ ∀ t ∈ l, typB t = true) r0 b0 f r1 b1) (h2 : GRel encNl (fun l => (l.length : Int) ≤ 4 ∧ ∀ t ∈ l, 0 ≤ t ∧ t ≤ 11) r1 b1 s r2 b2) :
    GRel encC (fun c => clsB c = true) rest bad ⟨n - 1, f, s⟩ r2 b2 :=
  (h0.seq (h1.seq h2)).map (fun p => Cls.mk (p.1 - 1) p.2.1 p.2.2) (by unfold encC encTs encNs; dsimp only; rw [show n - 1 + 1 = n by omega]) fun z hz => by
    obtain ⟨sup, f, s⟩ := z
    unfold clsB at hz
    simp only [Bool.and_eq_true] at hz
    obtain ⟨z1, z2, z3⟩ := hz
    have z1 := within_iff.mp z1
    have z2 : (f.length : Int) ≤ 8 ∧ ∀ t ∈ f, typB t = true := of_decide_eq_true z2
    have z3 : (s.length : Int) ≤ 4 ∧ ∀ x ∈ s, 0 ≤ x ∧ x ≤ 11 := of_decide_eq_true z3
    exact ⟨(sup + 1, f, s), ⟨⟨by dsimp only; omega, by dsimp only; omega⟩, z2, z3⟩, by simp, rfl⟩
abbrev encCl (l : List (Int × Int × Int)) : List Int := bytesOf l.length ++ l.flatMap encI1
theorem GRel.mth {r0 r1 r2 r3 r4 r5 r6 r7 : List Int} {b0 b1 b2 b3 b4 b5 b6 b7 : Bool} {a l : List (Int × Int)} {t : Int × Int} {c : List (Int × Int × Int)} {d p : Int} {f : List Int}
    (h0 : GRel encTl (fun l => (l.length : Int) ≤ 4 ∧ ∀ t ∈ l, typB t = true) r0 b0 a r1 b1) (h1 : GRel encTl (fun l => (l.length : Int) ≤ 8 ∧ ∀ t ∈ l, typB t = true) r1 b1 l r2 b2)
    (h2 : GRel encT (fun t => typB t = true) r2 b2 t r3 b3) (h3 : GRel encCl (fun l => (l.length : Int) ≤ 64 ∧ ∀ i ∈ l, instrB i.1 i.2.1 i.2.2 = true) r3 b3 c r4 b4)
    (h4 : GRel bytesN (fun n => 0 ≤ n ∧ n ≤ 8) r4 b4 d r5 b5) (h5 : GRel bytesN (fun n => 0 ≤ n ∧ n ≤ 4096) r5 b5 p r6 b6) (h6 : GRel encNl (fun l => (l.length : Int) ≤ 64 ∧ ∀ t ∈ l, 0 ≤ t ∧ t ≤ 4096) r6 b6 f r7 b7) :
    GRel encM (fun x => mthB x = true) r0 b0 ⟨a, l, t, c, d, p, f⟩ r7 b7 :=
  (h0.seq (h1.seq (h2.seq (h3.seq (h4.seq (h5.seq h6)))))).map (fun q => Mth.mk q.1 q.2.1 q.2.2.1 q.2.2.2.1 q.2.2.2.2.1 q.2.2.2.2.2.1 q.2.2.2.2.2.2) (by unfold encM encTs encNs; dsimp only; simp only [List.append_assoc]) fun z hz => by
    obtain ⟨a, l, t, c, d, p, f⟩ := z
    unfold mthB at hz
    simp only [Bool.and_eq_true, decide_eq_true_eq] at hz
    obtain ⟨z1, z2, z3, z4, z5, z6, z7, z8⟩ := hz
    exact ⟨(a, l, t, c, d, p, f), ⟨of_decide_eq_true z1, of_decide_eq_true z2, z3, ⟨z4, codeB_in z8⟩, within_iff.mp z5, within_iff.mp z6, of_decide_eq_true z7⟩, rfl, by unfold encM encTs encNs; dsimp only; simp only [List.append_assoc]⟩
/-- An image's bytes behind the text. -/
def encBody (m : Img) : List Int := bytesOf m.classes.length ++ (m.classes.flatMap encC ++ (encTs m.statics ++ (bytesOf m.ints.length ++ (m.ints.flatMap encL ++ (bytesOf m.methods.length ++ (m.methods.flatMap encM ++ (encNs m.entries ++ (bytesOf m.stack.toNat ++ bytesOf m.heap.toNat))))))))
theorem encImg_body (m : Img) : encImg m = plim ++ encBody m := rfl
theorem GRel.img {r0 r1 r2 r3 r4 r5 r6 r7 : List Int} {b0 b1 b2 b3 b4 b5 b6 b7 : Bool} {cl : List Cls} {st : List (Int × Int)} {it : List Int} {me : List Mth} {en : List Int} {k h : Int}
    (h0 : GRel (fun l : List Cls => bytesOf l.length ++ l.flatMap encC) (fun l => (l.length : Int) ≤ 8 ∧ ∀ c ∈ l, clsB c = true) r0 b0 cl r1 b1) (h1 : GRel encTl (fun l => (l.length : Int) ≤ 8 ∧ ∀ t ∈ l, typB t = true) r1 b1 st r2 b2)
    (h2 : GRel (fun l : List Int => bytesOf l.length ++ l.flatMap encL) (fun l => (l.length : Int) ≤ 16 ∧ ∀ n ∈ l, OkL n) r2 b2 it r3 b3) (h3 : GRel (fun l : List Mth => bytesOf l.length ++ l.flatMap encM) (fun l => (l.length : Int) ≤ 12 ∧ ∀ x ∈ l, mthB x = true) r3 b3 me r4 b4)
    (h4 : GRel encNl (fun l => (l.length : Int) ≤ 12 ∧ ∀ t ∈ l, 0 ≤ t ∧ t ≤ 11) r4 b4 en r5 b5) (h5 : GRel bytesN (fun n => 0 ≤ n ∧ n ≤ 4096) r5 b5 k r6 b6) (h6 : GRel bytesN (fun n => 0 ≤ n ∧ n ≤ 4096) r6 b6 h r7 b7) :
    GRel encBody OkImg r0 b0 ⟨cl, st, it, me, en, k, h⟩ r7 b7 :=
  (h0.seq (h1.seq (h2.seq (h3.seq (h4.seq (h5.seq h6)))))).map (fun q => Img.mk q.1 q.2.1 q.2.2.1 q.2.2.2.1 q.2.2.2.2.1 q.2.2.2.2.2.1 q.2.2.2.2.2.2) (by unfold encBody encTs encNs; dsimp only; simp only [List.append_assoc]) fun z hz => by
    obtain ⟨cl, st, it, me, en, k, h⟩ := z
    obtain ⟨hf, hi⟩ := hz
    unfold fitsB headB at hf
    simp only [Bool.and_eq_true, decide_eq_true_eq] at hf
    obtain ⟨⟨z1, z2, z3, z4, z5, z6, z7⟩, z8, z9⟩ := hf
    exact ⟨(cl, st, it, me, en, k, h), ⟨⟨z1, fun c hc => List.all_eq_true.mp z8 c hc⟩, of_decide_eq_true z4, ⟨z2, hi⟩, ⟨z3, fun c hc => List.all_eq_true.mp z9 c hc⟩, of_decide_eq_true z5, within_iff.mp z6, within_iff.mp z7⟩, rfl, by unfold encBody encTs encNs; dsimp only; simp only [List.append_assoc]⟩
/-- What Decode answers, of what the reader read. -/
theorem dec_is_ok {l : List Int} {m : Img} {b : Bool} (hl : l.length ≤ 8192) (h : GRel encBody OkImg (l.drop 4) false m [] false) (hp : l.take 4 = plim) (hf : fitsB m = true) : DecIs l m 0 := by
  refine .inl ⟨rfl, hf, ?_, hl⟩
  have e := (h.2.1 rfl).2
  rw [encImg_body, ← hp]
  rw [List.append_nil] at e
  rw [← e, List.take_append_drop]
theorem dec_is_long {l : List Int} (hl : 8192 < l.length) : DecIs l img0 2 := .inr ⟨rfl, rfl, fun _ _ _ => hl⟩
theorem dec_is_head {l : List Int} (hp : ¬ l.take 4 = plim) : DecIs l img0 2 := .inr ⟨rfl, rfl, fun m' _ e => absurd (by rw [← e, encImg_body]; rfl) hp⟩
theorem dec_is_bad {l r : List Int} {m : Img} {b : Bool} (h : GRel encBody OkImg (l.drop 4) false m r b) (hn : ¬ (b = false ∧ r = [] ∧ fitsB m = true)) : DecIs l img0 2 := by
  refine .inr ⟨rfl, rfl, fun m' hm e => absurd ?_ hn⟩
  have e2 : l.drop 4 = encBody m' ++ [] := by rw [← e, encImg_body, List.append_nil]; rfl
  obtain ⟨g1, g2, g3⟩ := h.2.2 m' [] rfl hm e2
  exact ⟨g1, g3, by rw [g2]; exact hm.1⟩
end Go.Proofs.Ytikljohgdgibnaa
