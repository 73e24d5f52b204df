/-
  Types that grow from below: what is right is above them. Plain definitions and lemmas; no conditions.
  Types that grow from below, with nulls that are all one, and how many rounds they may take. Plain definitions and lemmas; no conditions.
-/
import Derived.Test.YtefgepppcmhphaaM47
namespace Go.Proofs.Ytefgepppcmhphaa
set_option maxRecDepth 100000
set_option linter.unusedVariables false
set_option linter.unusedSimpArgs false
open Go.ChangeShapes Go.WideShapes Go.ChangeAt Go.RowKit
set_option linter.unusedVariables false

theorem onB_iff {m : Img} {S : List Shp} {af : List (Int × Int)} {n : Int} : onB m S af n = true ↔ (shpN S n).seen = true ∧ FitsAll (supsOf m.classes) af (shpN S n).stack := by
  unfold onB
  rw [Bool.and_eq_true, underB_iff]
theorem place_iff {m : Img} {f pc : Int} {S : List Shp} : placeB m f S pc = true ↔ ((shpN S pc).seen = true → (stepOf m f pc (shpN S pc).stack).err = 0 ∧ ∀ n ∈ (stepOf m f pc (shpN S pc).stack).next, (shpN S n).seen = true ∧ FitsAll (supsOf m.classes) (stepOf m f pc (shpN S pc).stack).after (shpN S n).stack) := by
  unfold placeB goB
  cases h : (shpN S pc).seen
  · simp
  · rw [Bool.not_true, Bool.false_or, Bool.and_eq_true, decide_eq_true_eq, List.all_eq_true]
    constructor
    · intro g _
      exact ⟨g.1, fun n hn => onB_iff.mp (g.2 n hn)⟩
    · intro g
      obtain ⟨g1, g2⟩ := g rfl
      exact ⟨g1, fun n hn => onB_iff.mpr (g2 n hn)⟩
theorem rightS_iff {m : Img} {f : Int} {R : List Shp} : rightS m f R = true ↔ (0 < R.length ∧ R.length = (mthN m f).code.length ∧ (shpN R 0).seen = true ∧ (shpN R 0).stack = []) ∧ ∀ pc : Nat, pc < R.length → placeB m f R (pc : Int) = true := by
  unfold rightS firstB
  rw [Bool.and_eq_true, range_all]
  simp only [Bool.and_eq_true, decide_eq_true_eq, List.length_eq_zero_iff]
/-- Types that are no more than all that is right. -/
structure LowT (m : Img) (f : Int) (S : List Shp) : Prop where
  len : S.length = (mthN m f).code.length
  first : (shpN S 0).seen = true ∧ (shpN S 0).stack = []
  self : ∀ s ∈ S, FitsAll (supsOf m.classes) s.stack s.stack
  small : ∀ s ∈ S, s.stack.length ≤ 8
  low : ∀ R, rightS m f R = true → ∀ i : Nat, i < S.length → (shpN S i).seen = true → (shpN R i).seen = true ∧ FitsAll (supsOf m.classes) (shpN S i).stack (shpN R i).stack
theorem shpN_mem {S : List Shp} {i : Nat} (hi : i < S.length) : shpN S (i : Int) ∈ S := by
  rw [shpN_at hi]
  exact List.getElem_mem hi
theorem LowT.right {m : Img} {f : Int} {S R : List Shp} (hm : SaneI m) (h : LowT m f S) (hR : rightS m f R = true) {pc : Nat} (hp : pc < S.length) (hs : (shpN S pc).seen = true) :
    (stepOf m f pc (shpN S pc).stack).err = 0 ∧ ∀ n ∈ (stepOf m f pc (shpN S pc).stack).next, (shpN R n).seen = true ∧ FitsAll (supsOf m.classes) (stepOf m f pc (shpN S pc).stack).after (shpN R n).stack := by
  obtain ⟨h1, h2⟩ := h.low R hR pc hp hs
  obtain ⟨⟨_, hl, _⟩, hall⟩ := rightS_iff.mp hR
  have hpR : pc < R.length := by rw [hl, ← h.len]; exact hp
  obtain ⟨g1, g2⟩ := place_iff.mp (hall pc hpR) h1
  obtain ⟨e1, e2, e3⟩ := stepOf_fits hm h2 g1
  exact ⟨e1, fun n hn => by
    rw [e2] at hn
    obtain ⟨a1, a2⟩ := g2 n hn
    exact ⟨a1, e3.trans' a2⟩⟩
theorem LowT.none_err {m : Img} {f : Int} {S : List Shp} (hm : SaneI m) (h : LowT m f S) {pc : Nat} (hp : pc < S.length) (hs : (shpN S pc).seen = true) (he : ¬ (stepOf m f pc (shpN S pc).stack).err = 0) : ∀ R, rightS m f R = false := fun R => by
  rw [Bool.eq_false_iff]
  intro hR
  exact he (h.right hm hR hp hs).1
theorem LowT.none_come {m : Img} {f : Int} {S : List Shp} (hm : SaneI m) (h : LowT m f S) {pc q : Nat} (hp : pc < S.length) (hq : q < S.length) (hs : (shpN S pc).seen = true) (hn : (q : Int) ∈ (stepOf m f pc (shpN S pc).stack).next)
    (hb : ComeBad (supsOf m.classes) (shpN S q) (stepOf m f pc (shpN S pc).stack).after) : ∀ R, rightS m f R = false := fun R => by
  rw [Bool.eq_false_iff]
  intro hR
  have h2 := (h.low R hR q hq hb.1).2
  exact hb.2 _ h2 ((h.right hm hR hp hs).2 _ hn).2
theorem LowT.put {m : Img} {f : Int} {S : List Shp} (hm : SaneI m) (h : LowT m f S) {pc q : Nat} {J : List (Int × Int)} {gr : Bool} (hp : pc < S.length) (hq : q < S.length) (hs : (shpN S pc).seen = true) (hn : (q : Int) ∈ (stepOf m f pc (shpN S pc).stack).next)
    (hc : ComeOk (supsOf m.classes) (shpN S q) (stepOf m f pc (shpN S pc).stack).after J gr) (h8 : (stepOf m f pc (shpN S pc).stack).after.length ≤ 8) : LowT m f (S.set q ⟨true, J⟩) := by
  have hset : ∀ i : Nat, shpN (S.set q ⟨true, J⟩) (i : Int) = if i = q then ⟨true, J⟩ else shpN S (i : Int) := fun i => shpN_set hq
  have hJ : FitsAll (supsOf m.classes) J J := hc.least J hc.old hc.up
  refine ⟨by rw [List.length_set]; exact h.len, ?_, fun s hs' => ?_, fun s hs' => ?_, fun R hR i hi hsi => ?_⟩
  · have h0 := hset 0
    by_cases e : 0 = q
    · rw [if_pos e] at h0
      have hz := hc.old (by rw [← e]; exact h.first.1)
      rw [← e] at hz
      have hl := hz.1
      have hf : (shpN S ((0 : Nat) : Int)).stack = [] := h.first.2
      rw [hf] at hl
      have hJ0 : J = [] := List.eq_nil_of_length_eq_zero hl.symm
      have e2 : shpN (S.set q ⟨true, J⟩) 0 = ⟨true, J⟩ := h0
      rw [e2]
      exact ⟨rfl, hJ0⟩
    · rw [if_neg e] at h0
      have e2 : shpN (S.set q ⟨true, J⟩) 0 = shpN S 0 := h0
      rw [e2]
      exact h.first
  · rcases List.mem_or_eq_of_mem_set hs' with g | g
    · exact h.self s g
    · rw [g]; exact hJ
  · rcases List.mem_or_eq_of_mem_set hs' with g | g
    · exact h.small s g
    · rw [g]
      show J.length ≤ 8
      rw [← hc.up.1]
      exact h8
  · rw [List.length_set] at hi
    rw [hset] at hsi ⊢
    by_cases e : i = q
    · rw [if_pos e]
      subst e
      obtain ⟨a1, a2⟩ := (h.right hm hR hp hs).2 _ hn
      exact ⟨a1, hc.least _ (fun g => (h.low R hR i hi g).2) a2⟩
    · rw [if_neg e] at hsi ⊢
      exact h.low R hR i hi hsi
theorem place_put {m : Img} {f : Int} {S : List Shp} {p q : Nat} {J st : List (Int × Int)} {gr : Bool} (hq : q < S.length) (hpq : p ≠ q) (h : placeB m f S (p : Int) = true) (hN : ∀ n ∈ (stepOf m f p (shpN S p).stack).next, 0 ≤ n)
    (hc : ComeOk (supsOf m.classes) (shpN S q) st J gr) : placeB m f (S.set q ⟨true, J⟩) (p : Int) = true := by
  have hset : ∀ i : Nat, shpN (S.set q ⟨true, J⟩) (i : Int) = if i = q then ⟨true, J⟩ else shpN S (i : Int) := fun i => shpN_set hq
  rw [place_iff] at h ⊢
  rw [hset, if_neg hpq]
  intro hs
  obtain ⟨h1, h2⟩ := h hs
  refine ⟨h1, fun n hn => ?_⟩
  obtain ⟨g1, g2⟩ := h2 n hn
  obtain ⟨k, rfl⟩ := Int.eq_ofNat_of_zero_le (hN n hn)
  rw [hset]
  by_cases e : k = q
  · rw [if_pos e]
    subst e
    exact ⟨rfl, g2.trans' (hc.old g1)⟩
  · rw [if_neg e]
    exact ⟨g1, g2⟩
theorem LowT.done {m : Img} {f : Int} {S : List Shp} (h : LowT m f S) (h0 : 0 < S.length) (hd : ∀ pc : Nat, pc < S.length → placeB m f S (pc : Int) = true) : rightS m f S = true := rightS_iff.mpr ⟨⟨h0, h.len, h.first⟩, hd⟩
theorem come_same {sup : List Int} {S : List Shp} {q : Nat} {st J : List (Int × Int)} (hq : q < S.length) (hc : ComeOk sup (shpN S q) st J false) : S.set q ⟨true, J⟩ = S := by
  obtain ⟨h1, h2⟩ := hc.same rfl
  have e : (⟨true, J⟩ : Shp) = S[q] := by
    rw [← shpN_at hq]
    have : shpN S (q : Int) = ⟨(shpN S (q : Int)).seen, (shpN S (q : Int)).stack⟩ := rfl
    rw [this, h1, h2]
  rw [e]
  exact List.set_getElem_self hq
theorem come_less {m : Img} {S : List Shp} {q : Nat} {st J : List (Int × Int)} (hq : q < S.length) (hc : ComeOk (supsOf m.classes) (shpN S q) st J true) (h8 : st.length ≤ 8) : rankA (supsOf m.classes).length (S.set q ⟨true, J⟩) < rankA (supsOf m.classes).length S :=
  rankA_set hq (by
    rw [← shpN_at hq]
    exact come_rank hc (by rw [← hc.up.1]; exact h8))
/-- Does one say no more than another? -/
def overS (sup : List Int) (S R : List Shp) : Bool := decide (S.length = R.length) && (List.range S.length).all fun i => !(shpN S (i : Int)).seen || ((shpN R (i : Int)).seen && underB sup (shpN S (i : Int)).stack (shpN R (i : Int)).stack)
theorem overS_iff {sup : List Int} {S R : List Shp} : overS sup S R = true ↔ S.length = R.length ∧ ∀ i : Nat, i < S.length → (shpN S i).seen = true → (shpN R i).seen = true ∧ FitsAll sup (shpN S i).stack (shpN R i).stack := by
  unfold overS
  rw [Bool.and_eq_true, decide_eq_true_eq, range_all]
  constructor
  · rintro ⟨h1, h2⟩
    refine ⟨h1, fun i hi hs => ?_⟩
    have := h2 i hi
    rw [hs, Bool.not_true, Bool.false_or, Bool.and_eq_true, underB_iff] at this
    exact this
  · rintro ⟨h1, h2⟩
    refine ⟨h1, fun i hi => ?_⟩
    cases hs : (shpN S (i : Int)).seen
    · rfl
    · obtain ⟨g1, g2⟩ := h2 i hi hs
      rw [g1, underB_iff.mpr g2]
      rfl
theorem overS_trans {sup : List Int} {S R Q : List Shp} (h : overS sup S R = true) (g : overS sup R Q = true) : overS sup S Q = true := by
  rw [overS_iff] at h g ⊢
  refine ⟨h.1.trans g.1, fun i hi hs => ?_⟩
  obtain ⟨a1, a2⟩ := h.2 i hi hs
  obtain ⟨b1, b2⟩ := g.2 i (by rw [← h.1]; exact hi) a1
  exact ⟨b1, a2.trans' b2⟩
theorem LowT.over {m : Img} {f : Int} {S R : List Shp} (h : LowT m f S) (hR : rightS m f R = true) : overS (supsOf m.classes) S R = true := by
  rw [overS_iff]
  refine ⟨?_, fun i hi hs => h.low R hR i hi hs⟩
  rw [h.len, (rightS_iff.mp hR).1.2.1]
/-- All methods' types. -/
def overB (sup : List Int) (a b : List (List Shp)) : Bool := decide (a.length = b.length) && (List.range a.length).all fun f => overS sup (a[f]?.getD []) (b[f]?.getD [])
theorem overB_iff {sup : List Int} {a b : List (List Shp)} : overB sup a b = true ↔ a.length = b.length ∧ ∀ f, f < a.length → overS sup (a[f]?.getD []) (b[f]?.getD []) = true := by
  unfold overB
  rw [Bool.and_eq_true, decide_eq_true_eq, range_all]
theorem overB_trans {sup : List Int} {a b c : List (List Shp)} (h : overB sup a b = true) (g : overB sup b c = true) : overB sup a c = true := by
  rw [overB_iff] at h g ⊢
  exact ⟨h.1.trans g.1, fun f hf => overS_trans (h.2 f hf) (g.2 f (by rw [← h.1]; exact hf))⟩
theorem rightB_iff {m : Img} {a : List (List Shp)} : rightB m a = true ↔ a.length = m.methods.length ∧ ∀ f, f < a.length → rightS m (f : Int) (a[f]?.getD []) = true := by
  unfold rightB
  rw [Bool.and_eq_true, decide_eq_true_eq, range_all]
/-- Types of all methods: they are right, and whatever is right says no less. -/
structure LeastB (m : Img) (a : List (List Shp)) : Prop where
  right : rightB m a = true
  least : ∀ b, rightB m b = true → overB (supsOf m.classes) a b = true
  small : ∀ S ∈ a, ∀ s ∈ S, s.stack.length ≤ 8
theorem LeastB.self {m : Img} {a : List (List Shp)} (h : LeastB m a) : overB (supsOf m.classes) a a = true := h.least a h.right
/-- Types of a method: they are right, and whatever is right says no less. -/
structure LeastS (m : Img) (f : Int) (S : List Shp) : Prop where
  right : rightS m f S = true
  least : ∀ R, rightS m f R = true → overS (supsOf m.classes) S R = true
  small : ∀ s ∈ S, s.stack.length ≤ 8
theorem leastB_of {m : Img} {a : List (List Shp)} (hl : a.length = m.methods.length) (h : ∀ f, f < a.length → LeastS m (f : Int) (a[f]?.getD [])) : LeastB m a :=
  ⟨rightB_iff.mpr ⟨hl, fun f hf => (h f hf).right⟩, fun b hb => by
    obtain ⟨h1, h2⟩ := rightB_iff.mp hb
    exact overB_iff.mpr ⟨hl.trans h1.symm, fun f hf => (h f hf).least _ (h2 f (by omega))⟩, fun S hS => by
    obtain ⟨i, hi, rfl⟩ := List.getElem_of_mem hS
    have := (h i hi).small
    rw [List.getElem?_eq_getElem hi] at this
    exact this⟩
theorem rightB_none {m : Img} {f : Nat} (hf : f < m.methods.length) (h : ∀ R, rightS m (f : Int) R = false) : ∀ a, rightB m a = false := fun a => by
  rw [Bool.eq_false_iff]
  intro ha
  obtain ⟨h1, h2⟩ := rightB_iff.mp ha
  have := h2 f (by omega)
  rw [h] at this
  cases this
/-- At the beginning. -/
theorem low_start {m : Img} {f : Int} {n : Nat} (hn : (mthN m f).code.length = n + 1) : LowT m f (⟨true, []⟩ :: List.replicate n (⟨false, []⟩ : Shp)) := by
  refine ⟨by rw [hn]; simp, ⟨rfl, rfl⟩, fun s hs => ?_, fun s hs => ?_, fun R hR i hi hs => ?_⟩
  · rcases List.mem_cons.mp hs with rfl | hs
    · exact fits_nil _
    · rw [(List.mem_replicate.mp hs).2]; exact fits_nil _
  · rcases List.mem_cons.mp hs with rfl | hs
    · exact Nat.zero_le _
    · rw [(List.mem_replicate.mp hs).2]; exact Nat.zero_le _
  · match i, hi, hs with
    | 0, _, _ =>
      obtain ⟨⟨_, _, h1, h2⟩, _⟩ := rightS_iff.mp hR
      refine ⟨h1, ?_⟩
      have e : (shpN R ((0 : Nat) : Int)).stack = [] := h2
      rw [e]
      exact fits_nil _
    | i + 1, hi, hs =>
      rw [shpN_at hi] at hs
      have : (List.replicate n (⟨false, []⟩ : Shp))[i]'(by simpa using hi) = ⟨false, []⟩ := List.getElem_replicate ..
      have hs : ((List.replicate n (⟨false, []⟩ : Shp))[i]'(by simpa using hi)).seen = true := hs
      rw [this] at hs
      cases hs
end Go.Proofs.Ytefgepppcmhphaa
namespace Go.Proofs.Ytefgepppcmhphaa
set_option maxRecDepth 100000
set_option linter.unusedVariables false
set_option linter.unusedSimpArgs false
open Go.ChangeShapes Go.WideShapes Go.ChangeAt Go.RowKit
set_option linter.unusedVariables false

def nullZ (t : Int × Int) : Prop := t.1 = 4 → t.2 = 0
def NullZ (l : List (Int × Int)) : Prop := ∀ t ∈ l, nullZ t
theorem null_ite {c : Prop} [Decidable c] {A B : List (Int × Int)} (hA : c → NullZ A) (hB : ¬ c → NullZ B) : NullZ (if c then A else B) := by
  by_cases g : c
  · rw [if_pos g]; exact hA g
  · rw [if_neg g]; exact hB g
theorem null_one {t : Int × Int} (h : nullZ t) : NullZ [t] := fun u hu => by rw [List.mem_singleton.mp hu]; exact h
theorem good_null {t : Int × Int} {n : Nat} (h : goodB t.1 t.2 n = true) : nullZ t := fun e => by
  unfold goodB at h
  rw [decide_eq_true_eq] at h
  omega
theorem ret_null {m : Img} {y : Mth} (hy : SaneM m y) : NullZ (givesOf y) := by
  unfold givesOf
  refine null_ite (fun _ t ht => absurd ht (by simp)) (fun h5 => null_one ?_)
  rcases hy.rt with h | h
  · rw [h] at h5; exact absurd rfl h5
  · exact good_null h
theorem give_null {m : Img} {x : Mth} {f : Nat} {op a b : Int} (hm : SaneI m) (hg : m.methods[f]? = some x) (hi : instrB op a b = true) (hn : namedB m x op a b = true) : NullZ (giveOf m x op a b) := by
  obtain ⟨o0, o1, a0, a1, b0, b1⟩ := instr_bounds hi
  have hx := hm.method (List.mem_of_getElem? hg)
  have s1 : nullZ (1, 0) := fun e => rfl
  have s2 : nullZ (2, 0) := fun e => rfl
  have s4 : nullZ (4, 0) := fun e => rfl
  have s3 : nullZ (3, a) := fun e => by cases e
  unfold giveOf
  refine null_ite (fun _ => null_one s1) (fun _ => ?_)
  refine null_ite (fun _ => null_one s4) (fun _ => ?_)
  refine null_ite (fun h => null_one ?_) (fun _ => ?_)
  · have hl := named_get (.inl h) hn
    unfold localOf
    rw [if_pos a0]
    have hmem := at_getD (l := x.args ++ x.locals) a0 (by rw [List.length_append]; omega)
    rcases List.mem_append.mp hmem with q | q
    · exact good_null (hx.at_ _ q)
    · exact good_null (hx.lt _ q)
  refine null_ite (fun _ => null_one s1) (fun _ => ?_)
  refine null_ite (fun _ => null_one s1) (fun _ => ?_)
  refine null_ite (fun h => null_one s3) (fun _ => ?_)
  refine null_ite (fun _ => null_one s2) (fun _ => ?_)
  refine null_ite (fun _ => null_one s1) (fun _ => ?_)
  refine null_ite (fun _ => null_one s1) (fun _ => ?_)
  refine null_ite (fun h => null_one (good_null (fields_good hm (at_getD b0 (named_field (.inl h) hn).2)))) (fun _ => ?_)
  refine null_ite (fun h => null_one (good_null (hm.st _ (at_getD a0 (named_static (.inl h) hn))))) (fun _ => ?_)
  refine null_ite (fun h => null_one s3) (fun _ => ?_)
  refine null_ite (fun h => ?_) (fun _ => ?_)
  · subst h
    have h1 := named_call hn
    have h2 : a.toNat < m.methods.length := by omega
    refine ret_null (hm.method ?_)
    unfold mthN
    rw [List.getElem?_eq_getElem h2]
    exact List.getElem_mem h2
  refine null_ite (fun h => ?_) (fun _ => ?_)
  · subst h
    obtain ⟨_, k, y, hk, hy, _⟩ := named_virt hm a0 b0 hn
    refine ret_null (hm.method ?_)
    unfold mthN slotN
    rw [hk, Option.getD_some, Int.toNat_natCast, hy]
    exact List.mem_of_getElem? hy
  refine null_ite (fun _ => null_one s1) (fun _ => ?_)
  exact fun t ht => absurd ht (by simp)
theorem step_null {m : Img} {f pc : Int} {st : List (Int × Int)} (hm : SaneI m) (h : NullZ st) (e : (stepOf m f pc st).err = 0) : NullZ (stepOf m f pc st).after := by
  unfold stepOf at e ⊢
  by_cases g : 0 ≤ f ∧ f < m.methods.length ∧ 0 ≤ pc ∧ pc < (mthN m f).code.length
  · rw [if_pos g] at e
    rw [if_pos g]
    cases hi : (mthN m f).code[pc.toNat]? with
    | none => rw [hi] at e; exact absurd e (show ¬ (1 : Int) = 0 by decide)
    | some i =>
      rw [hi] at e
      have hf : f.toNat < m.methods.length := by omega
      have hg : m.methods[f.toNat]? = some (mthN m f) := by unfold mthN; rw [List.getElem?_eq_getElem hf]; rfl
      have hx := hm.method (List.mem_of_getElem? hg)
      have him := List.mem_of_getElem? hi
      have hgv := give_null hm hg (hx.fits.ct _ him) (hx.co _ him)
      have e : (stepIn m (mthN m f) pc i.1 i.2.1 i.2.2 st).err = 0 := e
      show NullZ (stepIn m (mthN m f) pc i.1 i.2.1 i.2.2 st).after
      have e4 : ¬ (badStep 4).err = 0 := by unfold badStep; decide
      unfold stepIn at e ⊢
      split at e
      · exact absurd e e4
      · rename_i h1
        rw [if_neg h1]
        split at e
        · exact absurd e e4
        · rename_i h2
          rw [if_neg h2]
          split at e
          · rename_i h3
            rw [if_pos h3]
            intro t ht
            rcases List.mem_append.mp ht with q | q
            · exact h t (List.mem_of_mem_take q)
            · unfold gives at q
              by_cases h6 : i.1 = 6 ∧ st ≠ []
              · rw [if_pos h6] at q
                have hl : st.getLast?.getD (0, 0) ∈ st := by
                  rw [List.getLast?_eq_some_getLast h6.2]
                  exact List.getLast_mem h6.2
                have ht : t = st.getLast?.getD (0, 0) := by simpa using q
                rw [ht]
                exact h _ hl
              · rw [if_neg h6] at q
                exact hgv t q
          · exact absurd e e4
  · rw [if_neg g] at e
    exact absurd e (show ¬ (1 : Int) = 0 by decide)
theorem sub_anti {sup : List Int} {s t : Int × Int} (h : subB sup s.1 s.2 t.1 t.2 = true) (g : subB sup t.1 t.2 s.1 s.2 = true) (hs : nullZ s) (ht : nullZ t) : s = t := by
  obtain ⟨s1, s2⟩ := s
  obtain ⟨t1, t2⟩ := t
  rw [sub_iff] at h g
  dsimp only at h g
  have a1 : s1 = 4 → s2 = 0 := hs
  have a2 : t1 = 4 → t2 = 0 := ht
  rcases h with ⟨h1, h2⟩ | ⟨h1, h2, h3⟩ | ⟨h1, h2, h3⟩
  · rcases g with ⟨g1, _⟩ | ⟨g1, g2, _⟩ | ⟨g1, g2, _⟩
    · rw [h1, g1, a1 h1, a2 g1]
    · omega
    · omega
  · rcases g with ⟨g1, _⟩ | ⟨_, _, g3⟩ | ⟨g1, g2, _⟩
    · omega
    · rw [h1, h2, above_anti h3 g3]
    · omega
  · rw [h2, h3]
def joinP (sup : List Int) (s t : Int × Int) : Int × Int := joinR sup s.1 s.2 t.1 t.2
theorem joinP_none {sup : List Int} {s t : Int × Int} (hs : subB sup s.1 s.2 s.1 s.2 = true) (ht : subB sup t.1 t.2 t.1 t.2 = true) (h : (joinP sup s t).1 = 0) :
    ∀ u : Int × Int, subB sup s.1 s.2 u.1 u.2 = true → subB sup t.1 t.2 u.1 u.2 = true → False := fun u => by
  rcases join_lattice (self_there hs) (self_there ht) with ⟨_, q⟩ | ⟨q, _⟩
  · exact q u.1 u.2
  · exact absurd h q
theorem joinP_some {sup : List Int} {s t : Int × Int} (hs : subB sup s.1 s.2 s.1 s.2 = true) (ht : subB sup t.1 t.2 t.1 t.2 = true) (h : ¬ (joinP sup s t).1 = 0) :
    subB sup s.1 s.2 (joinP sup s t).1 (joinP sup s t).2 = true ∧ subB sup t.1 t.2 (joinP sup s t).1 (joinP sup s t).2 = true ∧
    ∀ u : Int × Int, subB sup s.1 s.2 u.1 u.2 = true → subB sup t.1 t.2 u.1 u.2 = true → subB sup (joinP sup s t).1 (joinP sup s t).2 u.1 u.2 = true := by
  rcases join_lattice (self_there hs) (self_there ht) with ⟨q, _⟩ | ⟨_, q1, q2, q3⟩
  · exact absurd q h
  · exact ⟨q1, q2, fun u => q3 u.1 u.2⟩
theorem joinP_null {sup : List Int} {s t : Int × Int} (hs : nullZ s) (ht : nullZ t) : nullZ (joinP sup s t) := by
  unfold joinP joinR
  split
  · exact ht
  · split
    · exact hs
    · split
      · unfold nullZ
        intro e
        have h3 : ∀ (a b : List Int), (firstIn a b).1 = 4 → (firstIn a b).2 = 0 := by
          intro a b
          induction a with
          | nil => intro _; rfl
          | cons x r ih =>
            unfold firstIn
            split
            · intro e; exact absurd e (show ¬ (3 : Int) = 4 by decide)
            · exact ih
        exact h3 _ _ e
      · intro e; cases e
/-- Lists joined, one by one. -/
def joinL (sup : List Int) (ss ts : List (Int × Int)) : List (Int × Int) := (ss.zip ts).map fun p => joinP sup p.1 p.2
theorem joinL_take {sup : List Int} {ss ts : List (Int × Int)} {k : Nat} (h1 : k < ss.length) (h2 : k < ts.length) : ((ss.zip ts).take (k + 1)).map (fun p => joinP sup p.1 p.2) = ((ss.zip ts).take k).map (fun p => joinP sup p.1 p.2) ++ [joinP sup ss[k] ts[k]] := by
  have hz : k < (ss.zip ts).length := by rw [List.length_zip]; omega
  rw [List.take_add_one, List.getElem?_eq_getElem hz, List.map_append, List.getElem_zip]
  rfl
theorem come_noneP {sup : List Int} {s : Shp} {st : List (Int × Int)} {i : Nat} (h : s.seen = true) (h1 : i < s.stack.length) (h2 : i < st.length) (hs : FitsAll sup s.stack s.stack) (ht : FitsAll sup st st) (hz : (joinP sup s.stack[i] st[i]).1 = 0) : ComeBad sup s st :=
  ⟨h, fun U g1 g2 => joinP_none (hs.2 i h1 h1) (ht.2 i h2 h2) hz U[i]! (by
    have hU : i < U.length := by rw [← g1.1]; exact h1
    rw [getElem!_pos U i hU]
    exact g1.2 i h1 hU) (by
    have hU : i < U.length := by rw [← g1.1]; exact h1
    rw [getElem!_pos U i hU]
    exact g2.2 i h2 hU)⟩
theorem come_join {sup : List Int} {s : Shp} {st : List (Int × Int)} (h : s.seen = true) (hl : s.stack.length = st.length) (hs : FitsAll sup s.stack s.stack) (ht : FitsAll sup st st) (ns : NullZ s.stack) (nt : NullZ st)
    (hz : ∀ t ∈ joinL sup s.stack st, ¬ t.1 = 0) : (∀ gr : Bool, (gr = false → joinL sup s.stack st = s.stack) → (gr = true → ¬ joinL sup s.stack st = s.stack) → ComeOk sup s st (joinL sup s.stack st) gr) ∧ NullZ (joinL sup s.stack st) := by
  have hlen : (joinL sup s.stack st).length = s.stack.length := by unfold joinL; rw [List.length_map, List.length_zip]; omega
  have hat : ∀ (i : Nat) (h1 : i < s.stack.length) (h2 : i < st.length) (h3 : i < (joinL sup s.stack st).length), (joinL sup s.stack st)[i] = joinP sup s.stack[i] st[i] := fun i h1 h2 h3 => by
    have e : (joinL sup s.stack st)[i]? = some (joinP sup s.stack[i] st[i]) := by
      unfold joinL
      rw [List.getElem?_map, List.getElem?_eq_getElem (by rw [List.length_zip]; omega), List.getElem_zip]
      rfl
    rw [List.getElem?_eq_getElem h3] at e
    exact Option.some.inj e
  have hz' : ∀ (i : Nat) (h1 : i < s.stack.length) (h2 : i < st.length), ¬ (joinP sup s.stack[i] st[i]).1 = 0 := fun i h1 h2 => by
    rw [← hat i h1 h2 (by omega)]
    exact hz _ (List.getElem_mem _)
  have hnull : NullZ (joinL sup s.stack st) := fun t ht' => by
    obtain ⟨i, hi, rfl⟩ := List.getElem_of_mem ht'
    rw [hat i (by omega) (by omega) hi]
    exact joinP_null (ns _ (List.getElem_mem _)) (nt _ (List.getElem_mem _))
  have hold : FitsAll sup s.stack (joinL sup s.stack st) := ⟨hlen.symm, fun i h1 h2 => by
    rw [hat i h1 (by omega) h2]
    exact (joinP_some (hs.2 i h1 h1) (ht.2 i (by omega) (by omega)) (hz' i h1 (by omega))).1⟩
  refine ⟨fun gr g0 g1 => ⟨⟨by rw [hlen, hl], fun i h1 h2 => ?_⟩, fun _ => hold, fun U a1 a2 => ⟨by rw [hlen]; exact (a1 h).1, fun i h1 h2 => ?_⟩, fun e => ⟨h, g0 e⟩, fun e _ hf => g1 e ?_⟩, hnull⟩
  · have h0 : i < s.stack.length := by omega
    rw [hat i h0 h1 h2]
    exact (joinP_some (hs.2 i h0 h0) (ht.2 i h1 h1) (hz' i h0 h1)).2.1
  · have h0 : i < s.stack.length := by omega
    have h3 : i < st.length := by omega
    rw [hat i h0 h3 h1]
    exact (joinP_some (hs.2 i h0 h0) (ht.2 i h3 h3) (hz' i h0 h3)).2.2 _ ((a1 h).2 i h0 h2) (a2.2 i h3 h2)
  · refine List.ext_getElem hlen fun i h1 h2 => ?_
    exact sub_anti (hf.2 i h1 h2) (hold.2 i h2 h1) (hnull _ (List.getElem_mem _)) (ns _ (List.getElem_mem _))
/-- What a right answer says of where a step goes. -/
def RightOn (m : Img) (f : Int) (L : List (Int × Int)) (NL : List Int) : Prop := ∀ R, rightS m f R = true → ∀ n ∈ NL, (shpN R n).seen = true ∧ FitsAll (supsOf m.classes) L (shpN R n).stack
theorem LowT.putR {m : Img} {f : Int} {S : List Shp} (h : LowT m f S) {q : Nat} {L J : List (Int × Int)} {NL : List Int} {gr : Bool} (hq : q < S.length) (hr : RightOn m f L NL) (hn : (q : Int) ∈ NL)
    (hc : ComeOk (supsOf m.classes) (shpN S q) L J gr) (h8 : L.length ≤ 8) : LowT m f (S.set q ⟨true, J⟩) := by
  have hset : ∀ i : Nat, shpN (S.set q ⟨true, J⟩) (i : Int) = if i = q then ⟨true, J⟩ else shpN S (i : Int) := fun i => shpN_set hq
  have hJ : FitsAll (supsOf m.classes) J J := hc.least J hc.old hc.up
  refine ⟨by rw [List.length_set]; exact h.len, ?_, fun s hs' => ?_, fun s hs' => ?_, fun R hR i hi hsi => ?_⟩
  · have h0 := hset 0
    by_cases e : 0 = q
    · rw [if_pos e] at h0
      have hz := hc.old (by rw [← e]; exact h.first.1)
      rw [← e] at hz
      have hl := hz.1
      have hf : (shpN S ((0 : Nat) : Int)).stack = [] := h.first.2
      rw [hf] at hl
      have hJ0 : J = [] := List.eq_nil_of_length_eq_zero hl.symm
      have e2 : shpN (S.set q ⟨true, J⟩) 0 = ⟨true, J⟩ := h0
      rw [e2]
      exact ⟨rfl, hJ0⟩
    · rw [if_neg e] at h0
      have e2 : shpN (S.set q ⟨true, J⟩) 0 = shpN S 0 := h0
      rw [e2]
      exact h.first
  · rcases List.mem_or_eq_of_mem_set hs' with g | g
    · exact h.self s g
    · rw [g]; exact hJ
  · rcases List.mem_or_eq_of_mem_set hs' with g | g
    · exact h.small s g
    · rw [g]
      show J.length ≤ 8
      rw [← hc.up.1]
      exact h8
  · rw [List.length_set] at hi
    rw [hset] at hsi ⊢
    by_cases e : i = q
    · rw [if_pos e]
      subst e
      obtain ⟨a1, a2⟩ := hr R hR _ hn
      exact ⟨a1, hc.least _ (fun g => (h.low R hR i hi g).2) a2⟩
    · rw [if_neg e] at hsi ⊢
      exact h.low R hR i hi hsi
theorem LowT.noneR {m : Img} {f : Int} {S : List Shp} (h : LowT m f S) {q : Nat} {L : List (Int × Int)} {NL : List Int} (hq : q < S.length) (hr : RightOn m f L NL) (hn : (q : Int) ∈ NL)
    (hb : ComeBad (supsOf m.classes) (shpN S q) L) : ∀ R, rightS m f R = false := fun R => by
  rw [Bool.eq_false_iff]
  intro hR
  exact hb.2 _ (h.low R hR q hq hb.1).2 (hr R hR _ hn).2
/-- What holds of types while they are looked for: also that whatever is right says no less. -/
structure GrowL (m : Img) (f : Int) (S : List Shp) : Prop where
  grow : GrowS m f S
  low : LowT m f S
  nul : ∀ s ∈ S, NullZ s.stack
  lens : ∀ k, (∃ t ∈ S, t.seen = true ∧ t.stack.length = k + 1) → ∃ t ∈ S, t.seen = true ∧ t.stack.length = k
/-- How many rounds there may be. -/
def roundsOf (m : Img) (n : Nat) : Nat := rankA (supsOf m.classes).length (⟨true, []⟩ :: List.replicate n (⟨false, []⟩ : Shp))
theorem one_ite {c : Prop} [Decidable c] {A B : List (Int × Int)} (hA : A.length ≤ 1) (hB : B.length ≤ 1) : (if c then A else B).length ≤ 1 := by
  by_cases g : c
  · rw [if_pos g]; exact hA
  · rw [if_neg g]; exact hB
theorem givesOf_one (x : Mth) : (givesOf x).length ≤ 1 := by
  unfold givesOf
  split
  · exact Nat.zero_le _
  · exact Nat.le_refl _
theorem giveOf_one (m : Img) (x : Mth) (op a b : Int) : (giveOf m x op a b).length ≤ 1 := by
  unfold giveOf
  repeat' apply one_ite
  all_goals first | exact givesOf_one _ | exact Nat.zero_le _ | exact Nat.le_refl _
/-- What is given is at most one more than what is taken. -/
theorem gives_one (m : Img) (x : Mth) (op a b : Int) (st : List (Int × Int)) : (gives m x op a b st).length ≤ (takes m x op a b st).length + 1 := by
  unfold gives takes
  by_cases h : op = 6 ∧ st ≠ []
  · rw [if_pos h, if_pos h]; exact Nat.le_refl _
  · rw [if_neg h, if_neg h]
    have := giveOf_one m x op a b
    omega
/-- There are operands of that many. -/
def HasLen (S : List Shp) (k : Nat) : Prop := ∃ t ∈ S, t.seen = true ∧ t.stack.length = k
def Lens (S : List Shp) : Prop := ∀ k, HasLen S (k + 1) → HasLen S k
theorem Lens.down {S : List Shp} (h : Lens S) {k : Nat} (hk : HasLen S k) : ∀ j, j ≤ k → HasLen S j := by
  induction k with
  | zero => intro j hj; have : j = 0 := by omega
            subst this; exact hk
  | succ k ih =>
    intro j hj
    rcases Nat.eq_or_lt_of_le hj with e | q
    · subst e; exact hk
    · exact ih (h k hk) j (by omega)
theorem HasLen.set {S : List Shp} {q k : Nat} {x : Shp} (hq : q < S.length) (hx : x.seen = true) (he : S[q].seen = true → x.stack.length = S[q].stack.length) (h : HasLen S k) : HasLen (S.set q x) k := by
  obtain ⟨t, ht, hs, hl⟩ := h
  obtain ⟨i, hi, e⟩ := List.getElem_of_mem ht
  by_cases h1 : i = q
  · subst h1
    exact ⟨x, List.mem_iff_getElem.mpr ⟨i, by rw [List.length_set]; exact hi, by rw [List.getElem_set_self]⟩, hx, by rw [he (by rw [e]; exact hs), e]; exact hl⟩
  · exact ⟨t, List.mem_iff_getElem.mpr ⟨i, by rw [List.length_set]; exact hi, by rw [List.getElem_set_ne (fun z => h1 z.symm)]; exact e⟩, hs, hl⟩
theorem Lens.set {S : List Shp} {q j : Nat} {x : Shp} (h : Lens S) (hq : q < S.length) (hx : x.seen = true) (he : S[q].seen = true → x.stack.length = S[q].stack.length) (hn : S[q].seen = false → HasLen S j ∧ x.stack.length ≤ j + 1) : Lens (S.set q x) := fun k hk => by
  refine HasLen.set hq hx he ?_
  obtain ⟨t, ht, hs, hl⟩ := hk
  rcases List.mem_or_eq_of_mem_set ht with g | g
  · exact h k ⟨t, g, hs, hl⟩
  · subst g
    cases hsq : S[q].seen with
    | true => exact h k ⟨S[q], List.getElem_mem hq, hsq, by rw [← he hsq]; exact hl⟩
    | false =>
      obtain ⟨h1, h2⟩ := hn hsq
      exact h.down h1 k (by omega)
theorem rankA_erase {n : Nat} {x : Shp} : ∀ {S : List Shp}, x ∈ S → rankA n S = rankS n x + rankA n (S.erase x)
  | [], h => by cases h
  | s :: S, h => by
    by_cases e : s = x
    · subst e
      rw [List.erase_cons_head]
      rfl
    · rw [List.erase_cons_tail (by simpa using e)]
      have h' : x ∈ S := by
        rcases List.mem_cons.mp h with g | g
        · exact absurd g.symm e
        · exact g
      have := rankA_erase (n := n) h'
      show rankS n s + rankA n S = rankS n x + (rankS n s + rankA n (S.erase x))
      omega
theorem rankA_all {n c : Nat} : ∀ {S : List Shp}, (∀ s ∈ S, c ≤ rankS n s) → S.length * c ≤ rankA n S
  | [], _ => by simp
  | s :: S, h => by
    have h1 := h s (List.mem_cons_self ..)
    have h2 := rankA_all (n := n) (c := c) (S := S) (fun t ht => h t (List.mem_cons_of_mem _ ht))
    show (S.length + 1) * c ≤ rankS n s + rankA n S
    rw [Nat.succ_mul]
    omega
theorem rankS_low {n : Nat} {s : Shp} : max n 1 * (8 - s.stack.length) ≤ rankS n s := by
  unfold rankS
  split
  · omega
  · have : max n 1 * (8 - s.stack.length) ≤ max n 1 * 8 := Nat.mul_le_mul_left _ (by omega)
    omega
theorem rankA_rep {n k : Nat} : rankA n (List.replicate k (⟨false, []⟩ : Shp)) = k * (8 * max n 1 + 1) := by
  induction k with
  | zero => simp [rankA]
  | succ k ih =>
    have e : rankS n ⟨false, []⟩ = 8 * max n 1 + 1 := rfl
    show rankS n ⟨false, []⟩ + rankA n (List.replicate k _) = _
    rw [ih, e, Nat.add_comm]
    exact (Nat.succ_mul k _).symm
/-- So many rounds there are never. -/
theorem rounds_few {m : Img} {S : List Shp} {n : Nat} (hS : S.length = n + 1) (hn : n ≤ 63) (hc : m.classes.length ≤ 8) (h : Lens S) (hs : ∀ s ∈ S, s.stack.length ≤ 8) : roundsOf m n < rankA (supsOf m.classes).length S + 4000 := by
  have hr : roundsOf m n = 8 * max (supsOf m.classes).length 1 + n * (8 * max (supsOf m.classes).length 1 + 1) := by
    unfold roundsOf
    show rankS _ ⟨true, []⟩ + rankA _ _ = _
    rw [rankA_rep]
    unfold rankS
    rw [if_pos rfl]
    show (0 + max _ 1 * (8 - 0)) + _ = _
    omega
  rw [supsOf_len] at hr ⊢
  obtain ⟨K, hK⟩ : ∃ K, max m.classes.length 1 = K := ⟨_, rfl⟩
  have hK8 : K ≤ 8 := by omega
  rw [hK] at hr
  rw [hr]
  rcases Nat.lt_or_ge K 8 with k7 | k8
  · have h1 : n * (8 * K + 1) ≤ 63 * (8 * 7 + 1) := Nat.mul_le_mul hn (by omega)
    omega
  have hK' : K = 8 := by omega
  subst hK'
  rcases Nat.lt_or_ge n 61 with n0 | n0
  · omega
  by_cases h8 : HasLen S 8
  · obtain ⟨t0, m0, s0, l0⟩ := h.down h8 0 (by omega)
    obtain ⟨t1, m1, s1, l1⟩ := h.down h8 1 (by omega)
    obtain ⟨t2, m2, s2, l2⟩ := h.down h8 2 (by omega)
    have n01 : t1 ≠ t0 := fun e => by rw [e] at l1; omega
    have n02 : t2 ≠ t0 := fun e => by rw [e] at l2; omega
    have n12 : t2 ≠ t1 := fun e => by rw [e] at l2; omega
    have e0 := rankA_erase (n := m.classes.length) m0
    have e1 := rankA_erase (n := m.classes.length) ((List.mem_erase_of_ne n01).mpr m1)
    have e2 := rankA_erase (n := m.classes.length) ((List.mem_erase_of_ne n12).mpr ((List.mem_erase_of_ne n02).mpr m2))
    have r0 := rankS_low (n := m.classes.length) (s := t0)
    have r1 := rankS_low (n := m.classes.length) (s := t1)
    have r2 := rankS_low (n := m.classes.length) (s := t2)
    rw [hK, l0] at r0
    rw [hK, l1] at r1
    rw [hK, l2] at r2
    omega
  · have hlow : ∀ s ∈ S, 8 ≤ rankS m.classes.length s := fun s hm => by
      have h1 := rankS_low (n := m.classes.length) (s := s)
      cases hse : s.seen with
      | false =>
        unfold rankS
        rw [hse, if_neg (by decide)]
        omega
      | true =>
        have h7 : s.stack.length ≠ 8 := fun e => h8 ⟨s, hm, hse, e⟩
        have := hs s hm
        rw [hK] at h1
        omega
    have := rankA_all hlow
    omega
theorem step_grow {m : Img} {f pc : Int} {st : List (Int × Int)} (h : (stepOf m f pc st).err = 0) : (stepOf m f pc st).after.length ≤ st.length + 1 := by
  unfold stepOf at h ⊢
  split
  · rename_i h1
    rw [if_pos h1] at h
    split
    · rename_i i hi
      rw [hi] at h
      dsimp only at h
      unfold stepIn at h ⊢
      split
      · rename_i h2; rw [if_pos h2] at h; cases h
      · rename_i h2
        rw [if_neg h2] at h
        split
        · rename_i h3; rw [if_pos h3] at h; cases h
        · rename_i h3
          rw [if_neg h3] at h
          split
          · dsimp only
            rw [List.length_append, List.length_take]
            have h4 := gives_one m (mthN m f) i.1 i.2.1 i.2.2 st
            omega
          · rename_i h4; rw [if_neg h4] at h; cases h
    · rename_i hi; rw [hi] at h; cases h
  · rename_i h1; rw [if_neg h1] at h; cases h
theorem HasLen.put {S : List Shp} {q k : Nat} {sup : List Int} {L J : List (Int × Int)} {gr : Bool} (h : HasLen S k) (hq : q < S.length) (hc : ComeOk sup (shpN S (q : Int)) L J gr) : HasLen (S.set q ⟨true, J⟩) k := by
  have e : shpN S (q : Int) = S[q] := shpN_at hq
  rw [e] at hc
  exact HasLen.set hq rfl (fun hs => (hc.old hs).1.symm) h
theorem GrowL.start {m : Img} {f : Int} {n : Nat} (h : GrowS m f (⟨true, []⟩ :: List.replicate n (⟨false, []⟩ : Shp))) (hn : (mthN m f).code.length = n + 1) : GrowL m f (⟨true, []⟩ :: List.replicate n (⟨false, []⟩ : Shp)) :=
  ⟨h, low_start hn, fun s hs => by
    rcases List.mem_cons.mp hs with rfl | hs
    · exact fun t ht => absurd ht (by simp)
    · rw [(List.mem_replicate.mp hs).2]; exact fun t ht => absurd ht (by simp), fun k ⟨t, ht, hs, hl⟩ => by
    rcases List.mem_cons.mp ht with rfl | ht
    · simp at hl
    · rw [(List.mem_replicate.mp ht).2] at hs; cases hs⟩
theorem GrowL.put {m : Img} {f : Int} {S : List Shp} (h : GrowL m f S) {p q : Nat} {L J : List (Int × Int)} {NL : List Int} {gr : Bool} (hq : q < S.length) (hp : p < S.length) (hs : (shpN S p).seen = true) (hn : (q : Int) ∈ nextAt m f p) (hr : RightOn m f L NL) (hm : (q : Int) ∈ NL)
    (hc : ComeOk (supsOf m.classes) (shpN S q) L J gr) (h8 : L.length ≤ 8) (hz : NullZ J) {j : Nat} (hj : HasLen S j) (hlj : L.length ≤ j + 1) : GrowL m f (S.set q ⟨true, J⟩) :=
  ⟨h.grow.put hq hp hs hn (by rw [← hc.up.1]; exact h8), h.low.putR hq hr hm hc h8, fun s hs' => by
    rcases List.mem_or_eq_of_mem_set hs' with g | g
    · exact h.nul s g
    · rw [g]; exact hz, by
    have e : shpN S (q : Int) = S[q] := shpN_at hq
    rw [e] at hc
    exact Lens.set (S := S) h.lens hq rfl (fun hs => (hc.old hs).1.symm) (fun _ => ⟨hj, by show J.length ≤ j + 1; rw [← hc.up.1]; exact hlj⟩)⟩
/-- A step's operands, from what is known. -/
theorem GrowL.step {m : Img} {f : Int} {S : List Shp} (hm : SaneI m) (h : GrowL m f S) {pc : Nat} {L : List (Int × Int)} {NL : List Int} (hp : pc < S.length) (hs : (shpN S pc).seen = true) (e : stepOf m f pc (shpN S pc).stack = ⟨L, NL, 0⟩) : RightOn m f L NL ∧ FitsAll (supsOf m.classes) L L ∧ NullZ L := by
  have hself : FitsAll (supsOf m.classes) (shpN S pc).stack (shpN S pc).stack := h.low.self _ (shpN_mem hp)
  have h1 := stepOf_fits (f := f) (pc := (pc : Int)) hm hself (by rw [e])
  have h2 := step_null (f := f) (pc := (pc : Int)) hm (h.nul _ (shpN_mem hp)) (by rw [e])
  rw [e] at h1 h2
  exact ⟨fun R hR n hn => by
    have := (h.low.right hm hR hp hs).2 n (by rw [e]; exact hn)
    rw [e] at this
    exact this, h1.2.2, h2⟩
end Go.Proofs.Ytefgepppcmhphaa
