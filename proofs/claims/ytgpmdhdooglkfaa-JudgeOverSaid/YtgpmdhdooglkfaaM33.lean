/-
  Types that grow from below: what is right is above them. Plain definitions and lemmas; no conditions.
  What the program's own kind.IsRef comes to.
  What the program's own kind.Sub comes to.
  What the program's own kind.Sub and Join come to.
-/
import Derived.Test.YtgpmdhdooglkfaaM32
import Derived.Test.YtgpmdhdooglkfaaM01
namespace Go.Proofs.Ytgpmdhdooglkfaa
set_option maxRecDepth 100000
set_option linter.unusedVariables false
set_option linter.unusedSimpArgs false
open Go.ChangeShapes Go.WideShapes Go.ChangeAt Go.RowKit
set_option linter.unusedVariables false

theorem onB_iff {m : Img} {S : List Shp} {af : List (Int × Int)} {n : Int} : onB m S af n = true ↔ (shpN S n).seen = true ∧ FitsAll (supsOf m.classes) af (shpN S n).stack := by
  unfold onB
  rw [Bool.and_eq_true, underB_iff]
theorem place_iff {m : Img} {f pc : Int} {S : List Shp} : placeB m f S pc = true ↔ ((shpN S pc).seen = true → (stepOf m f pc (shpN S pc).stack).err = 0 ∧ ∀ n ∈ (stepOf m f pc (shpN S pc).stack).next, (shpN S n).seen = true ∧ FitsAll (supsOf m.classes) (stepOf m f pc (shpN S pc).stack).after (shpN S n).stack) := by
  unfold placeB goB
  cases h : (shpN S pc).seen
  · simp
  · rw [Bool.not_true, Bool.false_or, Bool.and_eq_true, decide_eq_true_eq, List.all_eq_true]
    constructor
    · intro g _
      exact ⟨g.1, fun n hn => onB_iff.mp (g.2 n hn)⟩
    · intro g
      obtain ⟨g1, g2⟩ := g rfl
      exact ⟨g1, fun n hn => onB_iff.mpr (g2 n hn)⟩
theorem rightS_iff {m : Img} {f : Int} {R : List Shp} : rightS m f R = true ↔ (0 < R.length ∧ R.length = (mthN m f).code.length ∧ (shpN R 0).seen = true ∧ (shpN R 0).stack = []) ∧ ∀ pc : Nat, pc < R.length → placeB m f R (pc : Int) = true := by
  unfold rightS firstB
  rw [Bool.and_eq_true, range_all]
  simp only [Bool.and_eq_true, decide_eq_true_eq, List.length_eq_zero_iff]
/-- Types that are no more than all that is right. -/
structure LowT (m : Img) (f : Int) (S : List Shp) : Prop where
  len : S.length = (mthN m f).code.length
  first : (shpN S 0).seen = true ∧ (shpN S 0).stack = []
  self : ∀ s ∈ S, FitsAll (supsOf m.classes) s.stack s.stack
  small : ∀ s ∈ S, s.stack.length ≤ 8
  low : ∀ R, rightS m f R = true → ∀ i : Nat, i < S.length → (shpN S i).seen = true → (shpN R i).seen = true ∧ FitsAll (supsOf m.classes) (shpN S i).stack (shpN R i).stack
theorem shpN_mem {S : List Shp} {i : Nat} (hi : i < S.length) : shpN S (i : Int) ∈ S := by
  rw [shpN_at hi]
  exact List.getElem_mem hi
theorem LowT.right {m : Img} {f : Int} {S R : List Shp} (hm : SaneI m) (h : LowT m f S) (hR : rightS m f R = true) {pc : Nat} (hp : pc < S.length) (hs : (shpN S pc).seen = true) :
    (stepOf m f pc (shpN S pc).stack).err = 0 ∧ ∀ n ∈ (stepOf m f pc (shpN S pc).stack).next, (shpN R n).seen = true ∧ FitsAll (supsOf m.classes) (stepOf m f pc (shpN S pc).stack).after (shpN R n).stack := by
  obtain ⟨h1, h2⟩ := h.low R hR pc hp hs
  obtain ⟨⟨_, hl, _⟩, hall⟩ := rightS_iff.mp hR
  have hpR : pc < R.length := by rw [hl, ← h.len]; exact hp
  obtain ⟨g1, g2⟩ := place_iff.mp (hall pc hpR) h1
  obtain ⟨e1, e2, e3⟩ := stepOf_fits hm h2 g1
  exact ⟨e1, fun n hn => by
    rw [e2] at hn
    obtain ⟨a1, a2⟩ := g2 n hn
    exact ⟨a1, e3.trans' a2⟩⟩
theorem LowT.none_err {m : Img} {f : Int} {S : List Shp} (hm : SaneI m) (h : LowT m f S) {pc : Nat} (hp : pc < S.length) (hs : (shpN S pc).seen = true) (he : ¬ (stepOf m f pc (shpN S pc).stack).err = 0) : ∀ R, rightS m f R = false := fun R => by
  rw [Bool.eq_false_iff]
  intro hR
  exact he (h.right hm hR hp hs).1
theorem LowT.none_come {m : Img} {f : Int} {S : List Shp} (hm : SaneI m) (h : LowT m f S) {pc q : Nat} (hp : pc < S.length) (hq : q < S.length) (hs : (shpN S pc).seen = true) (hn : (q : Int) ∈ (stepOf m f pc (shpN S pc).stack).next)
    (hb : ComeBad (supsOf m.classes) (shpN S q) (stepOf m f pc (shpN S pc).stack).after) : ∀ R, rightS m f R = false := fun R => by
  rw [Bool.eq_false_iff]
  intro hR
  have h2 := (h.low R hR q hq hb.1).2
  exact hb.2 _ h2 ((h.right hm hR hp hs).2 _ hn).2
theorem LowT.put {m : Img} {f : Int} {S : List Shp} (hm : SaneI m) (h : LowT m f S) {pc q : Nat} {J : List (Int × Int)} {gr : Bool} (hp : pc < S.length) (hq : q < S.length) (hs : (shpN S pc).seen = true) (hn : (q : Int) ∈ (stepOf m f pc (shpN S pc).stack).next)
    (hc : ComeOk (supsOf m.classes) (shpN S q) (stepOf m f pc (shpN S pc).stack).after J gr) (h8 : (stepOf m f pc (shpN S pc).stack).after.length ≤ 8) : LowT m f (S.set q ⟨true, J⟩) := by
  have hset : ∀ i : Nat, shpN (S.set q ⟨true, J⟩) (i : Int) = if i = q then ⟨true, J⟩ else shpN S (i : Int) := fun i => shpN_set hq
  have hJ : FitsAll (supsOf m.classes) J J := hc.least J hc.old hc.up
  refine ⟨by rw [List.length_set]; exact h.len, ?_, fun s hs' => ?_, fun s hs' => ?_, fun R hR i hi hsi => ?_⟩
  · have h0 := hset 0
    by_cases e : 0 = q
    · rw [if_pos e] at h0
      have hz := hc.old (by rw [← e]; exact h.first.1)
      rw [← e] at hz
      have hl := hz.1
      have hf : (shpN S ((0 : Nat) : Int)).stack = [] := h.first.2
      rw [hf] at hl
      have hJ0 : J = [] := List.eq_nil_of_length_eq_zero hl.symm
      have e2 : shpN (S.set q ⟨true, J⟩) 0 = ⟨true, J⟩ := h0
      rw [e2]
      exact ⟨rfl, hJ0⟩
    · rw [if_neg e] at h0
      have e2 : shpN (S.set q ⟨true, J⟩) 0 = shpN S 0 := h0
      rw [e2]
      exact h.first
  · rcases List.mem_or_eq_of_mem_set hs' with g | g
    · exact h.self s g
    · rw [g]; exact hJ
  · rcases List.mem_or_eq_of_mem_set hs' with g | g
    · exact h.small s g
    · rw [g]
      show J.length ≤ 8
      rw [← hc.up.1]
      exact h8
  · rw [List.length_set] at hi
    rw [hset] at hsi ⊢
    by_cases e : i = q
    · rw [if_pos e]
      subst e
      obtain ⟨a1, a2⟩ := (h.right hm hR hp hs).2 _ hn
      exact ⟨a1, hc.least _ (fun g => (h.low R hR i hi g).2) a2⟩
    · rw [if_neg e] at hsi ⊢
      exact h.low R hR i hi hsi
theorem place_put {m : Img} {f : Int} {S : List Shp} {p q : Nat} {J st : List (Int × Int)} {gr : Bool} (hq : q < S.length) (hpq : p ≠ q) (h : placeB m f S (p : Int) = true) (hN : ∀ n ∈ (stepOf m f p (shpN S p).stack).next, 0 ≤ n)
    (hc : ComeOk (supsOf m.classes) (shpN S q) st J gr) : placeB m f (S.set q ⟨true, J⟩) (p : Int) = true := by
  have hset : ∀ i : Nat, shpN (S.set q ⟨true, J⟩) (i : Int) = if i = q then ⟨true, J⟩ else shpN S (i : Int) := fun i => shpN_set hq
  rw [place_iff] at h ⊢
  rw [hset, if_neg hpq]
  intro hs
  obtain ⟨h1, h2⟩ := h hs
  refine ⟨h1, fun n hn => ?_⟩
  obtain ⟨g1, g2⟩ := h2 n hn
  obtain ⟨k, rfl⟩ := Int.eq_ofNat_of_zero_le (hN n hn)
  rw [hset]
  by_cases e : k = q
  · rw [if_pos e]
    subst e
    exact ⟨rfl, g2.trans' (hc.old g1)⟩
  · rw [if_neg e]
    exact ⟨g1, g2⟩
theorem LowT.done {m : Img} {f : Int} {S : List Shp} (h : LowT m f S) (h0 : 0 < S.length) (hd : ∀ pc : Nat, pc < S.length → placeB m f S (pc : Int) = true) : rightS m f S = true := rightS_iff.mpr ⟨⟨h0, h.len, h.first⟩, hd⟩
theorem come_same {sup : List Int} {S : List Shp} {q : Nat} {st J : List (Int × Int)} (hq : q < S.length) (hc : ComeOk sup (shpN S q) st J false) : S.set q ⟨true, J⟩ = S := by
  obtain ⟨h1, h2⟩ := hc.same rfl
  have e : (⟨true, J⟩ : Shp) = S[q] := by
    rw [← shpN_at hq]
    have : shpN S (q : Int) = ⟨(shpN S (q : Int)).seen, (shpN S (q : Int)).stack⟩ := rfl
    rw [this, h1, h2]
  rw [e]
  exact List.set_getElem_self hq
theorem come_less {m : Img} {S : List Shp} {q : Nat} {st J : List (Int × Int)} (hq : q < S.length) (hc : ComeOk (supsOf m.classes) (shpN S q) st J true) (h8 : st.length ≤ 8) : rankA (supsOf m.classes).length (S.set q ⟨true, J⟩) < rankA (supsOf m.classes).length S :=
  rankA_set hq (by
    rw [← shpN_at hq]
    exact come_rank hc (by rw [← hc.up.1]; exact h8))
/-- Does one say no more than another? -/
def overS (sup : List Int) (S R : List Shp) : Bool := decide (S.length = R.length) && (List.range S.length).all fun i => !(shpN S (i : Int)).seen || ((shpN R (i : Int)).seen && underB sup (shpN S (i : Int)).stack (shpN R (i : Int)).stack)
theorem overS_iff {sup : List Int} {S R : List Shp} : overS sup S R = true ↔ S.length = R.length ∧ ∀ i : Nat, i < S.length → (shpN S i).seen = true → (shpN R i).seen = true ∧ FitsAll sup (shpN S i).stack (shpN R i).stack := by
  unfold overS
  rw [Bool.and_eq_true, decide_eq_true_eq, range_all]
  constructor
  · rintro ⟨h1, h2⟩
    refine ⟨h1, fun i hi hs => ?_⟩
    have := h2 i hi
    rw [hs, Bool.not_true, Bool.false_or, Bool.and_eq_true, underB_iff] at this
    exact this
  · rintro ⟨h1, h2⟩
    refine ⟨h1, fun i hi => ?_⟩
    cases hs : (shpN S (i : Int)).seen
    · rfl
    · obtain ⟨g1, g2⟩ := h2 i hi hs
      rw [g1, underB_iff.mpr g2]
      rfl
theorem overS_trans {sup : List Int} {S R Q : List Shp} (h : overS sup S R = true) (g : overS sup R Q = true) : overS sup S Q = true := by
  rw [overS_iff] at h g ⊢
  refine ⟨h.1.trans g.1, fun i hi hs => ?_⟩
  obtain ⟨a1, a2⟩ := h.2 i hi hs
  obtain ⟨b1, b2⟩ := g.2 i (by rw [← h.1]; exact hi) a1
  exact ⟨b1, a2.trans' b2⟩
theorem LowT.over {m : Img} {f : Int} {S R : List Shp} (h : LowT m f S) (hR : rightS m f R = true) : overS (supsOf m.classes) S R = true := by
  rw [overS_iff]
  refine ⟨?_, fun i hi hs => h.low R hR i hi hs⟩
  rw [h.len, (rightS_iff.mp hR).1.2.1]
/-- All methods' types. -/
def overB (sup : List Int) (a b : List (List Shp)) : Bool := decide (a.length = b.length) && (List.range a.length).all fun f => overS sup (a[f]?.getD []) (b[f]?.getD [])
theorem overB_iff {sup : List Int} {a b : List (List Shp)} : overB sup a b = true ↔ a.length = b.length ∧ ∀ f, f < a.length → overS sup (a[f]?.getD []) (b[f]?.getD []) = true := by
  unfold overB
  rw [Bool.and_eq_true, decide_eq_true_eq, range_all]
theorem overB_trans {sup : List Int} {a b c : List (List Shp)} (h : overB sup a b = true) (g : overB sup b c = true) : overB sup a c = true := by
  rw [overB_iff] at h g ⊢
  exact ⟨h.1.trans g.1, fun f hf => overS_trans (h.2 f hf) (g.2 f (by rw [← h.1]; exact hf))⟩
theorem rightB_iff {m : Img} {a : List (List Shp)} : rightB m a = true ↔ a.length = m.methods.length ∧ ∀ f, f < a.length → rightS m (f : Int) (a[f]?.getD []) = true := by
  unfold rightB
  rw [Bool.and_eq_true, decide_eq_true_eq, range_all]
/-- Types of all methods: they are right, and whatever is right says no less. -/
structure LeastB (m : Img) (a : List (List Shp)) : Prop where
  right : rightB m a = true
  least : ∀ b, rightB m b = true → overB (supsOf m.classes) a b = true
  small : ∀ S ∈ a, ∀ s ∈ S, s.stack.length ≤ 8
theorem LeastB.self {m : Img} {a : List (List Shp)} (h : LeastB m a) : overB (supsOf m.classes) a a = true := h.least a h.right
/-- Types of a method: they are right, and whatever is right says no less. -/
structure LeastS (m : Img) (f : Int) (S : List Shp) : Prop where
  right : rightS m f S = true
  least : ∀ R, rightS m f R = true → overS (supsOf m.classes) S R = true
  small : ∀ s ∈ S, s.stack.length ≤ 8
theorem leastB_of {m : Img} {a : List (List Shp)} (hl : a.length = m.methods.length) (h : ∀ f, f < a.length → LeastS m (f : Int) (a[f]?.getD [])) : LeastB m a :=
  ⟨rightB_iff.mpr ⟨hl, fun f hf => (h f hf).right⟩, fun b hb => by
    obtain ⟨h1, h2⟩ := rightB_iff.mp hb
    exact overB_iff.mpr ⟨hl.trans h1.symm, fun f hf => (h f hf).least _ (h2 f (by omega))⟩, fun S hS => by
    obtain ⟨i, hi, rfl⟩ := List.getElem_of_mem hS
    have := (h i hi).small
    rw [List.getElem?_eq_getElem hi] at this
    exact this⟩
theorem rightB_none {m : Img} {f : Nat} (hf : f < m.methods.length) (h : ∀ R, rightS m (f : Int) R = false) : ∀ a, rightB m a = false := fun a => by
  rw [Bool.eq_false_iff]
  intro ha
  obtain ⟨h1, h2⟩ := rightB_iff.mp ha
  have := h2 f (by omega)
  rw [h] at this
  cases this
/-- At the beginning. -/
theorem low_start {m : Img} {f : Int} {n : Nat} (hn : (mthN m f).code.length = n + 1) : LowT m f (⟨true, []⟩ :: List.replicate n (⟨false, []⟩ : Shp)) := by
  refine ⟨by rw [hn]; simp, ⟨rfl, rfl⟩, fun s hs => ?_, fun s hs => ?_, fun R hR i hi hs => ?_⟩
  · rcases List.mem_cons.mp hs with rfl | hs
    · exact fits_nil _
    · rw [(List.mem_replicate.mp hs).2]; exact fits_nil _
  · rcases List.mem_cons.mp hs with rfl | hs
    · exact Nat.zero_le _
    · rw [(List.mem_replicate.mp hs).2]; exact Nat.zero_le _
  · match i, hi, hs with
    | 0, _, _ =>
      obtain ⟨⟨_, _, h1, h2⟩, _⟩ := rightS_iff.mp hR
      refine ⟨h1, ?_⟩
      have e : (shpN R ((0 : Nat) : Int)).stack = [] := h2
      rw [e]
      exact fits_nil _
    | i + 1, hi, hs =>
      rw [shpN_at hi] at hs
      have : (List.replicate n (⟨false, []⟩ : Shp))[i]'(by simpa using hi) = ⟨false, []⟩ := List.getElem_replicate ..
      have hs : ((List.replicate n (⟨false, []⟩ : Shp))[i]'(by simpa using hi)).seen = true := hs
      rw [this] at hs
      cases hs
end Go.Proofs.Ytgpmdhdooglkfaa
namespace Go.Proofs.Ytgpmdhdooglkfaa
set_option maxRecDepth 100000
set_option linter.unusedVariables false
set_option linter.unusedSimpArgs false
open Go.ChangeShapes Go.WideShapes Go.ChangeAt Go.RowKit
set_option linter.unusedVariables false

theorem kisref_any (k n : Int) (w : World) : Calls Try.prog 64 #[tyV k n] w fun e w' => e = .returned (.bool (isRefB k)) ∧ Below w.heap.size w w' := by
  by_cases h : k = 2 ∨ k = 3 ∨ k = 4
  · have E := Lib.hid (show isRefB k = true from decide_eq_true h)
    rcases h with rfl | rfl | rfl
    all_goals
      go_enter Try.func64, Try.ntmps64
      go_wp2
      go_ret
      refine ⟨?_, ?_⟩
      · rw [E.out]; rfl
      · exact (Below.refl _ _).alloc (Nat.le_refl _) _
  · have E := Lib.hid (show isRefB k = false from decide_eq_false h)
    have h2 : ¬ k = 2 := by omega
    have h3 : ¬ k = 3 := by omega
    have h4 : ¬ k = 4 := by omega
    clear h
    go_enter Try.func64, Try.ntmps64
    go_wp2
    go_ret
    refine ⟨?_, ?_⟩
    · rw [E.out]; simp [h2, h3, h4]
    · exact (Below.refl _ _).alloc (Nat.le_refl _) _

end Go.Proofs.Ytgpmdhdooglkfaa
namespace Go.Proofs.Ytgpmdhdooglkfaa
set_option maxRecDepth 100000
set_option linter.unusedVariables false
set_option linter.unusedSimpArgs false
open Go.ChangeShapes Go.WideShapes Go.ChangeAt Go.RowKit
set_option linter.unusedVariables false

theorem ksub_any (sup : List Int) (k n k' n' : Int) (A : Option Addr) (cap B : Nat) (w : World) (hl : sup.length ≤ 1048576) (hB : B ≤ w.heap.size) (h : Supers w B A sup) :
    Calls Try.prog 37 #[.slice A sup.length cap, tyV k n, tyV k' n'] w fun e w' => e = .returned (.bool (subB sup k n k' n')) ∧ Below w.heap.size w w' := by
  have hW : Below w.heap.size w ((w.alloc (.cells #[.int .i64 k, .int .i64 n] 39)).alloc (.cells #[.int .i64 k', .int .i64 n'] 39)) :=
    ((Below.refl w.heap.size w).alloc (Nat.le_refl _) _).alloc (by simp) _
  have HS := Lib.hid (h.below_to hW hB)
  have HW := Lib.hid hW
  have HB := Lib.hid hB
  clear h hW hB
  by_cases h4 : k = 4
  · subst h4
    have e : subB sup 4 n k' n' = isRefB k' := by simp [subB]
    rw [e]
    clear e
    go_enter Try.func37, Try.ntmps37
    go_wp2_with (go_at_call 64; (with_reducible refine (kisref_any _ _ _).mono ?_); rintro e w' ⟨rfl, hb⟩)
    go_ret
    exact ⟨rfl, HW.out.trans (hb.mono (by simp; omega))⟩
  · by_cases h3 : k = 3
    · subst h3
      by_cases hk : k' = 3
      · subst hk
        have e : subB sup 3 n 3 n' = inB (aboveI sup n) n' := by simp [subB]
        rw [e]
        clear e
        go_enter Try.func37, Try.ntmps37
        go_wp2_with (go_at_call 65; (with_reducible refine (kbelow_any sup n n' A cap B _ hl (by have := HB.out; simp; omega) HS.out).mono ?_); rintro e w' ⟨rfl, hb⟩)
        go_ret
        exact ⟨rfl, HW.out.trans (hb.mono (by simp; omega))⟩
      · have e : subB sup 3 n k' n' = false := by simp [subB, hk]
        rw [e]
        clear e
        go_enter Try.func37, Try.ntmps37
        go_wp2_with fail
        go_ret
        exact ⟨by first | rfl | simp [hk], HW.out⟩
    · by_cases h12 : k = 1 ∨ k = 2
      · have e : subB sup k n k' n' = decide (k = k' ∧ n = n') := by simp [subB, h3, h4, h12]
        rw [e]
        clear e
        rcases h12 with rfl | rfl
        all_goals
          go_enter Try.func37, Try.ntmps37
          go_wp2_with fail
          all_goals
            go_ret
            refine ⟨?_, ((Below.refl _ _).alloc (Nat.le_refl _) _).alloc (by simp) _⟩
            first | rfl | (simp [*]; done)
      · have e : subB sup k n k' n' = false := by simp [subB, h3, h4, h12]
        rw [e]
        have h1 : ¬ k = 1 := by omega
        have h2 : ¬ k = 2 := by omega
        clear e h12
        go_enter Try.func37, Try.ntmps37
        go_wp2_with fail
        go_ret
        exact ⟨rfl, HW.out⟩

end Go.Proofs.Ytgpmdhdooglkfaa
namespace Go.Proofs.Ytgpmdhdooglkfaa
set_option maxRecDepth 100000
set_option linter.unusedVariables false
set_option linter.unusedSimpArgs false
open Go.ChangeShapes Go.WideShapes Go.ChangeAt Go.RowKit
set_option linter.unusedVariables false

/-- The nearest class on the ways up of both: -1, if there is none. -/
def MeetIs (sup : List Int) (a b m : Int) : Prop :=
  (m = -1 ∧ ∀ x ∈ aboveI sup a, x ∉ aboveI sup b) ∨ (0 ≤ m ∧ m ∈ aboveI sup a ∧ m ∈ aboveI sup b ∧ ∀ y ∈ aboveI sup a, y ∈ aboveI sup b → y ≤ m)
/-- The ways up of two pairs of classes have the same classes in common. -/
def Common (sup : List Int) (a b c d : Int) : Prop := ∀ x, x ∈ aboveI sup a ∧ x ∈ aboveI sup b ↔ x ∈ aboveI sup c ∧ x ∈ aboveI sup d

theorem common_left {sup : List Int} {a b c d : Int} (h : Common sup a b c d) (h0 : 0 ≤ c) (h1 : c < sup.length) (hdc : d < c) : Common sup a b (supI sup c) d := fun x => by
  rw [h x, above_sup h0 h1, List.mem_cons]
  constructor
  · rintro ⟨rfl | g, g2⟩
    · have := above_range g2; omega
    · exact ⟨g, g2⟩
  · rintro ⟨g, g2⟩
    exact ⟨.inr g, g2⟩
theorem common_right {sup : List Int} {a b c d : Int} (h : Common sup a b c d) (h0 : 0 ≤ d) (h1 : d < sup.length) (hdc : c < d) : Common sup a b c (supI sup d) := fun x => by
  rw [h x, above_sup h0 h1, List.mem_cons]
  constructor
  · rintro ⟨g2, rfl | g⟩
    · have := above_range g2; omega
    · exact ⟨g2, g⟩
  · rintro ⟨g, g2⟩
    exact ⟨g, .inr g2⟩
theorem common_meet {sup : List Int} {a b c : Int} (h : Common sup a b c c) (h0 : -1 ≤ c) (h1 : c < sup.length) : MeetIs sup a b c := by
  by_cases hc : 0 ≤ c
  · have g := (h c).mpr ⟨above_self hc h1, above_self hc h1⟩
    exact .inr ⟨hc, g.1, g.2, fun y g1 g2 => (above_range ((h y).mp ⟨g1, g2⟩).1).2.1⟩
  · exact .inl ⟨by omega, fun x g1 g2 => by have := above_range ((h x).mp ⟨g1, g2⟩).1; omega⟩

theorem kmeet_any (sup : List Int) (a b : Int) (A : Option Addr) (cap B : Nat) (w : World) (hl : sup.length ≤ 1048576) (hB : B ≤ w.heap.size) (h : Supers w B A sup) :
    Calls Try.prog 86 #[.slice A sup.length cap, .int .i64 a, .int .i64 b] w fun e w' => (∃ m, e = .returned (.int .i64 m) ∧ MeetIs sup a b m) ∧ w = w' := by
  have HS := Lib.hid h
  clear h
  by_cases ha : isClsB sup a = true
  · by_cases hb : isClsB sup b = true
    · obtain ⟨a0, a1⟩ := class_true ha
      obtain ⟨b0, b1⟩ := class_true hb
      have HA := Lib.hid ha
      have HB := Lib.hid hb
      clear ha hb
      go_enter Try.func86, Try.ntmps86
      go_wp2_with (first
        | (go_at_call 87; (with_reducible refine (kisclass_any sup a A cap w hl).mono ?_); rintro e w' ⟨he, rfl⟩; rw [HA.out] at he; subst he)
        | (go_at_call 87; (with_reducible refine (kisclass_any sup b A cap w hl).mono ?_); rintro e w' ⟨he, rfl⟩; rw [HB.out] at he; subst he))
      go_loop [1, 2] (fun i j => ∃ c d : Int, i = .int .i64 c ∧ j = .int .i64 d ∧ -1 ≤ c ∧ c < sup.length ∧ -1 ≤ d ∧ d < sup.length ∧ Common sup a b c d) (fun i j => (intOf i + 1).toNat + (intOf j + 1).toNat)
      case atStart => exact ⟨a, b, rfl, rfl, by omega, a1, by omega, b1, fun _ => Iff.rfl⟩
      case round =>
        obtain ⟨c, d, rfl, rfl, c0, c1, d0, d1, hn⟩ := hrel
        have HN := Lib.hid hn
        clear hn
        have hs := supI_bounds sup c
        have ht := supI_bounds sup d
        by_cases hcd : c = d
        · subst hcd
          have R := Lib.hid (common_meet HN.out c0 c1)
          clear HN hs ht
          go_wp2_with fail
          go_ret
          exact ⟨⟨_, rfl, R.out⟩, rfl⟩
        · by_cases hdc : d < c
          · have hc0 : 0 ≤ c := by omega
            have R := Lib.hid (common_left HN.out hc0 c1 hdc)
            have h2 := hs.2 hc0
            clear HN ht
            go_wp2_with (go_at_call 88; (with_reducible refine (kabove_any sup c hc0 c1 A cap B w hl HS.out).mono ?_); rintro e w' ⟨rfl, rfl⟩)
            go_round
            case rel => exact ⟨supI sup c, d, rfl, rfl, hs.1, by omega, d0, d1, R.out⟩
            case measure => simp [intOf]; omega
          · have hd0 : 0 ≤ d := by omega
            have R := Lib.hid (common_right HN.out hd0 d1 (by omega))
            have h2 := ht.2 hd0
            clear HN hs
            go_wp2_with (go_at_call 88; (with_reducible refine (kabove_any sup d hd0 d1 A cap B w hl HS.out).mono ?_); rintro e w' ⟨rfl, rfl⟩)
            go_round
            case rel => exact ⟨c, supI sup d, rfl, rfl, c0, c1, ht.1, by omega, R.out⟩
            case measure => simp [intOf]; omega
    · have HA := Lib.hid ha
      have HB := Lib.hid (show isClsB sup b = false by simpa using hb)
      have R := Lib.hid (show MeetIs sup a b (-1) from .inl ⟨rfl, fun x g g2 => by have := above_range g2; have := class_false hb; omega⟩)
      clear ha hb
      go_enter Try.func86, Try.ntmps86
      go_wp2_with (first
        | (go_at_call 87; (with_reducible refine (kisclass_any sup a A cap w hl).mono ?_); rintro e w' ⟨he, rfl⟩; rw [HA.out] at he; subst he)
        | (go_at_call 87; (with_reducible refine (kisclass_any sup b A cap w hl).mono ?_); rintro e w' ⟨he, rfl⟩; rw [HB.out] at he; subst he))
      go_ret
      exact ⟨⟨_, rfl, R.out⟩, rfl⟩
  · have HA := Lib.hid (show isClsB sup a = false by simpa using ha)
    have R := Lib.hid (show MeetIs sup a b (-1) from .inl ⟨rfl, fun x g g2 => by have := above_range g; have := class_false ha; omega⟩)
    clear ha
    go_enter Try.func86, Try.ntmps86
    go_wp2_with (go_at_call 87; (with_reducible refine (kisclass_any sup a A cap w hl).mono ?_); rintro e w' ⟨he, rfl⟩; rw [HA.out] at he; subst he)
    go_ret
    exact ⟨⟨_, rfl, R.out⟩, rfl⟩

theorem kjoin_far (sup : List Int) (k n k' n' : Int) (A : Option Addr) (cap B : Nat) (w : World) (hl : sup.length ≤ 1048576) (hB : B ≤ w.heap.size) (h : Supers w B A sup) (hno : ¬ (k = 3 ∧ k' = 3) ∨ subB sup k n k' n' = true ∨ subB sup k' n' k n = true) :
    Calls Try.prog 63 #[.slice A sup.length cap, tyV k n, tyV k' n'] w fun e w' => e = .returned (tyV (joinR sup k n k' n').1 (joinR sup k n k' n').2) ∧ Below w.heap.size w w' := by
  have hW : Below w.heap.size w (((w.alloc (.cells #[.int .i64 k, .int .i64 n] 39)).alloc (.cells #[.int .i64 k', .int .i64 n'] 39)).alloc (.cells #[.int .i64 0, .int .i64 0] 39)) :=
    (((Below.refl w.heap.size w).alloc (Nat.le_refl _) _).alloc (by simp) _).alloc (by simp; omega) _
  have HS := Lib.hid (h.below_to hW hB)
  have HW := Lib.hid hW
  have HB := Lib.hid hB
  clear h hW hB
  have J := Lib.hid (show joinR sup k n k' n' = if subB sup k n k' n' then (k', n') else if subB sup k' n' k n then (k, n) else if k = 3 ∧ k' = 3 then firstIn ((aboveI sup n).drop 1) (aboveI sup n') else (0, 0) from rfl)
  generalize joinR sup k n k' n' = j at J ⊢
  have hz1 : w.heap.size < w.heap.size + 1 + 1 + 1 := by omega
  have hz2 : w.heap.size + 1 < w.heap.size + 1 + 1 + 1 := by omega
  by_cases h1 : subB sup k n k' n' = true
  · have J2 := Lib.hid (show j = (k', n') by rw [J.out, if_pos h1])
    have H1 := Lib.hid h1
    clear h1 J
    go_enter Try.func63, Try.ntmps63
    go_wp2_with (go_at_call 37; (with_reducible refine (ksub_any sup _ _ _ _ A cap B _ hl (by have := HB.out; simp; omega) HS.out).mono ?_); rintro e w1 ⟨he, hb⟩; rw [H1.out] at he; subst he; obtain ⟨hc, hf⟩ := below_cells hb; obtain ⟨r0, r1, r2, r3⟩ := res_cells hb)
    rw [J2.out]
    refine bodyPost_ret (v := tyV k' n') ?_ rfl ⟨rfl, ?_⟩
    · simp [results, Try.results63, go_sem, r0, r1]
    · exact HW.out.trans (((hb.mono (by simp; omega)).setCell (by simp; omega) _).setCell (by simp; omega) _)
  · have F1 := Lib.hid (show subB sup k n k' n' = false by simpa using h1)
    have H1 := F1
    clear h1
    by_cases h2 : subB sup k' n' k n = true
    · have J2 := Lib.hid (show j = (k, n) by rw [J.out, F1.out, h2]; rfl)
      have H2 := Lib.hid h2
      clear h2 J
      go_enter Try.func63, Try.ntmps63
      go_wp2_with (first | (go_at_call 37; (with_reducible refine (ksub_any sup _ _ _ _ A cap B _ hl (by have := HB.out; simp; omega) HS.out).mono ?_); rintro e w1 ⟨he, hb⟩; rw [H1.out] at he; subst he; obtain ⟨hc, hf⟩ := below_cells hb; obtain ⟨r0, r1, r2, r3⟩ := res_cells hb; obtain ⟨q0, q1, q2, q3⟩ := arg_cells hb; have HS1 := Lib.hid (HS.out.below_to hb (by have := HB.out; simp; omega)); have HZ := Lib.hid hb.size) | (go_at_call 37; (with_reducible refine (ksub_any sup _ _ _ _ A cap B _ hl (by have := HB.out; have := HZ.out; simp at this; omega) HS1.out).mono ?_); rintro e w2 ⟨he, hb2⟩; rw [H2.out] at he; subst he; have hbb := Lib.hid (hb.trans (hb2.mono hb.size)); clear hc hf r0 r1 r2 r3 q0 q1 q2 q3; obtain ⟨hc, hf⟩ := below_cells hbb.out; obtain ⟨r0, r1, r2, r3⟩ := res_cells hbb.out; obtain ⟨q0, q1, q2, q3⟩ := arg_cells hbb.out; have HS2 := Lib.hid (HS.out.below_to hbb.out (by have := HB.out; simp; omega)); have HZ2 := Lib.hid hbb.out.size))
      rw [J2.out]
      refine bodyPost_ret (v := tyV k n) ?_ rfl ⟨rfl, ?_⟩
      · simp [results, Try.results63, go_sem, r0, r1]
      · exact HW.out.trans (((hbb.out.mono (by simp; omega)).setCell (by simp; omega) _).setCell (by simp; omega) _)
    · have H2 := Lib.hid (show subB sup k' n' k n = false by simpa using h2)
      clear h2
      by_cases h3 : k = 3 ∧ k' = 3
      · rcases hno with g | g | g
        · exact absurd h3 g
        · rw [H1.out] at g; cases g
        · rw [H2.out] at g; cases g
      · have J2 := Lib.hid (show j = (0, 0) by rw [J.out, H1.out, H2.out, if_neg h3]; rfl)
        have h3' : ¬ k = 3 ∨ (k = 3 ∧ ¬ k' = 3) := by omega
        clear h3 J
        rcases h3' with h3 | ⟨rfl, h3⟩
        all_goals
          go_enter Try.func63, Try.ntmps63
          go_wp2_with (first | (go_at_call 37; (with_reducible refine (ksub_any sup _ _ _ _ A cap B _ hl (by have := HB.out; simp; omega) HS.out).mono ?_); rintro e w1 ⟨he, hb⟩; rw [H1.out] at he; subst he; obtain ⟨hc, hf⟩ := below_cells hb; obtain ⟨r0, r1, r2, r3⟩ := res_cells hb; obtain ⟨q0, q1, q2, q3⟩ := arg_cells hb; have HS1 := Lib.hid (HS.out.below_to hb (by have := HB.out; simp; omega)); have HZ := Lib.hid hb.size) | (go_at_call 37; (with_reducible refine (ksub_any sup _ _ _ _ A cap B _ hl (by have := HB.out; have := HZ.out; simp at this; omega) HS1.out).mono ?_); rintro e w2 ⟨he, hb2⟩; rw [H2.out] at he; subst he; have hbb := Lib.hid (hb.trans (hb2.mono hb.size)); clear hc hf r0 r1 r2 r3 q0 q1 q2 q3; obtain ⟨hc, hf⟩ := below_cells hbb.out; obtain ⟨r0, r1, r2, r3⟩ := res_cells hbb.out; obtain ⟨q0, q1, q2, q3⟩ := arg_cells hbb.out; have HS2 := Lib.hid (HS.out.below_to hbb.out (by have := HB.out; simp; omega)); have HZ2 := Lib.hid hbb.out.size))
          rw [J2.out]
          refine bodyPost_ret (v := tyV 0 0) ?_ rfl ⟨rfl, ?_⟩
          · simp [results, Try.results63, go_sem, r0, r1]
          · exact HW.out.trans (((hbb.out.mono (by simp; omega)).setCell (by simp; omega) _).setCell (by simp; omega) _)

/-- What the program's meet says of the join of two classes neither of which is below the other. -/
theorem meet_join {sup : List Int} {n n' m : Int} (h1 : subB sup 3 n 3 n' = false) (h2 : subB sup 3 n' 3 n = false) (h : MeetIs sup n n' m) :
    firstIn ((aboveI sup n).drop 1) (aboveI sup n') = if m = -1 then (0, 0) else (3, m) := by
  have a1 : n' ∉ aboveI sup n := fun g => by rw [(sub_iff ..).mpr (.inr (.inl ⟨rfl, rfl, g⟩))] at h1; cases h1
  have a2 : n ∉ aboveI sup n' := fun g => by rw [(sub_iff ..).mpr (.inr (.inl ⟨rfl, rfl, g⟩))] at h2; cases h2
  rcases h with ⟨rfl, h⟩ | ⟨g0, g1, g2, g3⟩
  · rw [if_pos rfl]
    rcases join33 a1 a2 with ⟨e, _⟩ | ⟨x, _, f1, f2, _⟩
    · exact e
    · exact absurd f2 (h x f1)
  · rw [if_neg (by omega)]
    rcases join33 a1 a2 with ⟨_, f⟩ | ⟨x, e, f1, f2, f3⟩
    · exact absurd g2 (f m g1)
    · have := f3 m g1 g2
      have := g3 x f1 f2
      rw [e, show x = m by omega]

theorem kjoin_33 (sup : List Int) (n n' : Int) (A : Option Addr) (cap B : Nat) (w : World) (hl : sup.length ≤ 1048576) (hB : B ≤ w.heap.size) (h : Supers w B A sup)
    (h1 : subB sup 3 n 3 n' = false) (h2 : subB sup 3 n' 3 n = false) :
    Calls Try.prog 63 #[.slice A sup.length cap, tyV 3 n, tyV 3 n'] w fun e w' => e = .returned (tyV (firstIn ((aboveI sup n).drop 1) (aboveI sup n')).1 (firstIn ((aboveI sup n).drop 1) (aboveI sup n')).2) ∧ Below w.heap.size w w' := by
  have hW : Below w.heap.size w (((w.alloc (.cells #[.int .i64 3, .int .i64 n] 39)).alloc (.cells #[.int .i64 3, .int .i64 n'] 39)).alloc (.cells #[.int .i64 0, .int .i64 0] 39)) :=
    (((Below.refl w.heap.size w).alloc (Nat.le_refl _) _).alloc (by simp) _).alloc (by simp; omega) _
  have HS := Lib.hid (h.below_to hW hB)
  have HW := Lib.hid hW
  have HB := Lib.hid hB
  clear h hW hB
  have H1 := Lib.hid h1
  have H2 := Lib.hid h2
  clear h1 h2
  have J := Lib.hid (fun m => @meet_join sup n n' m H1.out H2.out)
  generalize firstIn ((aboveI sup n).drop 1) (aboveI sup n') = j at J ⊢
  go_enter Try.func63, Try.ntmps63
  go_wp2_with (first | (go_at_call 37; (with_reducible refine (ksub_any sup _ _ _ _ A cap B _ hl (by have := HB.out; simp; omega) HS.out).mono ?_); rintro e w1 ⟨he, hb⟩; rw [H1.out] at he; subst he; obtain ⟨hc, hf⟩ := below_cells hb; obtain ⟨r0, r1, r2, r3⟩ := res_cells hb; obtain ⟨q0, q1, q2, q3⟩ := arg_cells hb; have HS1 := Lib.hid (HS.out.below_to hb (by have := HB.out; simp; omega)); have HZ := Lib.hid hb.size) | (go_at_call 37; (with_reducible refine (ksub_any sup _ _ _ _ A cap B _ hl (by have := HB.out; have := HZ.out; simp at this; omega) HS1.out).mono ?_); rintro e w2 ⟨he, hb2⟩; rw [H2.out] at he; subst he; have hbb := Lib.hid (hb.trans (hb2.mono hb.size)); clear hc hf r0 r1 r2 r3 q0 q1 q2 q3; obtain ⟨hc, hf⟩ := below_cells hbb.out; obtain ⟨r0, r1, r2, r3⟩ := res_cells hbb.out; obtain ⟨q0, q1, q2, q3⟩ := arg_cells hbb.out; have HS2 := Lib.hid (HS.out.below_to hbb.out (by have := HB.out; simp; omega)); have HZ2 := Lib.hid hbb.out.size) | (go_at_call 86; (with_reducible refine (kmeet_any sup _ _ A cap B _ hl (by have := HB.out; have := HZ2.out; simp at this; omega) HS2.out).mono ?_); rintro e w3 ⟨⟨m, rfl, hm⟩, rfl⟩; have J2 := Lib.hid (J.out m hm); clear J; by_cases hm1 : m = -1))
  · have J3 := Lib.hid (show j = (0, 0) by rw [J2.out, if_pos hm1])
    rw [J3.out]
    refine bodyPost_ret (v := tyV 0 0) ?_ rfl ⟨rfl, ?_⟩
    · simp [results, Try.results63, go_sem, r0, r1]
    · exact HW.out.trans (((hbb.out.mono (by simp; omega)).setCell (by simp; omega) _).setCell (by simp; omega) _)
  · have J3 := Lib.hid (show j = (3, m) by rw [J2.out, if_neg hm1])
    rw [J3.out]
    refine bodyPost_ret (v := tyV 3 m) ?_ rfl ⟨rfl, ?_⟩
    · simp [results, Try.results63, go_sem, r0, r1]
    · exact HW.out.trans (((hbb.out.mono (by simp; omega)).setCell (by simp; omega) _).setCell (by simp; omega) _)

theorem kjoin_any (sup : List Int) (k n k' n' : Int) (A : Option Addr) (cap B : Nat) (w : World) (hl : sup.length ≤ 1048576) (hB : B ≤ w.heap.size) (h : Supers w B A sup) :
    Calls Try.prog 63 #[.slice A sup.length cap, tyV k n, tyV k' n'] w fun e w' => e = .returned (tyV (joinR sup k n k' n').1 (joinR sup k n k' n').2) ∧ Below w.heap.size w w' := by
  by_cases h1 : subB sup k n k' n' = true
  · exact kjoin_far sup k n k' n' A cap B w hl hB h (.inr (.inl h1))
  · by_cases h2 : subB sup k' n' k n = true
    · exact kjoin_far sup k n k' n' A cap B w hl hB h (.inr (.inr h2))
    · by_cases h3 : k = 3 ∧ k' = 3
      · obtain ⟨rfl, rfl⟩ := h3
        have e : joinR sup 3 n 3 n' = firstIn ((aboveI sup n).drop 1) (aboveI sup n') := by unfold joinR; rw [if_neg h1, if_neg h2, if_pos ⟨rfl, rfl⟩]
        rw [e]
        exact kjoin_33 sup n n' A cap B w hl hB h (by simpa using h1) (by simpa using h2)
      · exact kjoin_far sup k n k' n' A cap B w hl hB h (.inl h3)
end Go.Proofs.Ytgpmdhdooglkfaa
