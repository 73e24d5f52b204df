/-
  What holds of a sane image, as plain facts: bounds, types, and what an instruction names.
  Plain facts of what stands above a class, and of which type fits where.
  All classes that are below one, as plain data. Plain definitions and lemmas; no conditions.
  One number in a block of its own, as a row. Plain lemma; no conditions.
-/
import Derived.Test.YtjjgpcmdoodjnaaM19
import Derived.Test.YtjjgpcmdoodjnaaM04
import Derived.Test.YtjjgpcmdoodjnaaM05
import Derived.RegionTactic
import Derived.ChangeAlike
import Derived.Deep.RegionHeld3
import Derived.Deep.QuietTactic
import Derived.BigQuiet
import Derived.IntWalk
namespace Go.Proofs.Ytjjgpcmdoodjnaa
set_option maxRecDepth 100000
set_option linter.unusedVariables false
set_option linter.unusedSimpArgs false

/-- What a sane image is known by. -/
structure SaneI (m : Img) : Prop where
  fits : ImgFits m
  st : ∀ t ∈ m.statics, goodB t.1 t.2 m.classes.length = true
  cls : ∀ (i : Nat) c, m.classes[i]? = some c → classB m (i : Int) c = true
  mth : ∀ x ∈ m.methods, methodB m x = true
theorem saneI {m : Img} (h : saneR m = 0) : SaneI m := by
  have hf : fitsB m = true := by
    cases hf : fitsB m with
    | true => rfl
    | false => rw [sane_not hf] at h; cases h
  have ho : okB m = true := by
    cases ho : okB m with
    | true => rfl
    | false => rw [sane_no hf ho] at h; cases h
  unfold okB at ho
  simp only [Bool.and_eq_true] at ho
  refine ⟨imgFits hf, fun t ht => List.all_eq_true.mp ho.1 t ht, fun i c hc => clsOk_at ho.2.1 ?_ hc, fun x hx => List.all_eq_true.mp ho.2.2.1 x hx⟩
  rcases Nat.lt_or_ge i m.classes.length with g | g
  · exact g
  · rw [List.getElem?_eq_none g] at hc; cases hc
/-- What a method of a sane image is known by. -/
structure SaneM (m : Img) (x : Mth) : Prop where
  fits : MthFits x
  at_ : ∀ t ∈ x.args, goodB t.1 t.2 m.classes.length = true
  lt : ∀ t ∈ x.locals, goodB t.1 t.2 m.classes.length = true
  rt : x.ret = (5, 0) ∨ goodB x.ret.1 x.ret.2 m.classes.length = true
  cp : 0 < x.code.length
  ph : x.phi.length = x.code.length
  all : x.args.length + x.locals.length ≤ 8
  co : ∀ i ∈ x.code, namedB m x i.1 i.2.1 i.2.2 = true
theorem SaneI.method {m : Img} (h : SaneI m) {x : Mth} (hx : x ∈ m.methods) : SaneM m x := by
  have h1 := h.mth x hx
  unfold methodB at h1
  simp only [Bool.and_eq_true, decide_eq_true_eq] at h1
  obtain ⟨a1, a2, a3, a4, a5, a6, a7⟩ := h1
  unfold retB at a3
  refine ⟨h.fits.mt x hx, fun t ht => List.all_eq_true.mp a1 t ht, fun t ht => List.all_eq_true.mp a2 t ht, ?_, by omega, by omega, by omega, fun i hi => List.all_eq_true.mp a7 i hi⟩
  rw [Bool.or_eq_true, decide_eq_true_eq] at a3
  exact a3
end Go.Proofs.Ytjjgpcmdoodjnaa
namespace Go.Proofs.Ytjjgpcmdoodjnaa
set_option maxRecDepth 100000
set_option linter.unusedVariables false
set_option linter.unusedSimpArgs false

theorem aboveI_step {sup : List Int} {a : Int} {s : Int} (h0 : 0 ≤ a) (h : sup[a.toNat]? = some s) : aboveI sup a = a :: (if s < a then aboveI sup s else []) := by
  have e := aboveOf_some h
  have ea : (a.toNat : Int) = a := by omega
  rw [ea] at e
  rw [← e]
  unfold aboveI
  rw [if_pos h0]
theorem aboveI_bad {sup : List Int} {a : Int} (h : a < 0 ∨ (sup.length : Int) ≤ a) : aboveI sup a = [] := by
  unfold aboveI
  split
  · exact aboveOf_none (by omega)
  · rfl
theorem super_at {sup : List Int} {a : Int} (h0 : 0 ≤ a) (h1 : a < sup.length) : ∃ s, sup[a.toNat]? = some s :=
  ⟨_, List.getElem?_eq_getElem (show a.toNat < sup.length by omega)⟩

theorem above_self {sup : List Int} {a : Int} (h0 : 0 ≤ a) (h1 : a < sup.length) : a ∈ aboveI sup a := by
  obtain ⟨s, hs⟩ := super_at h0 h1
  rw [aboveI_step h0 hs]
  exact List.mem_cons_self
/-- What stands above a class: from 0 to its own number; the classes above that stand above the class, too; and of two that stand above it the lower one stands above the other. -/
theorem above_all (sup : List Int) (n : Nat) : ∀ a : Int, a < n → (∀ b ∈ aboveI sup a, 0 ≤ b ∧ b ≤ a ∧ a < sup.length) ∧ (∀ b ∈ aboveI sup a, ∀ c ∈ aboveI sup b, c ∈ aboveI sup a) ∧
    (∀ b ∈ aboveI sup a, ∀ c ∈ aboveI sup a, c ≤ b → c ∈ aboveI sup b) ∧ (aboveI sup a).Pairwise (· > ·) := by
  induction n with
  | zero =>
    intro a ha
    rw [aboveI_bad (.inl (by omega))]
    simp
  | succ n ih =>
    intro a ha
    by_cases hv : 0 ≤ a ∧ a < sup.length
    · obtain ⟨h0, h1⟩ := hv
      obtain ⟨s, hs⟩ := super_at h0 h1
      have e := aboveI_step h0 hs
      by_cases hsa : s < a
      · rw [if_pos hsa] at e
        obtain ⟨i1, i2, i3, i4⟩ := ih s (by omega)
        refine ⟨?_, ?_, ?_, ?_⟩
        · intro b hb
          rw [e] at hb
          rcases List.mem_cons.mp hb with rfl | hb
          · exact ⟨h0, by omega, h1⟩
          · have := i1 b hb
            exact ⟨this.1, by omega, h1⟩
        · intro b hb c hc
          rw [e] at hb
          rcases List.mem_cons.mp hb with rfl | hb
          · exact hc
          · rw [e]
            exact List.mem_cons_of_mem _ (i2 b hb c hc)
        · intro b hb c hc hcb
          have hb' := hb
          rw [e] at hb' hc
          rcases List.mem_cons.mp hb' with rfl | hb2
          · rw [e]; exact hc
          · rcases List.mem_cons.mp hc with rfl | hc2
            · have := i1 b hb2
              omega
            · exact i3 b hb2 c hc2 hcb
        · rw [e, List.pairwise_cons]
          exact ⟨fun b hb => by have := i1 b hb; omega, i4⟩
      · rw [if_neg hsa] at e
        rw [e]
        refine ⟨?_, ?_, ?_, by simp⟩
        · intro b hb
          simp at hb
          subst hb
          exact ⟨h0, by omega, h1⟩
        · intro b hb c hc
          simp at hb
          subst hb
          rw [← e]
          exact hc
        · intro b hb c hc _
          simp at hb
          subst hb
          rw [e]
          exact hc
    · rw [aboveI_bad (by omega)]
      simp
theorem above_range {sup : List Int} {a b : Int} (h : b ∈ aboveI sup a) : 0 ≤ b ∧ b ≤ a ∧ a < sup.length := (above_all sup (a.toNat + 1) a (by omega)).1 b h
theorem above_trans {sup : List Int} {a b c : Int} (h : b ∈ aboveI sup a) (g : c ∈ aboveI sup b) : c ∈ aboveI sup a := (above_all sup (a.toNat + 1) a (by omega)).2.1 b h c g
theorem above_line {sup : List Int} {a b c : Int} (h : b ∈ aboveI sup a) (g : c ∈ aboveI sup a) (l : c ≤ b) : c ∈ aboveI sup b := (above_all sup (a.toNat + 1) a (by omega)).2.2.1 b h c g l
theorem above_down (sup : List Int) (a : Int) : (aboveI sup a).Pairwise (· > ·) := (above_all sup (a.toNat + 1) a (by omega)).2.2.2
theorem above_anti {sup : List Int} {a b : Int} (h : b ∈ aboveI sup a) (g : a ∈ aboveI sup b) : a = b := by
  have := above_range h
  have := above_range g
  omega

theorem inB_iff {l : List Int} {n : Int} : inB l n = true ↔ n ∈ l := by unfold inB; simp

theorem sub_iff (sup : List Int) (k n k' n' : Int) : subB sup k n k' n' = true ↔ (k = 4 ∧ (k' = 2 ∨ k' = 3 ∨ k' = 4)) ∨ (k = 3 ∧ k' = 3 ∧ n' ∈ aboveI sup n) ∨ ((k = 1 ∨ k = 2) ∧ k = k' ∧ n = n') := by
  unfold subB
  by_cases h4 : k = 4
  · subst h4; simp [isRefB]
  · by_cases h3 : k = 3
    · subst h3; simp [inB]
    · simp [h3, h4]

end Go.Proofs.Ytjjgpcmdoodjnaa
namespace Go.Proofs.Ytjjgpcmdoodjnaa
set_option maxRecDepth 100000
set_option linter.unusedVariables false
set_option linter.unusedSimpArgs false
open Go.ChangeShapes Go.WideShapes Go.ChangeAt Go.RowKit

/-- Of the first k classes those that are below one, rising. -/
def belowTo (sup : List Int) (c : Int) : Nat → List Int
  | 0 => []
  | k + 1 => if inB (aboveI sup k) c then belowTo sup c k ++ [(k : Int)] else belowTo sup c k
def belowOf (cl : List Cls) (c : Int) : List Int := belowTo (supsOf cl) c cl.length
theorem belowTo_len (sup : List Int) (c : Int) : ∀ k, (belowTo sup c k).length ≤ k
  | 0 => Nat.le_refl _
  | k + 1 => by
    unfold belowTo
    have := belowTo_len sup c k
    split
    · simp; omega
    · omega
theorem belowTo_mem (sup : List Int) (c : Int) : ∀ (k : Nat) (x : Int), x ∈ belowTo sup c k ↔ 0 ≤ x ∧ x < k ∧ inB (aboveI sup x) c = true
  | 0, x => by simp [belowTo]; omega
  | k + 1, x => by
    unfold belowTo
    have ih := belowTo_mem sup c k x
    split
    · rename_i g
      rw [List.mem_append, ih, List.mem_singleton]
      constructor
      · rintro (⟨a, b, d⟩ | rfl)
        · exact ⟨a, by omega, d⟩
        · exact ⟨by omega, by omega, g⟩
      · rintro ⟨a, b, d⟩
        by_cases e : x = k
        · exact .inr e
        · exact .inl ⟨a, by omega, d⟩
    · rename_i g
      rw [ih]
      constructor
      · rintro ⟨a, b, d⟩; exact ⟨a, by omega, d⟩
      · rintro ⟨a, b, d⟩
        refine ⟨a, ?_, d⟩
        by_cases e : x = k
        · subst e; exact absurd d g
        · omega
theorem belowTo_rise (sup : List Int) (c : Int) : ∀ k, (belowTo sup c k).Pairwise (· < ·)
  | 0 => List.Pairwise.nil
  | k + 1 => by
    unfold belowTo
    split
    · rw [List.pairwise_append]
      refine ⟨belowTo_rise sup c k, by simp, fun a ha b hb => ?_⟩
      rw [List.mem_singleton] at hb
      subst hb
      exact ((belowTo_mem sup c k a).mp ha).2.1
    · exact belowTo_rise sup c k
theorem belowTo_self {sup : List Int} {c : Nat} (h : c < sup.length) : belowTo sup c (c + 1) = [(c : Int)] := by
  have e : belowTo sup (c : Int) c = [] := by
    apply List.eq_nil_iff_forall_not_mem.mpr
    intro x hx
    obtain ⟨h0, h1, h2⟩ := (belowTo_mem sup c c x).mp hx
    have := above_range (inB_iff.mp h2)
    omega
  unfold belowTo
  rw [if_pos (inB_iff.mpr (above_self (by omega) (by omega))), e]
  rfl
theorem belowTo_no {sup : List Int} {c : Int} (h : c < 0 ∨ (sup.length : Int) ≤ c) (k : Nat) (hk : k ≤ sup.length) : belowTo sup c k = [] := by
  apply List.eq_nil_iff_forall_not_mem.mpr
  intro x hx
  obtain ⟨h0, h1, h2⟩ := (belowTo_mem sup c k x).mp hx
  have := above_range (inB_iff.mp h2)
  omega
theorem own_one (w : World) (z : Int) {N : Nat} {T : TypeId} (hN : w.heap.size = N := by rfl) : ∀ j u, [Value.int .i64 z][j]? = some u → (w.alloc (.cells #[.int .i64 z] T)).cell? ((⟨N, 0, none⟩ : Addr).add j) = some u := by
  subst hN
  intro j u hj
  match j, hj with
  | 0, hj => simp at hj; subst hj; simp [Addr.add]
theorem one_cell (z : Int) : ∀ u ∈ [Value.int .i64 z], u.oneCell' = true := by intro u hu; simp at hu; subst hu; rfl
end Go.Proofs.Ytjjgpcmdoodjnaa
namespace Go.Proofs.Ytjjgpcmdoodjnaa
set_option maxRecDepth 100000
set_option linter.unusedVariables false
set_option linter.unusedSimpArgs false
open Go.ChangeShapes Go.WideShapes Go.ChangeAt Go.RowKit

theorem int_one {w : World} {g : Nat} {n : Int} (hg : g < w.heap.size) (h : w.cell? ⟨g, 0, none⟩ = some (.int .i64 n)) : SlcIs IntAt 1 w w.heap.size (some ⟨g, 0, none⟩) 1 [n] :=
  ⟨Nat.le_refl _, by omega, fun i t hi => by
    match i, hi with
    | 0, hi => simp at hi; subst hi; exact ⟨_, rfl, hg, h⟩
    | i + 1, hi => simp at hi⟩
end Go.Proofs.Ytjjgpcmdoodjnaa
