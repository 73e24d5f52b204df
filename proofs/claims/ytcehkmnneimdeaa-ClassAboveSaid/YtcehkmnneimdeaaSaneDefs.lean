/-
  What classes have, and when all is there that an image names, as plain data.
-/
import Derived.Test.YtcehkmnneimdeaaImg
import Derived.Test.YtcehkmnneimdeaaSubDefs
namespace Go.Proofs.Ytcehkmnneimdeaa
set_option maxRecDepth 100000
set_option linter.unusedVariables false
set_option linter.unusedSimpArgs false
open Go.ChangeShapes Go.WideShapes Go.ChangeAt Go.RowKit
set_option linter.unusedVariables false

def supsOf (cl : List Cls) : List Int := cl.map (·.sup)
/-- The fields of the classes of these numbers. -/
def fieldsAt (cl : List Cls) (i : Int) : List (Int × Int) := match cl[i.toNat]? with
  | some c => c.fields
  | none => []
/-- All fields of a class, the highest one's first. -/
def fieldsOf (cl : List Cls) (c : Int) : List (Int × Int) := (aboveI (supsOf cl) c).reverse.flatMap (fieldsAt cl)
theorem supers_of {w : World} {B : Nat} {A : Option Addr} {cl : List Cls} (h : RowOf ClsAt 3 w B A cl) : Supers w B A (supsOf cl) := fun i s hs => by
  unfold supsOf at hs
  rw [List.getElem?_map] at hs
  cases hc : cl[i]? with
  | none => rw [hc] at hs; simp at hs
  | some c =>
    rw [hc] at hs
    simp at hs
    subst hs
    obtain ⟨ad, e, hb, hx⟩ := h i c hc
    exact ⟨ad, e, hb, hx.sup⟩
theorem supsOf_len (cl : List Cls) : (supsOf cl).length = cl.length := List.length_map _
theorem aboveOf_lt (sup : List Int) (c : Nat) : ∀ i ∈ aboveOf sup c, 0 ≤ i ∧ i ≤ c ∧ i < sup.length := by
  induction c using Nat.strongRecOn with
  | ind c ih =>
    intro i hi
    rcases Nat.lt_or_ge c sup.length with g | g
    · rw [aboveOf_some (List.getElem?_eq_getElem g)] at hi
      rcases List.mem_cons.mp hi with rfl | hi
      · omega
      · split at hi
        · rename_i hs
          unfold aboveI at hi
          split at hi
          · rename_i h0
            have := ih (sup[c].toNat) (by omega) i hi
            omega
          · simp at hi
        · simp at hi
    · rw [aboveOf_none g] at hi; simp at hi
theorem aboveI_lt {sup : List Int} {c i : Int} (h : i ∈ aboveI sup c) : 0 ≤ i ∧ i < sup.length := by
  unfold aboveI at h
  split at h
  · have := aboveOf_lt sup c.toNat i h
    omega
  · simp at h
def goodsB (l : List (Int × Int)) (n : Int) : Bool := l.all fun t => goodB t.1 t.2 n
end Go.Proofs.Ytcehkmnneimdeaa
