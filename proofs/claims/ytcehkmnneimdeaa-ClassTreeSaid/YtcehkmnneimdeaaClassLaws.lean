/-
  Words for the statements on classes.
-/
import Derived.Test.YtcehkmnneimdeaaClassAwake
import Derived.Test.YtcehkmnneimdeaaImgOpenZ
import Derived.Test.YtcehkmnneimdeaaRefInts
import Derived.Deep.RegionHeld3
import Derived.Deep.QuietTactic
import Derived.BigQuiet
namespace Go.Proofs.Ytcehkmnneimdeaa
set_option maxRecDepth 100000
set_option linter.unusedVariables false
set_option linter.unusedSimpArgs false
open Go.ChangeShapes Go.WideShapes Go.ChangeAt Go.RowKit
set_option linter.unusedVariables false
set_option linter.unusedSimpArgs false

theorem few_is {m : Img} {h : Hnd} {w0 w : World} {r : Bool} (HI : Hid (ImgIn w0 w0.heap.size h m)) (HX : Hid (Below w0.heap.size w0 w)) (HR : Hid (fewB m.classes = r)) (HF : Hid (∀ x ∈ m.classes, x.fields.length ≤ 140737488355328)) :
    Calls Try.prog 7 #[imgV h m] w fun e w' => e = .returned (.bool r) ∧ Below w.heap.size w w' := by
  have H := few_any m h w (HI.out.now HX.out) HF.out
  rw [HR.out] at H
  exact H
theorem mod_in {a : Int} {n : Nat} (h0 : 0 ≤ a) (hn : 0 < n) : ∃ k, k < n ∧ a % (n : Int) = (k : Int) ∧ a.tmod (n : Int) = (k : Int) :=
  ⟨a.toNat % n, Nat.mod_lt _ hn, by rw [Int.natCast_emod, Int.toNat_of_nonneg h0], by rw [Int.tmod_eq_emod_of_nonneg h0, Int.natCast_emod, Int.toNat_of_nonneg h0]⟩
theorem belowOf_in {cl : List Cls} {x z : Nat} (hz : z < cl.length) : inB (belowOf cl x) z = inB (aboveI (supsOf cl) z) x := by
  rw [Bool.eq_iff_iff, inB_iff]
  show (z : Int) ∈ belowTo (supsOf cl) x cl.length ↔ _
  rw [belowTo_mem]
  constructor
  · rintro ⟨_, _, h⟩; exact h
  · intro h; exact ⟨by omega, by omega, h⟩
theorem below_line {cl : List Cls} {x y z : Nat} (hx : x < cl.length) (hy : y < cl.length) (hz : z < cl.length) (h1 : inB (belowOf cl x) z = true) (h2 : inB (belowOf cl y) z = true) : inB (belowOf cl x) y = true ∨ inB (belowOf cl y) x = true := by
  rw [belowOf_in hz, inB_iff] at h1 h2
  rw [belowOf_in hx, belowOf_in hy, inB_iff, inB_iff]
  rcases Nat.le_total x y with g | g
  · exact .inl (above_line h2 h1 (by omega))
  · exact .inr (above_line h1 h2 (by omega))
theorem above_tail (sup : List Int) (n : Nat) : ∀ a : Int, a < n → ∀ b ∈ aboveI sup a, ∃ pre, aboveI sup a = pre ++ aboveI sup b := by
  induction n with
  | zero =>
    intro a ha b hb
    rw [aboveI_bad (.inl (by omega))] at hb
    simp at hb
  | succ n ih =>
    intro a ha b hb
    have hr := above_range hb
    have e := above_sup (sup := sup) (c := a) (by omega) hr.2.2
    rw [e] at hb
    rcases List.mem_cons.mp hb with rfl | hb
    · exact ⟨[], rfl⟩
    · have hs := (supI_bounds sup a).2 (by omega)
      obtain ⟨pre, h⟩ := ih (supI sup a) (by omega) b hb
      exact ⟨a :: pre, by rw [e, h]; rfl⟩
theorem fields_head {cl : List Cls} {i k : Nat} (hk : k < cl.length) (h : inB (belowOf cl i) k = true) : ∃ rest, fieldsOf cl k = fieldsOf cl i ++ rest := by
  rw [belowOf_in hk, inB_iff] at h
  obtain ⟨pre, e⟩ := above_tail (supsOf cl) (k + 1) k (by omega) i h
  refine ⟨pre.reverse.flatMap (fieldsAt cl), ?_⟩
  show (aboveI (supsOf cl) k).reverse.flatMap (fieldsAt cl) = (aboveI (supsOf cl) i).reverse.flatMap (fieldsAt cl) ++ _
  rw [e, List.reverse_append, List.flatMap_append]
theorem belowOf_self {cl : List Cls} {k : Nat} (hk : k < cl.length) : inB (belowOf cl k) k = true := by
  rw [belowOf_in hk, inB_iff]
  exact above_self (by omega) (by rw [supsOf_len]; omega)
theorem slc_head {α : Type} {At : AtP α} {k : Nat} {w : World} {B : Nat} {A : Option Addr} {c : Nat} {L M R : List α} (h : SlcIs At k w B A c L) (e : L = M ++ R) : SlcIs At k w B A c M := by
  refine ⟨by have := h.le; rw [e, List.length_append] at this; omega, h.cap, fun i x hi => h.row i x ?_⟩
  rw [e, List.getElem?_append_left (by
    rcases Nat.lt_or_ge i M.length with g | g
    · exact g
    · rw [List.getElem?_eq_none g] at hi; cases hi)]
  exact hi
theorem types_is {L : List (Int × Int)} {A A' : Option Addr} {c c' : Nat} {w0 w : World} (H1 : Hid (SlcIs TyAt 2 w0 w0.heap.size A c L)) (HY : Hid (Below w0.heap.size w0 w)) (H2 : Hid (SlcIs TyAt 2 w w.heap.size A' c' L)) :
    Calls Try.prog 12 #[.slice A' L.length c', .slice A L.length c] w fun e w' => e = .returned (.bool true) ∧ Below w.heap.size w w' := by
  have H := rsameTypes_any L L A' A c' c w.heap.size w (Nat.le_refl _) H2.out ((H1.out.below_to TyAt.keeps HY.out (Nat.le_refl _)).keep' TyAt.keeps HY.out.size (fun _ _ => rfl))
  rw [decide_eq_true rfl] at H
  exact H
theorem own_intslc {w : World} {B e : Nat} {v : Value} {l : List Int} (h : w.ownsRow B e 1 v l.length (l.map (Value.int .i64))) : ∃ A c, v = .slice A l.length c ∧ SlcIs IntAt 1 w w.heap.size A c l := by
  obtain ⟨A, c, rfl, hl, g1, g2⟩ := own_ints h
  refine ⟨A, c, rfl, g1, g2, fun i x hi => ?_⟩
  obtain ⟨ad, e, hb, hc⟩ := hl i (.int .i64 x) (by rw [List.getElem?_map, hi]; rfl)
  exact ⟨ad, e, hb, by rw [Nat.mul_one]; exact hc⟩
theorem ints_is {L : List Int} {A A' : Option Addr} {c c' : Nat} {w0 w : World} (H1 : Hid (SlcIs IntAt 1 w0 w0.heap.size A c L)) (HY : Hid (Below w0.heap.size w0 w)) (H2 : Hid (SlcIs IntAt 1 w w.heap.size A' c' L)) :
    Calls Try.prog 15 #[.slice A L.length c, .slice A' L.length c'] w fun e w' => e = .returned (.bool true) ∧ Below w.heap.size w w' := by
  have H := rsameInts_any L L A A' c c' w.heap.size w (Nat.le_refl _) ((H1.out.below_to IntAt.keeps HY.out (Nat.le_refl _)).keep' IntAt.keeps HY.out.size (fun _ _ => rfl)) H2.out
  rw [decide_eq_true rfl] at H
  exact H
theorem rslot_is {m : Img} {h : Hnd} {w0 w : World} {c n : Int} {o : Option Int} (HI : Hid (ImgIn w0 w0.heap.size h m)) (HX : Hid (Below w0.heap.size w0 w)) (HO : Hid (slotOf m.classes c n = o)) :
    Calls Try.prog 10 #[imgV h m, .int .i64 c, .int .i64 n] w (SlotOut o w) := by
  have H := rslot_any m c n h w (HI.out.now HX.out)
  rw [HO.out] at H
  exact H
end Go.Proofs.Ytcehkmnneimdeaa
