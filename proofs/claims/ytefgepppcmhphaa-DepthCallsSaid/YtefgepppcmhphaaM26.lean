/-
  Which images the laws of a step, and of right types, speak of, as plain data. Plain definitions; no conditions.
  A square of answers in memory: a row of rows of the call's own, each a block apart. Plain definitions and lemmas; no conditions.
  Rows of numbers in blocks of their own. Plain definitions and lemmas; no conditions.
-/
import Derived.Test.YtefgepppcmhphaaM25
import Derived.Test.YtefgepppcmhphaaM13
import Derived.Test.YtefgepppcmhphaaM16
import Derived.Test.YtefgepppcmhphaaM02
namespace Go.Proofs.Ytefgepppcmhphaa
set_option maxRecDepth 100000
set_option linter.unusedVariables false
set_option linter.unusedSimpArgs false
open Go.ChangeShapes Go.WideShapes Go.ChangeAt Go.RowKit

def saneB8 (m : Img) : Bool := decide (m.methods.length ≤ 12) && (decide (m.classes.length ≤ 8) && (decide (m.ints.length ≤ 16) && decide (saneR m = 0)))
theorem saneB8_yes {m : Img} (h : saneB8 m = true) : SaneI m := by
  unfold saneB8 at h
  simp only [Bool.and_eq_true, decide_eq_true_eq] at h
  exact saneI h.2.2.2

end Go.Proofs.Ytefgepppcmhphaa
namespace Go.Proofs.Ytefgepppcmhphaa
set_option maxRecDepth 100000
set_option linter.unusedVariables false
set_option linter.unusedSimpArgs false
open Go.ChangeShapes Go.WideShapes Go.ChangeAt Go.RowKit
set_option linter.unusedVariables false

def sqV (n : Nat) (G : List Nat) : List Value := (G.map fun g => Value.slice (some ⟨g, 0, none⟩) n n) ++ List.replicate (n - G.length) (Value.slice none 0 0)
/-- The first rows of a square, by the blocks that they lie in. -/
structure SqIn (w : World) (gO n : Nat) (G : List Nat) (W : List (List Bool)) : Prop where
  blk : Whole w gO (sqV n G) 46
  len : G.length = W.length
  rows : ∀ (i : Nat) g r, G[i]? = some g → W[i]? = some r → Whole w g (r.map Value.bool) 4 ∧ r.length = n
  diff : G.Nodup
  apart : ∀ g ∈ G, ¬ g = gO
theorem SqIn.keep {w w' : World} {gO n : Nat} {G : List Nat} {W : List (List Bool)} (h : SqIn w gO n G W) (hb : Below w.heap.size w w') : SqIn w' gO n G W :=
  ⟨h.blk.keep hb h.blk.lt, h.len, fun i g r hg hr => ⟨(h.rows i g r hg hr).1.keep hb (h.rows i g r hg hr).1.lt, (h.rows i g r hg hr).2⟩, h.diff, h.apart⟩
theorem Whole.other {w : World} {g : Nat} {vs : List Value} {T : TypeId} (h : Whole w g vs T) {p : Addr} (v : Value) (hp : ¬ p.block = g) : Whole (w.setCell p v) g vs T := by
  unfold Whole at h ⊢
  rw [heap_setCell_other w p g v (fun e => hp e.symm)]
  exact h
theorem SqIn.row_at {w : World} {gO n i : Nat} {G : List Nat} {W : List (List Bool)} (h : SqIn w gO n G W) (hi : i < G.length) : w.cell? ⟨gO, i, none⟩ = some (.slice (some ⟨G[i], 0, none⟩) n n) :=
  h.blk.cells _ _ (by
    unfold sqV
    rw [List.getElem?_append_left (by rw [List.length_map]; exact hi), List.getElem?_map, List.getElem?_eq_getElem hi]
    rfl)
theorem SqIn.row_in {w : World} {gO n i : Nat} {G : List Nat} {W : List (List Bool)} (h : SqIn w gO n G W) (hi : i < G.length) : Whole w G[i] ((W[i]?.getD []).map Value.bool) 4 ∧ (W[i]?.getD []).length = n := by
  have hw : i < W.length := by rw [← h.len]; exact hi
  rw [List.getElem?_eq_getElem hw, Option.getD_some]
  exact h.rows i G[i] W[i] (List.getElem?_eq_getElem hi) (List.getElem?_eq_getElem hw)
theorem SqIn.bit_at {w : World} {gO n i j : Nat} {G : List Nat} {W : List (List Bool)} (h : SqIn w gO n G W) (hi : i < G.length) (hj : j < n) : w.cell? ⟨G[i], j, none⟩ = some (.bool (wat W i j)) := by
  obtain ⟨h1, h2⟩ := h.row_in hi
  refine h1.cells _ _ ?_
  unfold wat
  rw [List.getElem?_map, List.getElem?_eq_getElem (by omega), Option.getD_some]
  rfl
/-- One answer written. -/
theorem SqIn.set {w : World} {gO n i j : Nat} {G : List Nat} {W : List (List Bool)} (h : SqIn w gO n G W) (hi : i < G.length) (b : Bool) : SqIn (w.setCell ⟨G[i], j, none⟩ (.bool b)) gO n G (wset W i j b) := by
  obtain ⟨h1, h2⟩ := h.row_in hi
  refine ⟨h.blk.other _ (h.apart _ (List.getElem_mem hi)), by unfold wset; rw [List.length_set]; exact h.len, fun k g r hg hr => ?_, h.diff, h.apart⟩
  unfold wset at hr
  rw [List.getElem?_set] at hr
  by_cases hk : i = k
  · subst hk
    have hw : i < W.length := by rw [← h.len]; exact hi
    rw [if_pos rfl, if_pos hw] at hr
    injection hr with hr
    subst hr
    rw [List.getElem?_eq_getElem hi] at hg
    injection hg with hg
    subst hg
    refine ⟨?_, by rw [List.length_set]; exact h2⟩
    rw [List.map_set]
    exact h1.set j _
  · rw [if_neg hk] at hr
    obtain ⟨h3, h4⟩ := h.rows k g r hg hr
    refine ⟨h3.other _ (fun e => hk ?_), h4⟩
    have e1 : G[i]? = G[k]? := by rw [hg, List.getElem?_eq_getElem hi]; exact congrArg some e
    exact (List.getElem?_inj hi h.diff).mp e1
/-- A row more. -/
theorem SqIn.add {w : World} {gO n g : Nat} {G : List Nat} {W : List (List Bool)} {r : List Bool} (h : SqIn w gO n G W) (hn : G.length < n) (hr : r.length = n) (hg : Whole w g (r.map Value.bool) 4) (hG : ∀ x ∈ G, ¬ x = g) (hO : ¬ g = gO) :
    SqIn (w.setCell ⟨gO, G.length, none⟩ (.slice (some ⟨g, 0, none⟩) n n)) gO n (G ++ [g]) (W ++ [r]) := by
  refine ⟨?_, by rw [List.length_append, List.length_append, h.len]; rfl, fun k x y hx hy => ?_, ?_, fun x hx => ?_⟩
  · have e : sqV n (G ++ [g]) = (sqV n G).set G.length (.slice (some ⟨g, 0, none⟩) n n) := by
      unfold sqV
      obtain ⟨d, hd⟩ : ∃ d, n - G.length = d + 1 := ⟨n - G.length - 1, by omega⟩
      rw [List.length_append, List.map_append, hd, show n - (G.length + [g].length) = d by simp; omega, List.set_append_right (h := by rw [List.length_map]; exact Nat.le_refl _), List.length_map, Nat.sub_self, List.replicate_succ, List.set_cons_zero, List.append_assoc]
      rfl
    rw [e]
    exact h.blk.set _ _
  · rcases Nat.lt_or_ge k G.length with q | q
    · rw [List.getElem?_append_left q] at hx
      rw [List.getElem?_append_left (by rw [← h.len]; exact q)] at hy
      obtain ⟨h3, h4⟩ := h.rows k x y hx hy
      exact ⟨h3.other _ (fun e => h.apart x (List.mem_of_getElem? hx) e.symm), h4⟩
    · rw [List.getElem?_append_right q] at hx
      have hz : k - G.length = 0 := by
        rcases Nat.eq_zero_or_pos (k - G.length) with z | z
        · exact z
        · rw [List.getElem?_eq_none (by simp; omega)] at hx; cases hx
      rw [hz] at hx
      simp at hx
      subst hx
      rw [List.getElem?_append_right (by rw [← h.len]; exact q), ← h.len, hz] at hy
      simp at hy
      subst hy
      exact ⟨hg.other _ (fun e => hO e.symm), hr⟩
  · rw [List.nodup_append]
    exact ⟨h.diff, by simp, fun a ha b hb => by simp at hb; subst hb; exact hG a ha⟩
  · rcases List.mem_append.mp hx with q | q
    · exact h.apart x q
    · simp at q; subst q; exact hO
end Go.Proofs.Ytefgepppcmhphaa
namespace Go.Proofs.Ytefgepppcmhphaa
set_option maxRecDepth 100000
set_option linter.unusedVariables false
set_option linter.unusedSimpArgs false
open Go.ChangeShapes Go.WideShapes Go.ChangeAt Go.RowKit
set_option linter.unusedVariables false

def oN (O : List Int) (t : Nat) : Int := O[t]?.getD 0
theorem oN_at {O : List Int} {t : Nat} (h : t < O.length) : oN O t = O[t] := by unfold oN; rw [List.getElem?_eq_getElem h]; rfl
theorem oN_set {O : List Int} {f t : Nat} {v : Int} (hf : f < O.length) : oN (O.set f v) t = if t = f then v else oN O t := by
  unfold oN
  rw [List.getElem?_set]
  by_cases h : f = t
  · subst h; rw [if_pos rfl, if_pos hf, if_pos rfl]; rfl
  · rw [if_neg h, if_neg (fun e => h e.symm)]
theorem made_one {z v : Value} (hz : z.cells = #[v]) (n : Nat) : (madeCells z.cells (n * 1)).toList = List.replicate n v := by
  rw [hz]
  refine List.ext_getElem? fun i => ?_
  unfold madeCells
  by_cases hi : i < n
  · rw [Array.getElem?_toList, Array.getElem?_map, Array.getElem?_range, if_pos (by omega), List.getElem?_replicate, if_pos hi]
    simp [Nat.mod_one]
  · rw [List.getElem?_eq_none (by simp; omega), List.getElem?_eq_none (by simp; omega)]
theorem own_whole1 {w : World} {base g n : Nat} {xs : List Value} {T : TypeId} (h : w.ownsRow base T 1 (.slice (some ⟨g, 0, none⟩) n n) n xs) : Whole w g xs T := by
  obtain ⟨h0, h1⟩ := h
  rcases h1 with ⟨h1, _⟩ | ⟨g', cap, cur, h1, _, hh, _, _, hs, hx⟩
  · cases h1
  · injection h1 with e1 e2 e3
    simp at e1
    subst e1 e3
    have hc : cur.toList = xs := by rw [← hx, List.take_of_length_le (by rw [Array.length_toList, hs]; exact Nat.le_refl _)]
    unfold Whole
    rw [hh, ← hc]
/-- A row of numbers in a block of its own. -/
def NumsIn (w : World) (g : Nat) (O : List Int) : Prop := Whole w g (O.map (Value.int .i64)) 3
theorem NumsIn.at_ {w : World} {g t : Nat} {O : List Int} (h : NumsIn w g O) (ht : t < O.length) : w.cell? ⟨g, t, none⟩ = some (.int .i64 (oN O t)) := by
  refine h.cells t _ ?_
  rw [List.getElem?_map, List.getElem?_eq_getElem ht, oN_at ht]
  rfl
theorem NumsIn.set {w : World} {g t : Nat} {O : List Int} (h : NumsIn w g O) (v : Int) : NumsIn (w.setCell ⟨g, t, none⟩ (.int .i64 v)) g (O.set t v) := by
  have := Whole.set h t (.int .i64 v)
  unfold NumsIn
  rw [List.map_set]
  exact this
theorem NumsIn.keep {w w' : World} {g : Nat} {O : List Int} (h : NumsIn w g O) (hb : Below w.heap.size w w') : NumsIn w' g O := Whole.keep h hb (Whole.lt h)
theorem NumsIn.slc {w : World} {g n : Nat} {O : List Int} (h : NumsIn w g O) (hn : O.length = n) (hl : n ≤ 1000) : SlcIs IntAt 1 w w.heap.size (some ⟨g, 0, none⟩) n O :=
  ⟨by omega, by omega, fun i x hi => by
    obtain ⟨hi', e⟩ := List.getElem?_eq_some_iff.mp hi
    have hc := h.at_ hi'
    rw [oN_at hi', e] at hc
    refine ⟨_, rfl, Whole.lt h, ?_⟩
    show w.cell? (Addr.add ⟨g, 0, none⟩ (i * 1)) = _
    rw [show Addr.add ⟨g, 0, none⟩ (i * 1) = ⟨g, i, none⟩ by unfold Addr.add; split <;> simp_all]
    exact hc⟩
end Go.Proofs.Ytefgepppcmhphaa
