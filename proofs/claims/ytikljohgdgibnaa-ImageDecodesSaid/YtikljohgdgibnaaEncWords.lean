/-
  Words for the walk of the document's own Encode: cells that stay, rows that are written out, the four letters of a constant string. Plain lemmas; no conditions.
-/
import Derived.Test.YtikljohgdgibnaaEncDefs
import Derived.Lib.SlBytesConst
import Derived.ArgAppend
namespace Go.Proofs.Ytikljohgdgibnaa
set_option maxRecDepth 100000
open Go.ChangeShapes Go.WideShapes Go.ChangeAt Go.RowKit
set_option linter.unusedVariables false
set_option linter.unusedSimpArgs false

/-- Three cells one behind the other. -/
def At3 (w : World) (p : Addr) (x y z : Value) : Prop := w.cell? p = some x ∧ w.cell? (off_ p 1) = some y ∧ w.cell? (off_ p 2) = some z
theorem At3.keep {w w' : World} {p : Addr} {x y z : Value} {B : Nat} (h : At3 w p x y z) (hb : Below B w w') (hp : p.block < B) : At3 w' p x y z :=
  ⟨(hb.cell hp).trans h.1, (hb.cell (p := off_ p 1) hp).trans h.2.1, (hb.cell (p := off_ p 2) hp).trans h.2.2⟩
/-- A block's cells stay where a row in another block grows. -/
theorem Cells.grown {w w' : World} {N g : Nat} {vs : List Value} (H : Cells w N vs) (hg : w.grownBy w' (some g)) (hN : N < w.heap.size) (hne : ¬ g = N) : Cells w' N vs := fun i v h => by
  obtain ⟨_, _, _, _, hb⟩ := hg
  have e := hb N hN (fun x => hne (by have h := x; simp at h; omega))
  exact (World.cell?_of_block (w := w) (a := ⟨N, i, none⟩) e).trans (H i v h)
theorem drew_own {w : World} {B e s n : Nat} {v : Value} {xs : List Value} (h : w.ownsRow B e s v n xs) : w.drew.ownsRow B e s v n xs := h
theorem own_n {w : World} {B e n : Nat} {v : Value} {l : List Int} (h : w.ownsRow B e 1 v n (l.map (Value.int .u8))) : n = l.length := by
  have := h.1
  simp at this
  omega
theorem own_relen {w : World} {B e n : Nat} {v : Value} {l l' : List Int} (h : w.ownsRow B e 1 v n (l.map (Value.int .u8))) (e' : l = l') : w.ownsRow B e 1 v l'.length (l'.map (Value.int .u8)) := by
  have hn := own_n h
  subst e' hn
  exact h
theorem far_of {g g6 N : Nat} {w : World} {n c : Nat} (hor : (Value.slice (some ⟨g, 0, none⟩) n c).ownBlock = some g6 ∨ g6 = w.heap.size) (hg : ¬ g = N) (hN : N < w.heap.size) : ¬ g6 = N := by
  rcases hor with h | h
  · have : g = g6 := by simpa [Value.ownBlock] using h
    omega
  · omega
/-- The four letters, in a block that bears the mark of a constant string. -/
abbrev plimO : Obj := .cells #[.int .u8 112, .int .u8 108, .int .u8 105, .int .u8 109] 5
abbrev plimO' : Obj := .cells #[.int .u8 112, .int .u8 108, .int .u8 105, .int .u8 109] 5 (4, 5)
theorem plim_conv (w : World) (N : Nat) (hN : w.heap.size = N) : (convert 31 31 (.slice (some ⟨N, 0, none⟩) 4 4)).run Try.prog (w.alloc plimO) = .ok (.slice (some ⟨N, 0, none⟩) 4 4) (w.alloc plimO') := by
  subst hN
  exact Lib.run_convert_bytes_const (P := Try.prog) w 31 5 _ 4 4 Try.underlying31 Try.underlying5
theorem plim_cells (w : World) : ∀ j u, (plim.map (Value.int .u8))[j]? = some u → (w.alloc plimO').cell? ((⟨w.heap.size, 0, none⟩ : Addr).add j) = some u := by
  intro j u hj
  have e : (Addr.add ⟨w.heap.size, 0, none⟩ j) = ⟨w.heap.size, j, none⟩ := by
    unfold Addr.add; split
    · rename_i h0; subst h0; rfl
    · simp
  have hh : (w.alloc plimO').heap[w.heap.size]? = some plimO' := heap_alloc_new w _
  rw [e]
  simp only [World.cell?, hh]
  match j, hj with
  | 0, hj => simp [plim] at hj; subst hj; rfl
  | 1, hj => simp [plim] at hj; subst hj; rfl
  | 2, hj => simp [plim] at hj; subst hj; rfl
  | 3, hj => simp [plim] at hj; subst hj; rfl
  | j + 4, hj => simp [plim] at hj
theorem lies_addr {w : World} {B : Nat} {ad : Addr} {xs : List Value} (h : Lies w B (some ad) xs) : ∀ j u, xs[j]? = some u → w.cell? (ad.add j) = some u := fun j u hj => by
  obtain ⟨a, e, _, hc⟩ := h j u hj
  injection e with e
  subst e
  exact hc
/-- A row of the call's own with these bytes, written out. -/
theorem own_some {w : World} {B e : Nat} {v : Value} {l : List Int} (h : w.ownsRow B e 1 v l.length (l.map (Value.int .u8))) (hl : 0 < l.length) :
    ∃ g cap, v = .slice (some ⟨g, 0, none⟩) l.length cap ∧ Lies w w.heap.size (some ⟨g, 0, none⟩) (l.map (Value.int .u8)) := by
  obtain ⟨g, cap, rfl, _, _, _, _, hL⟩ := own_bytes h hl
  exact ⟨g, cap, rfl, hL⟩
end Go.Proofs.Ytikljohgdgibnaa
