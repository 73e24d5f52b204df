/-
  What changes in blocks of one part to play alone. Plain definitions and lemmas; no conditions.
-/
import Derived.Test.YtmjoollhkjgohaaRowI
import Derived.Test.YtmjoollhkjgohaaOwnTurn
namespace Go.Proofs.Ytmjoollhkjgohaa
set_option maxRecDepth 100000
set_option linter.unusedVariables false
set_option linter.unusedSimpArgs false
open Go.ChangeShapes Go.WideShapes Go.ChangeAt Go.RowKit
set_option linter.unusedVariables false

/-- Only blocks of one part to play have changed, and those that are new. -/
structure Only (w w' : World) (ρ : Nat → Nat) (r : Nat) : Prop where
  os : w'.os = w.os
  tape : w'.tape = w.tape
  output : w'.output = w.output
  size : w.heap.size ≤ w'.heap.size
  block : ∀ b, b < w.heap.size → ρ b ≠ r → w'.heap[b]? = w.heap[b]?
theorem Only.refl {w : World} {ρ : Nat → Nat} {r : Nat} : Only w w ρ r := ⟨rfl, rfl, rfl, Nat.le_refl _, fun _ _ _ => rfl⟩
theorem Only.cell {w : World} {ρ : Nat → Nat} {r : Nat} {a : Addr} (h : ρ a.block = r) (v : Value) : Only w (w.setCell a v) ρ r := ⟨rfl, rfl, rfl, by simp, fun b _ hr => Below.heap_setCell w a v b (fun e => hr (by rw [e]; exact h))⟩
theorem Only.grown {w w' : World} {ρ : Nat → Nat} {r : Nat} {row : Option Nat} (hg : w.grownBy w' row) (h : ∀ b, row = some b → ρ b = r) : Only w w' ρ r := ⟨hg.os, hg.tape, hg.output, hg.size, fun b hb hr => hg.block b hb (fun e => hr (h b e.symm))⟩
theorem Only.below {w w' : World} {ρ : Nat → Nat} {r : Nat} (h : Below w.heap.size w w') : Only w w' ρ r := ⟨h.os, h.tape, h.output, h.size, fun b hb _ => h.block b hb⟩
theorem Only.trans {w w1 w2 : World} {ρ : Nat → Nat} {r : Nat} (h : Only w w1 ρ r) (h' : Only w1 w2 ρ r) : Only w w2 ρ r := ⟨h'.os.trans h.os, h'.tape.trans h.tape, h'.output.trans h.output, Nat.le_trans h.size h'.size, fun b hb hr => (h'.block b (Nat.lt_of_lt_of_le hb h.size) hr).trans (h.block b hb hr)⟩
theorem Only.low {w w' : World} {ρ : Nat → Nat} {r B : Nat} (h : Only w w' ρ r) (hl : ∀ b, b < B → ρ b = 9) (hB : B ≤ w.heap.size) (hr : r ≠ 9) : Below B w w' := ⟨h.os, h.tape, h.output, h.size, fun b hb => h.block b (Nat.lt_of_lt_of_le hb hB) (by rw [hl b hb]; exact fun e => hr e.symm)⟩
/-- The world with nothing of it changed but blocks, from one below on. -/
theorem whole_only {w w' : World} {ρ : Nat → Nat} {r g : Nat} {vs : List Value} {T : TypeId} (h : Whole w g vs T) (hO : Only w w' ρ r) (hr : ρ g ≠ r) : Whole w' g vs T := (hO.block g (Whole.lt h) hr).trans h
theorem own_only {w w' : World} {ρ : Nat → Nat} {r B e k n : Nat} {v : Value} {xs : List Value} (h : w.ownsRow B e k v n xs) (hO : Only w w' ρ r) (hr : ∀ b, v.ownBlock = some b → ρ b ≠ r) : w'.ownsRow B e k v n xs := by
  have hlt := own_block_lt h
  refine ⟨h.1, ?_⟩
  rcases h.2 with h0 | ⟨g, cap, cur, hv, hg, hh, rest⟩
  · exact .inl h0
  · exact .inr ⟨g, cap, cur, hv, hg, (hO.block g (hlt g (by rw [hv]; rfl)) (hr g (by rw [hv]; rfl))).trans hh, rest⟩
theorem upd_role {w : World} {ρ : Nat → Nat} {N r : Nat} (hN : ρ N = r ∨ w.heap.size ≤ N) : ∀ b, b < w.heap.size → ρ b ≠ r → upd ρ N r b = ρ b := fun b hb hr => by
  refine upd_ne _ _ (fun e => ?_)
  subst e
  rcases hN with q | q
  · exact hr q
  · omega
theorem app_only {w w9 : World} {o : Obj} {v : Value} {ρ : Nat → Nat} {r : Nat} (hlt : ∀ b, v.ownBlock = some b → ρ b = r) (hg : (w.alloc o).grownBy w9 v.ownBlock) : Only w w9 ρ r :=
  (Only.below ((Below.refl _ _).alloc (Nat.le_refl _) o)).trans (Only.grown hg hlt)
theorem app_new {w : World} {o : Obj} {v : Value} {ρ : Nat → Nat} {r N : Nat} (hlt : ∀ b, v.ownBlock = some b → ρ b = r) (hor : v.ownBlock = some N ∨ N = (w.alloc o).heap.size) : ρ N = r ∨ w.heap.size ≤ N := by
  rcases hor with q | q
  · exact .inl (hlt N q)
  · exact .inr (by simp at q; omega)
theorem app_own {g9 k c r : Nat} {ρ : Nat → Nat} : ∀ b, (Value.slice (some ⟨g9, 0, none⟩) k c).ownBlock = some b → upd ρ g9 r b = r := fun b hb => by
  have : g9 = b := by simpa [Value.ownBlock] using hb
  subst this
  exact upd_at _ _ _
end Go.Proofs.Ytmjoollhkjgohaa
