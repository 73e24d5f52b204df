/-
  What stands in memory of the call's own, while a row is turned in place; instructions that may be written. Plain lemmas; no conditions.
-/
import Derived.Test.YtikljohgdgibnaaImgCopied
namespace Go.Proofs.Ytikljohgdgibnaa
set_option maxRecDepth 100000
open Go.ChangeShapes Go.WideShapes Go.ChangeAt Go.RowKit
set_option linter.unusedVariables false

section
variable {α : Type} {P : ElP α} {S : Nat → Bool} {W W' w2 w3 : World} {vs : List Value} {x : α} {base g n c : Nat}
theorem hn_new (hM : EMono P) (h : P (Hole (old w2) w3) vs x) (hb : base ≤ w2.heap.size) (hg : g < w2.heap.size) : P (Hole (rowS base (.slice (some ⟨g, 0, none⟩) n c)) w3) vs x :=
  elHole hM h (Nat.le_refl _) fun b _ hs => ⟨rowS_no.mpr ⟨by have := old_no.mp hs; omega, fun e => by have := old_no.mp hs; have e : g = b := (by simpa [Value.ownBlock] using e); omega⟩, rfl⟩
theorem hn_below (hM : EMono P) (h : P (Hole S W) vs x) (hb : Below W.heap.size W W') : P (Hole S W') vs x :=
  elHole hM h hb.size fun b hb' hs => ⟨hs, hb.block b hb'⟩
theorem hn_turn (hM : EMono P) (h : P (Hole (rowS base (.slice (some ⟨g, 0, none⟩) n c)) W) vs x) (i : Nat) (u : Value) : P (Hole (rowS base (.slice (some ⟨g, 0, none⟩) n c)) (W.setCell ⟨g, i, none⟩ u)) vs x :=
  elHole hM h (by simp) fun b hb' hs => ⟨hs, Below.heap_setCell _ _ _ _ (fun e => (rowS_no.mp hs).2 (by have e : b = g := e; simp [Value.ownBlock, e]))⟩
end
/-- A slice that stands, as a thing of its own. -/
def ElS {α : Type} (At : AtP α) (k : Nat) (A : Option Addr) (c : Nat) : ElP (List α) := fun W _ l => SlcIs At k W W.heap.size A c l
theorem ElS.mono {α : Type} {At : AtP α} (hK : Mono At) {k : Nat} {A : Option Addr} {c : Nat} : EMono (ElS At k A c) := fun _ _ _ _ h hs hc => SlcIs.mono hK h hs (fun q v h1 h2 => (hc q v h1 h2).1)
def ElF (A : Option Addr) (c : Nat) : ElP (List (Int × Int × Int)) := fun W _ l => SlcIs CodeAt 3 W W.heap.size A c l ∧ ∀ (k : Nat) (ad : Addr), k < l.length → A = some ad → W.frozen? (ad.add (k * 3)) = false
theorem ElF.mono {A : Option Addr} {c : Nat} : EMono (ElF A c) := fun _ _ _ _ ⟨h4, h8⟩ hs hc => ⟨h4.mono CodeAt.mono hs (fun q v h1 h2 => (hc q v h1 h2).1), fun k ad hk e => by
    obtain ⟨ad', e', hb, hcell⟩ := h4.row.at_ hk
    rw [e] at e'
    injection e' with e'
    subst e'
    rw [(hc _ _ (by rw [addr_add_block]; exact hb) hcell.1).2]
    exact h8 k ad hk e⟩
theorem elS_of {α : Type} {At : AtP α} {k : Nat} {A : Option Addr} {c : Nat} {l : List α} {w w' : World} (h : SlcIs At k (Hole (old w) w') w'.heap.size A c l) : ElS At k A c (Hole (old w) w') [] l := by
  unfold ElS
  rw [hole_size]
  exact h
theorem elF_of {A : Option Addr} {c : Nat} {l : List (Int × Int × Int)} {w w' : World} (h : SlcIs CodeAt 3 (Hole (old w) w') w'.heap.size A c l) (hf : ∀ ad, A = some ad → w.heap.size ≤ ad.block ∧ ∀ j, w'.frozen? (ad.add j) = false) : ElF A c (Hole (old w) w') [] l := by
  unfold ElF
  rw [hole_size]
  refine ⟨h, fun k ad hk e => ?_⟩
  obtain ⟨h1, h2⟩ := hf ad e
  rw [hole_frozen (by rw [addr_add_block]; exact old_no.mpr h1)]
  exact h2 _

/-- Instructions of methods that may be written, in blocks from lo up to hi. -/
def OwnAt (lo hi : Nat) (w : World) (A : Option Addr) (l : List Mth) : Prop :=
  ∀ (i : Nat) (x : Mth), l[i]? = some x → ∃ am, A = some am ∧ lo ≤ am.block ∧ am.block < hi ∧ ∀ k, k < x.code.length → ∃ ad cap, w.cell? (off_ (am.add (i * 8)) 4) = some (.slice (some ad) x.code.length cap) ∧ lo ≤ ad.block ∧ ad.block < hi ∧ ad.block ≠ am.block ∧ w.frozen? (ad.add (k * 3)) = false
theorem OwnAt.keep {lo hi : Nat} {w w' : World} {A : Option Addr} {l : List Mth} (h : OwnAt lo hi w A l) (hs : ∀ b, lo ≤ b → b < hi → w'.heap[b]? = w.heap[b]?) : OwnAt lo hi w' A l := fun i x hx => by
  obtain ⟨am, e, h1, h2, h3⟩ := h i x hx
  refine ⟨am, e, h1, h2, fun k hk => ?_⟩
  obtain ⟨ad, cap, g1, g2, g3, g4, g5⟩ := h3 k hk
  have e1 : (off_ (am.add (i * 8)) 4).block = am.block := addr_add_block _ _
  have e2 : (ad.add (k * 3)).block = ad.block := addr_add_block _ _
  exact ⟨ad, cap, (World.cell?_of_block (w := w) (hs _ (by rw [e1]; exact h1) (by rw [e1]; exact h2))).trans g1, g2, g3, g4, (World.frozen?_of_block (w := w) (hs _ (by rw [e2]; exact g2) (by rw [e2]; exact g3))).trans g5⟩
theorem own_at {w : World} {base e n c : Nat} {A : Option Addr} {l : List Mth} (h : RowEl ElMthO w base e 8 (.slice A n c) l) : OwnAt base w.heap.size w A l := fun i x hx => by
  obtain ⟨vss, h1, h2, h3, h4⟩ := h
  have hi : i < l.length := by
    rcases Nat.lt_or_ge i l.length with h | h
    · exact h
    · rw [List.getElem?_eq_none h] at hx; cases hx
  have hvs : vss[i]? = some vss[i] := List.getElem?_eq_getElem (by omega)
  have hel := h4 i _ x hvs hx
  rcases ownK_slice h3 with ⟨hv, hn⟩ | ⟨g, c', hv, _, _⟩
  · omega
  · injection hv with e1 e2 e3
    subst e1 e2 e3
    obtain ⟨hb, hcell⟩ := ownK_cell h3
    obtain ⟨hf, _, hgl⟩ := own_freeK h3 0
    refine ⟨⟨g, 0, none⟩, rfl, hb, hgl, fun k hk => ?_⟩
    obtain ⟨A0, k0, A1, k1, A4, k4, A7, k7, evs, _, _, s4, _, s8⟩ := hel
    obtain ⟨ad, ea, hab, hc⟩ := s4.row.at_ hk
    have hS := (hole_cell.mp hc.1).1
    rw [addr_add_block] at hS
    obtain ⟨t1, t2⟩ := rowS_no.mp hS
    have hcs := (hcell (i * 8 + 4) (.slice A4 x.code.length k4) (by rw [flatten_get vss i 4 _ h2 hvs (by decide), evs]; rfl)).1
    refine ⟨ad, k4, ?_, t1, by rw [hole_size] at hab; exact hab, fun e => t2 (by simp [Value.ownBlock, e]), ?_⟩
    · rw [← ea]
      have e : off_ (Addr.add ⟨g, 0, none⟩ (i * 8)) 4 = ⟨g, i * 8 + 4, none⟩ := by
        unfold off_ Addr.add; split
        · rename_i h0; rw [h0]
        · simp
      rw [e]
      exact hcs
    · have := s8 k ad hk ea
      rwa [hole_frozen (by rw [addr_add_block]; exact hS)] at this
end Go.Proofs.Ytikljohgdgibnaa
