/-
  Two rows of numbers of the call's own, apart, that grow by turns; a row of inequalities of the call's own. Plain lemmas; no conditions.
-/
import Derived.Test.YtncbmjpfbkngdaaLinSoundL
import Derived.Deep.AppendLies
namespace Go.Proofs.Ytncbmjpfbkngdaa
set_option maxRecDepth 100000
set_option linter.unusedVariables false
set_option linter.unusedSimpArgs false
open Go.ChangeShapes Go.WideShapes Go.ChangeAt Go.RowKit
set_option linter.unusedVariables false

structure Duo (w : World) (B : Nat) (a : Nat × Nat) (T : List Int) (b : Nat × Nat) (U : List Int) (x y : Option (Nat × Int)) : Prop where
  t : w.ownsRow B 3 1 (.slice (some ⟨a.1, 0, none⟩) T.length a.2) T.length (T.map (Value.int .i64))
  u : w.ownsRow B 3 1 (.slice (some ⟨b.1, 0, none⟩) U.length b.2) U.length (U.map (Value.int .i64))
  ne : a.1 ≠ b.1
  bx : ∀ p, x = some p → Whole w p.1 [.int .i64 p.2] 3 ∧ p.1 ≠ a.1 ∧ p.1 ≠ b.1
  by_ : ∀ p, y = some p → Whole w p.1 [.int .i64 p.2] 3 ∧ p.1 ≠ a.1 ∧ p.1 ≠ b.1
section
variable {w w' : World} {B : Nat} {a b : Nat × Nat} {T U : List Int} {x y : Option (Nat × Int)}
theorem own_lit {g n c e : Nat} {xs : List Value} (h : w.ownsRow B e 1 (.slice (some ⟨g, 0, none⟩) n c) n xs) : g < w.heap.size ∧ B ≤ g := ⟨(h.lt g rfl).2, (h.lt g rfl).1⟩
theorem Duo.lower {B' : Nat} (h : Duo w B a T b U x y) (hB : B' ≤ B) : Duo w B' a T b U x y := ⟨own_lower h.t hB, own_lower h.u hB, h.ne, h.bx, h.by_⟩
theorem Duo.below (h : Duo w B a T b U x y) (hb : Below w.heap.size w w') : Duo w' B a T b U x y :=
  ⟨own_below h.t hb (own_block_lt h.t), own_below h.u hb (own_block_lt h.u), h.ne, fun p hp => ⟨(h.bx p hp).1.keep hb (h.bx p hp).1.lt, (h.bx p hp).2⟩, fun p hp => ⟨(h.by_ p hp).1.keep hb (h.by_ p hp).1.lt, (h.by_ p hp).2⟩⟩
theorem Duo.forget (h : Duo w B a T b U x y) : Duo w B a T b U none none := ⟨h.t, h.u, h.ne, (fun _ h => nomatch h), (fun _ h => nomatch h)⟩
theorem Duo.boxX (h : Duo w B a T b U none y) (n : Int) : Duo (w.alloc (.cells #[.int .i64 n] 3)) B a T b U (some (w.heap.size, n)) y := by
  have hb := h.below (w' := w.alloc (.cells #[.int .i64 n] 3)) ((Below.refl _ _).alloc (Nat.le_refl _) _)
  have h1 := (own_lit h.t).1
  have h2 := (own_lit h.u).1
  exact ⟨hb.t, hb.u, hb.ne, fun p hp => by injection hp with hp; subst hp; exact ⟨Whole.new w [.int .i64 n] _, by dsimp only; omega, by dsimp only; omega⟩, hb.by_⟩
theorem Duo.boxY (h : Duo w B a T b U x none) (n : Int) : Duo (w.alloc (.cells #[.int .i64 n] 3)) B a T b U x (some (w.heap.size, n)) := by
  have hb := h.below (w' := w.alloc (.cells #[.int .i64 n] 3)) ((Below.refl _ _).alloc (Nat.le_refl _) _)
  have h1 := (own_lit h.t).1
  have h2 := (own_lit h.u).1
  exact ⟨hb.t, hb.u, hb.ne, hb.bx, fun p hp => by injection hp with hp; subst hp; exact ⟨Whole.new w [.int .i64 n] _, by dsimp only; omega, by dsimp only; omega⟩⟩
theorem whole_grown {g r : Nat} {vs : List Value} {e : TypeId} (h : Whole w g vs e) (hg : w.grownBy w' (some r)) (hne : g ≠ r) : Whole w' g vs e := (hg.block g h.lt (fun e => hne (by injection e))).trans h
theorem Duo.onT {n : Int} {g c : Nat} (h : Duo w B a T b U x y) (hg : w.grownBy w' (some a.1)) (hown : w'.ownsRow B 3 1 (.slice (some ⟨g, 0, none⟩) (T.length + 1) c) (T.length + 1) (T.map (Value.int .i64) ++ [.int .i64 n])) (hor : some a.1 = some g ∨ g = w.heap.size) : Duo w' B (g, c) (T ++ [n]) b U none y := by
  have h1 := (own_lit h.t).1
  have h2 := (own_lit h.u).1
  have hgu : g ≠ b.1 := by
    rcases hor with q | q
    · injection q with q; rw [← q]; exact h.ne
    · omega
  refine ⟨by simpa using hown, h.u.kept hg (Or.inr (fun e => h.ne (by simpa [Value.ownBlock] using e.symm))), hgu, (fun _ h => nomatch h), fun p hp => ?_⟩
  obtain ⟨q1, q2, q3⟩ := h.by_ p hp
  have := q1.lt
  refine ⟨whole_grown q1 hg q2, ?_, q3⟩
  rcases hor with q | q
  · injection q with q; dsimp only; omega
  · dsimp only; omega
theorem Duo.onU {n : Int} {g c : Nat} (h : Duo w B a T b U x y) (hg : w.grownBy w' (some b.1)) (hown : w'.ownsRow B 3 1 (.slice (some ⟨g, 0, none⟩) (U.length + 1) c) (U.length + 1) (U.map (Value.int .i64) ++ [.int .i64 n])) (hor : some b.1 = some g ∨ g = w.heap.size) : Duo w' B a T (g, c) (U ++ [n]) x none := by
  have h1 := (own_lit h.t).1
  have h2 := (own_lit h.u).1
  have hgu : a.1 ≠ g := by
    rcases hor with q | q
    · injection q with q; rw [← q]; exact h.ne
    · omega
  refine ⟨h.t.kept hg (Or.inr (fun e => h.ne (by simpa [Value.ownBlock] using e))), by simpa using hown, hgu, fun p hp => ?_, (fun _ h => nomatch h)⟩
  obtain ⟨q1, q2, q3⟩ := h.bx p hp
  have := q1.lt
  refine ⟨whole_grown q1 hg q3, q2, ?_⟩
  rcases hor with q | q
  · injection q with q; dsimp only; omega
  · dsimp only; omega
/-- Two empty ones. -/
theorem duo_new (w : World) : Duo ((w.alloc (.cells #[] 3)).alloc (.cells #[] 3)) w.heap.size (w.heap.size, 0) [] (w.heap.size + 1, 0) [] none none := by
  have h1 := own_below (own_empty w 3) ((Below.refl (w.alloc (.cells #[] 3)).heap.size _).alloc (Nat.le_refl _) (.cells #[] 3)) (own_block_lt (own_empty w 3))
  have h2 := own_lower (own_empty (w.alloc (.cells #[] 3)) 3) (show w.heap.size ≤ _ by simp)
  have hs : (w.alloc (.cells #[] 3)).heap.size = w.heap.size + 1 := by simp
  rw [hs] at h2
  exact ⟨h1, h2, by dsimp only; omega, (fun _ h => nomatch h), (fun _ h => nomatch h)⟩
theorem Duo.intsT (h : Duo w B a T b U x y) : SlcIs IntAt 1 w w.heap.size (some ⟨a.1, 0, none⟩) a.2 T := by
  obtain ⟨A, c, e, hs⟩ := own_slc14 h.t
  injection e with e1 e2 e3
  rw [e1, e3]
  exact hs
theorem Duo.intsU (h : Duo w B a T b U x y) : SlcIs IntAt 1 w w.heap.size (some ⟨b.1, 0, none⟩) b.2 U := by
  obtain ⟨A, c, e, hs⟩ := own_slc14 h.u
  injection e with e1 e2 e3
  rw [e1, e3]
  exact hs
/-- A cell in an old block, whatever is made. -/
theorem box_cell {g : Nat} {n : Int} (h : Whole w g [.int .i64 n] 3) : ∀ j u, [Value.int .i64 n][j]? = some u → w.cell? ((⟨g, 0, none⟩ : Addr).add j) = some u := fun j u hj => by
  match j, hj with
  | 0, hj => simp at hj; subst hj; exact h.cells 0 _ rfl
end
/-- Of a row that is written in, the two stay what they are. -/
theorem Duo.kept {w w' : World} {B r : Nat} {a b : Nat × Nat} {T U : List Int} (h : Duo w B a T b U none none) (hg : w.grownBy w' (some r)) (h1 : r ≠ a.1) (h2 : r ≠ b.1) : Duo w' B a T b U none none :=
  ⟨h.t.kept hg (Or.inr (fun e => h1 (by simpa [Value.ownBlock] using e.symm))), h.u.kept hg (Or.inr (fun e => h2 (by simpa [Value.ownBlock] using e.symm))), h.ne, (fun _ h => nomatch h), (fun _ h => nomatch h)⟩
/-- Rows of unlike things lie in unlike blocks. -/
theorem types_ne {w : World} {B B' e e' k k' n n' g g' c c' : Nat} {xs ys : List Value} (h : w.ownsRow B e k (.slice (some ⟨g, 0, none⟩) n c) n xs) (h' : w.ownsRow B' e' k' (.slice (some ⟨g', 0, none⟩) n' c') n' ys) (he : e ≠ e') : g ≠ g' := by
  rintro rfl
  rcases h.2 with ⟨h0, _⟩ | ⟨g1, c1, cur, hv, _, hh, _⟩
  · cases h0
  rcases h'.2 with ⟨h0, _⟩ | ⟨g2, c2, cur2, hv2, _, hh2, _⟩
  · cases h0
  injection hv with hv
  injection hv2 with hv2
  simp at hv hv2
  subst hv hv2
  rw [hh] at hh2
  injection hh2 with hh2
  injection hh2 with _ hh2
  exact he hh2
/-- Inequalities in a row of the call's own, their numbers elsewhere. -/
def InqsV (w : World) (xs : List Value) (L : List Inq) : Prop :=
  xs.length = L.length * 2 ∧ ∀ i q, L[i]? = some q → ∃ A c, xs[i * 2]? = some (.slice A q.1.length c) ∧ xs[i * 2 + 1]? = some (.int .i64 q.2) ∧ SlcIs IntAt 1 w w.heap.size A c q.1
theorem InqsV.nil (w : World) : InqsV w [] [] := ⟨rfl, fun i q h => by simp at h⟩
theorem InqsV.snoc {w : World} {xs : List Value} {L : List Inq} {Q : List Int} {m : Int} {A : Option Addr} {c : Nat} (h : InqsV w xs L) (hs : SlcIs IntAt 1 w w.heap.size A c Q) : InqsV w (xs ++ [.slice A Q.length c, .int .i64 m]) (L ++ [(Q, m)]) := by
  refine ⟨by rw [List.length_append, List.length_append, h.1]; simp; omega, fun i q hi => ?_⟩
  rcases Nat.lt_or_ge i L.length with hlt | hge
  · rw [List.getElem?_append_left hlt] at hi
    obtain ⟨A', c', e1, e2, e3⟩ := h.2 i q hi
    exact ⟨A', c', by rw [List.getElem?_append_left (by rw [h.1]; omega)]; exact e1, by rw [List.getElem?_append_left (by rw [h.1]; omega)]; exact e2, e3⟩
  · rw [List.getElem?_append_right hge] at hi
    have e : i - L.length = 0 := by
      rcases Nat.eq_zero_or_pos (i - L.length) with z | z
      · exact z
      · rw [List.getElem?_eq_none (by simp; omega)] at hi; cases hi
    rw [e] at hi
    injection hi with hi
    subst hi
    have ei : i = L.length := by omega
    subst ei
    refine ⟨A, c, ?_, ?_, hs⟩
    · rw [← h.1, List.getElem?_append_right (Nat.le_refl _), Nat.sub_self]; rfl
    · rw [← h.1, List.getElem?_append_right (by omega), Nat.add_sub_cancel_left]; rfl
theorem InqsV.row {w w' : World} {B n c g : Nat} {xs : List Value} {L : List Inq} (h : InqsV w xs L) (hb : Below w.heap.size w w') (ho : w'.ownsRow B 27 2 (.slice (some ⟨g, 0, none⟩) n c) n xs) (hn : L.length = n) : SlcIs IneqAt 2 w' w'.heap.size (some ⟨g, 0, none⟩) c L := by
  subst hn
  rcases ownK_slice ho with ⟨h0, _⟩ | ⟨g', c', e, h1, h2⟩
  · cases h0
  injection e with e1 e2 e3
  subst e3
  have hcell := (ownK_cell ho).2
  refine ⟨h1, h2, fun i q hi => ?_⟩
  obtain ⟨A, c', e1, e2, e3⟩ := h.2 i q hi
  have c0 := hcell _ _ e1
  have c1 := hcell _ _ e2
  have ea : (Addr.add ⟨g, 0, none⟩ (i * 2)) = ⟨g, i * 2, none⟩ := by
    simp [Addr.add]; omega
  exact ⟨_, rfl, c0.2, ⟨A, c', by rw [ea]; exact c0.1, lslcUp IntAt.keeps e3 hb⟩, by rw [ea]; exact c1.1⟩
theorem info_inq : (Try.prog.info? 27).map (fun i => (i.zero, i.size, i.bytes)) = some (some (.agg #[.slice none 0 0, .int .i64 0]), 2, 32) := by kernel_rfl
theorem lies_v2 (w : World) (u v : Value) (T : TypeId) : Lies (w.alloc (.cells #[u, v] T)) (w.alloc (.cells #[u, v] T)).heap.size (some ⟨w.heap.size, 0, none⟩) [u, v] := fun j x hj => by
  refine ⟨_, rfl, by simp, ?_⟩
  match j, hj with
  | 0, hj => simp at hj; subst hj; exact cells_new w [u, v] T 0 _ rfl
  | 1, hj => simp at hj; subst hj; exact cells_new w [u, v] T 1 _ rfl
theorem two_cellv {u v : Value} (h : u.oneCell' = true) (h' : v.oneCell' = true) : ∀ x ∈ [u, v], x.oneCell' = true := fun x hx => by
  simp at hx
  rcases hx with rfl | rfl
  · exact h
  · exact h'
end Go.Proofs.Ytncbmjpfbkngdaa
