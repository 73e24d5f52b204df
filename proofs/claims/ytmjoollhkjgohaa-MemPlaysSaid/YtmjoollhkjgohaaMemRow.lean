/-
  Fixed arenas, as they lie in memory: which block is what, and what keeps it. Plain definitions and lemmas; no conditions.
-/
import Derived.Test.YtmjoollhkjgohaaOnly
import Derived.Test.YtmjoollhkjgohaaOwnBlock
import Derived.Test.YtmjoollhkjgohaaMemMath
import Derived.Laws.CopyRow
import Derived.Laws.IdiomCopy
namespace Go.Proofs.Ytmjoollhkjgohaa
set_option maxRecDepth 100000
set_option linter.unusedVariables false
set_option linter.unusedSimpArgs false
open Go.ChangeShapes Go.WideShapes Go.ChangeAt Go.RowKit
set_option linter.unusedVariables false

def rgnV (r : Rgn) : List Value := [.bool r.there, .int .i64 (r.place : Int), .int .i64 (r.cells : Int)]
def rgnsV (l : List Rgn) : List Value := l.flatMap rgnV
def i32V (l : List Int) : List Value := l.map (Value.int .i32)
theorem i32V_len (l : List Int) : (i32V l).length = l.length := List.length_map ..
theorem i32V_at {l : List Int} {j : Nat} {x : Int} (h : l[j]? = some x) : (i32V l)[j]? = some (.int .i32 x) := by unfold i32V; rw [List.getElem?_map, h]; rfl
theorem i32V_lay (l us : List Int) (o : Nat) : (i32V l).take o ++ (i32V us ++ (i32V l).drop (o + (i32V us).length)) = i32V (l.take o ++ (us ++ l.drop (o + us.length))) := by
  rw [i32V_len]
  unfold i32V
  simp [List.map_append, List.map_take, List.map_drop]
theorem i32V_one (l : List Int) : ∀ u ∈ i32V l, u.oneCell' = true := fun u hu => by
  obtain ⟨x, _, rfl⟩ := List.mem_map.mp hu
  rfl
theorem rgnsV_len (l : List Rgn) : (rgnsV l).length = l.length * 3 := flat_length (f := rgnV) (k := 3) (fun _ => rfl) l
theorem rgnsV_one (l : List Rgn) : ∀ u ∈ rgnsV l, u.oneCell' = true := fun u hu => by
  obtain ⟨t, _, h⟩ := List.mem_flatMap.mp hu
  simp [rgnV] at h
  rcases h with rfl | rfl | rfl <;> rfl
theorem rgnsV_snoc (l : List Rgn) (r : Rgn) : rgnsV (l ++ [r]) = rgnsV l ++ rgnV r := by unfold rgnsV; rw [List.flatMap_append]; simp
theorem rgnsV_at {l : List Rgn} {i : Nat} {r : Rgn} (h : l[i]? = some r) : (rgnsV l)[i * 3]? = some (.bool r.there) ∧ (rgnsV l)[i * 3 + 1]? = some (.int .i64 (r.place : Int)) ∧ (rgnsV l)[i * 3 + 2]? = some (.int .i64 (r.cells : Int)) :=
  ⟨flat_get (f := rgnV) (k := 3) (fun _ => rfl) l i 0 r h (by decide), flat_get (f := rgnV) (k := 3) (fun _ => rfl) l i 1 r h (by decide), flat_get (f := rgnV) (k := 3) (fun _ => rfl) l i 2 r h (by decide)⟩
theorem rgnsV_set : ∀ (l : List Rgn) (i : Nat) (r : Rgn), i < l.length → rgnsV (l.set i r) = (((rgnsV l).set (i * 3) (.bool r.there)).set (i * 3 + 1) (.int .i64 (r.place : Int))).set (i * 3 + 2) (.int .i64 (r.cells : Int))
  | [], i, r, h => absurd h (Nat.not_lt_zero _)
  | x :: l, 0, r, h => rfl
  | x :: l, i + 1, r, h => by
    have ih := rgnsV_set l i r (Nat.lt_of_succ_lt_succ h)
    have e : ∀ (y : Rgn) (m : List Rgn), rgnsV (y :: m) = rgnV y ++ rgnsV m := fun y m => rfl
    rw [List.set_cons_succ, e, e, ih]
    have hl : (rgnV x).length = 3 := rfl
    rw [List.set_append_right _ _ (by rw [hl]; omega), List.set_append_right _ _ (by rw [hl]; omega), List.set_append_right _ _ (by rw [hl]; omega), hl]
    rw [show (i + 1) * 3 - 3 = i * 3 by omega, show (i + 1) * 3 + 1 - 3 = i * 3 + 1 by omega, show (i + 1) * 3 + 2 - 3 = i * 3 + 2 by omega]
theorem rgnsV_place : ∀ (l : List Rgn) (i p : Nat) (r : Rgn), l[i]? = some r → rgnsV (l.set i ⟨r.there, p, r.cells⟩) = (rgnsV l).set (i * 3 + 1) (.int .i64 (p : Int))
  | [], i, p, r, h => by simp at h
  | x :: l, 0, p, r, h => by
    simp at h
    subst h
    rfl
  | x :: l, i + 1, p, r, h => by
    have ih := rgnsV_place l i p r (by simpa using h)
    have e : ∀ (y : Rgn) (m : List Rgn), rgnsV (y :: m) = rgnV y ++ rgnsV m := fun y m => rfl
    rw [List.set_cons_succ, e, e, ih]
    have hl : (rgnV x).length = 3 := rfl
    rw [List.set_append_right _ _ (by rw [hl]; omega), hl]
    rw [show (i + 1) * 3 + 1 - 3 = i * 3 + 1 by omega]

/-- Where arenas lie: g the struct, gs the stack, gh the heap, a row of regions. -/
abbrev memV (S : Ara) (gs gh : Nat) (Ar : Option Addr) (cr : Nat) : List Value := [.slice (some ⟨gs, 0, none⟩) S.st.length S.st.length, .slice (some ⟨gh, 0, none⟩) S.hp.length S.hp.length, .slice Ar S.rg.length cr, .int .i64 (S.used : Int), .int .i64 (S.least : Int)]
structure MemIn (w : World) (B g gs gh : Nat) (S : Ara) (Ar : Option Addr) (cr : Nat) (ρ : Nat → Nat) : Prop where
  low : ∀ b, b < B → ρ b = 0
  new : ∀ b, w.heap.size ≤ b → ρ b = 0
  size : B ≤ w.heap.size
  blk : Whole w g (memV S gs gh Ar cr) 47
  stk : Whole w gs (i32V S.st) 21
  hpw : Whole w gh (i32V S.hp) 21
  rgs : w.ownsRow B 49 3 (.slice Ar S.rg.length cr) S.rg.length (rgnsV S.rg)
  r1 : ρ g = 1
  r2 : ρ gs = 2
  r3 : ρ gh = 3
  r4 : ∀ b, (Value.slice Ar S.rg.length cr).ownBlock = some b → ρ b = 4
/-- All blocks that are not the arenas' are as they were, and no block has come to them but new ones. -/
structure MemStay (w w' : World) (ρ ρ' : Nat → Nat) : Prop where
  os : w'.os = w.os
  tape : w'.tape = w.tape
  output : w'.output = w.output
  size : w.heap.size ≤ w'.heap.size
  block : ∀ b, b < w.heap.size → ρ b = 0 → w'.heap[b]? = w.heap[b]?
  role : ∀ b, b < w.heap.size → ρ' b = ρ b
section
variable {w w' w1 : World} {B g gs gh cr : Nat} {S : Ara} {Ar : Option Addr} {ρ ρ' ρ1 : Nat → Nat}
theorem MemStay.refl : MemStay w w ρ ρ := ⟨rfl, rfl, rfl, Nat.le_refl _, fun _ _ _ => rfl, fun _ _ => rfl⟩
theorem MemStay.trans (h : MemStay w w1 ρ ρ1) (h' : MemStay w1 w' ρ1 ρ') : MemStay w w' ρ ρ' := ⟨h'.os.trans h.os, h'.tape.trans h.tape, h'.output.trans h.output, Nat.le_trans h.size h'.size, fun b hb hr => (h'.block b (Nat.lt_of_lt_of_le hb h.size) (by rw [h.role b hb]; exact hr)).trans (h.block b hb hr), fun b hb => (h'.role b (Nat.lt_of_lt_of_le hb h.size)).trans (h.role b hb)⟩
theorem MemStay.only {r : Nat} (h : Only w w' ρ r) (hr : r ≠ 0) : MemStay w w' ρ ρ := ⟨h.os, h.tape, h.output, h.size, fun b hb e => h.block b hb (by rw [e]; exact fun e => hr e.symm), fun _ _ => rfl⟩
theorem MemStay.below (h : Below w.heap.size w w') : MemStay w w' ρ ρ := ⟨h.os, h.tape, h.output, h.size, fun b hb _ => h.block b hb, fun _ _ => rfl⟩
theorem MemStay.low (h : MemStay w w' ρ ρ') (hl : ∀ b, b < B → ρ b = 0) (hB : B ≤ w.heap.size) : Below B w w' := ⟨h.os, h.tape, h.output, h.size, fun b hb => h.block b (Nat.lt_of_lt_of_le hb hB) (hl b hb)⟩
theorem whole_mem {b : Nat} {vs : List Value} {T : TypeId} (h : Whole w b vs T) (hO : MemStay w w' ρ ρ') (hr : ρ b = 0) : Whole w' b vs T := (hO.block b (Whole.lt h) hr).trans h
theorem own_mem {B0 e k n : Nat} {v : Value} {xs : List Value} (h : w.ownsRow B0 e k v n xs) (hO : MemStay w w' ρ ρ') (hr : ∀ b, v.ownBlock = some b → ρ b = 0) : w'.ownsRow B0 e k v n xs := by
  have hlt := own_block_lt h
  refine ⟨h.1, ?_⟩
  rcases h.2 with h0 | ⟨q, cap, cur, hv, hg, hh, rest⟩
  · exact .inl h0
  · exact .inr ⟨q, cap, cur, hv, hg, (hO.block q (hlt q (by rw [hv]; rfl)) (hr q (by rw [hv]; rfl))).trans hh, rest⟩
structure MemBut (w : World) (B g gs gh : Nat) (S : Ara) (Ar : Option Addr) (cr : Nat) (ρ : Nat → Nat) (r : Nat) : Prop where
  low : ∀ b, b < B → ρ b = 0
  new : ∀ b, w.heap.size ≤ b → ρ b = 0
  size : B ≤ w.heap.size
  blk : r ≠ 1 → Whole w g (memV S gs gh Ar cr) 47
  stk : r ≠ 2 → Whole w gs (i32V S.st) 21
  hpw : r ≠ 3 → Whole w gh (i32V S.hp) 21
  rgs : r ≠ 4 → w.ownsRow B 49 3 (.slice Ar S.rg.length cr) S.rg.length (rgnsV S.rg)
  r1 : ρ g = 1
  r2 : ρ gs = 2
  r3 : ρ gh = 3
  r4 : r ≠ 4 → ∀ b, (Value.slice Ar S.rg.length cr).ownBlock = some b → ρ b = 4
theorem MemIn.moveS (h : MemIn w B g gs gh S Ar cr ρ) {r : Nat} (hO : Only w w' ρ r) : MemBut w' B g gs gh S Ar cr ρ r where
  low := h.low
  new := fun b hb => h.new b (Nat.le_trans hO.size hb)
  size := Nat.le_trans h.size hO.size
  blk := fun hr => whole_only h.blk hO (by rw [h.r1]; exact fun e => hr e.symm)
  stk := fun hr => whole_only h.stk hO (by rw [h.r2]; exact fun e => hr e.symm)
  hpw := fun hr => whole_only h.hpw hO (by rw [h.r3]; exact fun e => hr e.symm)
  rgs := fun hr => own_only h.rgs hO (fun b hb => by rw [h.r4 b hb]; exact fun e => hr e.symm)
  r1 := h.r1
  r2 := h.r2
  r3 := h.r3
  r4 := fun _ => h.r4
/-- Nothing of it has changed. -/
theorem MemIn.far (h : MemIn w B g gs gh S Ar cr ρ) (hO : Only w w' ρ 0) : MemIn w' B g gs gh S Ar cr ρ :=
  let q := h.moveS hO
  ⟨q.low, q.new, q.size, q.blk (by decide), q.stk (by decide), q.hpw (by decide), q.rgs (by decide), q.r1, q.r2, q.r3, q.r4 (by decide)⟩
theorem MemIn.keep (h : MemIn w B g gs gh S Ar cr ρ) (hb : Below w.heap.size w w') : MemIn w' B g gs gh S Ar cr ρ := h.far (Only.below hb)
theorem MemIn.lt (h : MemIn w B g gs gh S Ar cr ρ) : g < w.heap.size ∧ gs < w.heap.size ∧ gh < w.heap.size := ⟨Whole.lt h.blk, Whole.lt h.stk, Whole.lt h.hpw⟩
theorem MemIn.ge (h : MemIn w B g gs gh S Ar cr ρ) : B ≤ g ∧ B ≤ gs ∧ B ≤ gh := by
  have hx : ∀ x r, ρ x = r → r ≠ 0 → B ≤ x := fun x r e hr => by
    rcases Nat.lt_or_ge x B with q | q
    · rw [h.low x q] at e; exact absurd e.symm hr
    · exact q
  exact ⟨hx g 1 h.r1 (by decide), hx _ 2 h.r2 (by decide), hx _ 3 h.r3 (by decide)⟩
/-- A number of the struct's. -/
theorem MemIn.used (h : MemIn w B g gs gh S Ar cr ρ) {k : Nat} {z : Int} (hz : z = (k : Int)) : MemIn (w.setCell ⟨g, 3, none⟩ (.int .i64 z)) B g gs gh { S with used := k } Ar cr ρ :=
  let q := h.moveS (r := 1) (Only.cell (a := ⟨g, 3, none⟩) h.r1 (.int .i64 z))
  ⟨q.low, q.new, q.size, by have := Whole.set h.blk 3 (.int .i64 z); subst hz; exact this, q.stk (by decide), q.hpw (by decide), q.rgs (by decide), q.r1, q.r2, q.r3, q.r4 (by decide)⟩
theorem MemIn.least (h : MemIn w B g gs gh S Ar cr ρ) {k : Nat} {z : Int} (hz : z = (k : Int)) : MemIn (w.setCell ⟨g, 4, none⟩ (.int .i64 z)) B g gs gh { S with least := k } Ar cr ρ :=
  let q := h.moveS (r := 1) (Only.cell (a := ⟨g, 4, none⟩) h.r1 (.int .i64 z))
  ⟨q.low, q.new, q.size, by have := Whole.set h.blk 4 (.int .i64 z); subst hz; exact this, q.stk (by decide), q.hpw (by decide), q.rgs (by decide), q.r1, q.r2, q.r3, q.r4 (by decide)⟩
/-- A cell of the heap. -/
theorem MemIn.heap (h : MemIn w B g gs gh S Ar cr ρ) (j : Nat) (v : Int) : MemIn (w.setCell ⟨gh, j, none⟩ (.int .i32 v)) B g gs gh { S with hp := S.hp.set j v } Ar cr ρ :=
  let q := h.moveS (r := 3) (Only.cell (a := ⟨gh, j, none⟩) h.r3 (.int .i32 v))
  ⟨q.low, q.new, q.size, by have := q.blk (by decide); unfold memV at this ⊢; dsimp only; rw [List.length_set]; exact this, q.stk (by decide), by have := Whole.set h.hpw j (.int .i32 v); unfold i32V at this ⊢; dsimp only; rw [List.map_set]; exact this, q.rgs (by decide), q.r1, q.r2, q.r3, q.r4 (by decide)⟩
/-- All of the heap anew. -/
theorem MemIn.heaps (h : MemIn w B g gs gh S Ar cr ρ) (hO : Only w w' ρ 3) {hp : List Int} (hl : hp.length = S.hp.length) (hw : Whole w' gh (i32V hp) 21) : MemIn w' B g gs gh { S with hp := hp } Ar cr ρ :=
  let q := h.moveS hO
  ⟨q.low, q.new, q.size, by have := q.blk (by decide); unfold memV at this ⊢; dsimp only; rw [hl]; exact this, q.stk (by decide), hw, q.rgs (by decide), q.r1, q.r2, q.r3, q.r4 (by decide)⟩
/-- The block of the regions. -/
theorem MemIn.row (h : MemIn w B g gs gh S Ar cr ρ) (hn : 0 < S.rg.length) : ∃ gr, Ar = some ⟨gr, 0, none⟩ ∧ S.rg.length ≤ cr ∧ cr ≤ 9223372036854775807 ∧ ρ gr = 4 ∧ gr < w.heap.size := by
  rcases ownK_slice h.rgs with ⟨_, q⟩ | ⟨gr, c, e, h1, h2⟩
  · omega
  · injection e with e1 e2 e3
    subst e1 e3
    refine ⟨gr, rfl, h1, h2, h.r4 gr rfl, own_block_lt h.rgs gr rfl⟩
theorem MemIn.rcap (h : MemIn w B g gs gh S Ar cr ρ) : S.rg.length ≤ cr ∧ cr ≤ 9223372036854775807 := by
  rcases ownK_slice h.rgs with ⟨e, q⟩ | ⟨gr, c, e, h1, h2⟩
  · injection e with e1 e2 e3
    subst e3
    omega
  · injection e with e1 e2 e3
    subst e3
    exact ⟨h1, h2⟩
/-- A region is set. -/
theorem MemIn.set {gr : Nat} (h : MemIn w B g gs gh S (some ⟨gr, 0, none⟩) cr ρ) {n : Nat} (hn : n < S.rg.length) (r : Rgn) {zp zc : Int} (hp : zp = (r.place : Int)) (hc : zc = (r.cells : Int)) :
    MemIn (((w.setCell ⟨gr, n * 3, none⟩ (.bool r.there)).setCell ⟨gr, n * 3 + 1, none⟩ (.int .i64 zp)).setCell ⟨gr, n * 3 + 2, none⟩ (.int .i64 zc)) B g gs gh { S with rg := S.rg.set n r } (some ⟨gr, 0, none⟩) cr ρ :=
  have r4 := h.r4 gr rfl
  let q := h.moveS (r := 4) (((Only.cell (a := ⟨gr, n * 3, none⟩) r4 (.bool r.there)).trans (Only.cell (a := ⟨gr, n * 3 + 1, none⟩) r4 (.int .i64 zp))).trans (Only.cell (a := ⟨gr, n * 3 + 2, none⟩) r4 (.int .i64 zc)))
  ⟨q.low, q.new, q.size, by have := q.blk (by decide); unfold memV at this ⊢; dsimp only; rw [List.length_set]; exact this, q.stk (by decide), q.hpw (by decide),
    by
      have := own_turn (j := n * 3 + 2) (own_turn (j := n * 3 + 1) (own_turn (j := n * 3) h.rgs (.bool r.there)) (.int .i64 zp)) (.int .i64 zc)
      subst hp hc
      dsimp only
      rw [rgnsV_set _ _ _ hn, List.length_set]
      exact this, q.r1, q.r2, q.r3, by dsimp only; rw [List.length_set]; exact h.r4⟩
theorem MemIn.place {gr : Nat} (h : MemIn w B g gs gh S (some ⟨gr, 0, none⟩) cr ρ) {n p : Nat} {r : Rgn} (hr : S.rg[n]? = some r) {zp : Int} (hp : zp = (p : Int)) :
    MemIn (w.setCell ⟨gr, n * 3 + 1, none⟩ (.int .i64 zp)) B g gs gh { S with rg := S.rg.set n ⟨r.there, p, r.cells⟩ } (some ⟨gr, 0, none⟩) cr ρ :=
  have r4 := h.r4 gr rfl
  let q := h.moveS (r := 4) (Only.cell (a := ⟨gr, n * 3 + 1, none⟩) r4 (.int .i64 zp))
  ⟨q.low, q.new, q.size, by have := q.blk (by decide); unfold memV at this ⊢; dsimp only; rw [List.length_set]; exact this, q.stk (by decide), q.hpw (by decide),
    by
      have := own_turn (j := n * 3 + 1) h.rgs (.int .i64 zp)
      subst hp
      dsimp only
      rw [rgnsV_place _ _ _ _ hr, List.length_set]
      exact this, q.r1, q.r2, q.r3, by dsimp only; rw [List.length_set]; exact h.r4⟩
theorem setCells_whole {T : TypeId} : ∀ (us : List Value) (o : Nat) (w : World) (vs : List Value), Whole w g vs T → o + us.length ≤ vs.length → Whole (w.setCells g o us) g (vs.take o ++ (us ++ vs.drop (o + us.length))) T
  | [], o, w, vs, h, _ => by
    rw [List.nil_append, List.length_nil, Nat.add_zero, List.take_append_drop]
    exact h
  | v :: us, o, w, vs, h, hl => by
    have hl' : o + (us.length + 1) ≤ vs.length := hl
    have ih := setCells_whole us (o + 1) _ _ (Whole.set h o v) (by rw [List.length_set]; omega)
    rw [← List.append_assoc, list_seg_step vs o v us hl', List.append_assoc] at ih
    exact ih
theorem setCells_only {r : Nat} (h : ρ g = r) : ∀ (us : List Value) (o : Nat) (w : World), Only w (w.setCells g o us) ρ r
  | [], _, _ => Only.refl
  | v :: us, o, w => (Only.cell (a := ⟨g, o, none⟩) h v).trans (setCells_only h us (o + 1) _)
/-- A region more in the row. -/
theorem MemIn.app (h : MemIn w B g gs gh S Ar cr ρ) {o : Obj} {g9 c9 : Nat} {w9 : World} {r : Rgn} (hown : w9.ownsRow B 49 3 (.slice (some ⟨g9, 0, none⟩) (S.rg.length + 1) c9) (S.rg.length + 1) (rgnsV S.rg ++ rgnV r))
    (hgrow : (w.alloc o).grownBy w9 (Value.slice Ar S.rg.length cr).ownBlock) (hor : (Value.slice Ar S.rg.length cr).ownBlock = some g9 ∨ g9 = (w.alloc o).heap.size) (hlt9 : g9 < w9.heap.size) :
    MemIn (w9.setCell ⟨g, 2, none⟩ (.slice (some ⟨g9, 0, none⟩) (S.rg.length + 1) c9)) B g gs gh { S with rg := S.rg ++ [r] } (some ⟨g9, 0, none⟩) c9 (upd ρ g9 4) ∧ MemStay w (w9.setCell ⟨g, 2, none⟩ (.slice (some ⟨g9, 0, none⟩) (S.rg.length + 1) c9)) ρ (upd ρ g9 4) := by
  have hO := app_only h.r4 hgrow
  have hN := app_new h.r4 hor
  have hu := upd_role hN
  obtain ⟨l1, l2, l3⟩ := h.lt
  have hrole : ∀ b, b < w.heap.size → upd ρ g9 4 b = ρ b := fun b hb => by
    by_cases e : b = g9
    · subst e
      rw [upd_at]
      rcases hN with q | q
      · exact q.symm
      · omega
    · exact upd_ne _ _ e
  have r1 : upd ρ g9 4 g = 1 := by rw [hrole g l1, h.r1]
  have r2 : upd ρ g9 4 gs = 2 := by rw [hrole gs l2, h.r2]
  have r3 : upd ρ g9 4 gh = 3 := by rw [hrole gh l3, h.r3]
  have hO2 : Only w9 (w9.setCell ⟨g, 2, none⟩ (.slice (some ⟨g9, 0, none⟩) (S.rg.length + 1) c9)) (upd ρ g9 4) 1 := Only.cell (a := ⟨g, 2, none⟩) r1 _
  have hs : w.heap.size ≤ (w9.setCell ⟨g, 2, none⟩ (.slice (some ⟨g9, 0, none⟩) (S.rg.length + 1) c9)).heap.size := Nat.le_trans hO.size hO2.size
  have hBg := (ownK_cell hown).1
  have hlen : (S.rg ++ [r]).length = S.rg.length + 1 := by simp
  refine ⟨⟨fun b hb => ?_, fun b hb => ?_, Nat.le_trans h.size hs, ?_, ?_, ?_, ?_, r1, r2, r3, fun b hb => ?_⟩, ⟨hO2.os.trans hO.os, hO2.tape.trans hO.tape, hO2.output.trans hO.output, hs, fun b hb hr => ?_, hrole⟩⟩
  · rw [upd_ne _ _ (by omega)]; exact h.low b hb
  · rw [upd_ne _ _ (by have := hO2.size; omega)]; exact h.new b (by omega)
  · have := Whole.set (whole_only h.blk hO (by rw [h.r1]; decide)) 2 (.slice (some ⟨g9, 0, none⟩) (S.rg.length + 1) c9)
    unfold memV at this ⊢
    dsimp only at this ⊢
    rw [hlen]
    exact this
  · exact whole_only (whole_only h.stk hO (by rw [h.r2]; decide)) hO2 (by rw [r2]; decide)
  · exact whole_only (whole_only h.hpw hO (by rw [h.r3]; decide)) hO2 (by rw [r3]; decide)
  · dsimp only
    rw [hlen, rgnsV_snoc]
    refine own_only hown hO2 (fun b hb => ?_)
    have : g9 = b := by simpa [Value.ownBlock] using hb
    subst this
    rw [upd_at]
    decide
  · have : g9 = b := by simpa [Value.ownBlock] using hb
    subst this
    exact upd_at _ _ _
  · refine (hO2.block b (Nat.lt_of_lt_of_le hb hO.size) (by rw [hrole b hb, hr]; decide)).trans (hO.block b hb (by rw [hr]; decide))
theorem MemIn.app' (h : MemIn w B g gs gh S Ar cr ρ) {o : Obj} {g9 c9 k : Nat} {w9 : World} {r : Rgn} (hk : S.rg.length = k) (hown : w9.ownsRow B 49 3 (.slice (some ⟨g9, 0, none⟩) (k + 1) c9) (k + 1) (rgnsV S.rg ++ rgnV r))
    (hgrow : (w.alloc o).grownBy w9 (Value.slice Ar k cr).ownBlock) (hor : (Value.slice Ar k cr).ownBlock = some g9 ∨ g9 = (w.alloc o).heap.size) (hlt9 : g9 < w9.heap.size) :
    MemIn (w9.setCell ⟨g, 2, none⟩ (.slice (some ⟨g9, 0, none⟩) (k + 1) c9)) B g gs gh { S with rg := S.rg ++ [r] } (some ⟨g9, 0, none⟩) c9 (upd ρ g9 4) ∧ MemStay w (w9.setCell ⟨g, 2, none⟩ (.slice (some ⟨g9, 0, none⟩) (k + 1) c9)) ρ (upd ρ g9 4) := by
  subst hk
  exact h.app hown hgrow hor hlt9
end
end Go.Proofs.Ytmjoollhkjgohaa
