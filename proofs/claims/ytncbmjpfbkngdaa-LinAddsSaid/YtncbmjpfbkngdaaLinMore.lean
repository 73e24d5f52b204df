/-
  A row of inequalities that is appended whole, at an operation under a guard; small numbers twice. Plain lemmas; no conditions.
-/
import Derived.Test.YtncbmjpfbkngdaaLinDuo
namespace Go.Proofs.Ytncbmjpfbkngdaa
set_option maxRecDepth 100000
set_option linter.unusedVariables false
set_option linter.unusedSimpArgs false
open Go.ChangeShapes Go.WideShapes Go.ChangeAt Go.RowKit
set_option linter.unusedVariables false

theorem step_appG {P : Program} {w : World} {ops : Array Oper} {o : Oper} {a : Act} {K : Act → World → Prop} {Q : Exit → Act → World → Prop} {E : Prop} (hw : Region.wanted o (yielded ops a.tmps) = true) (s x : Operand) (t : TypeId)
    (ho : o.op = .call { callee := .builtin .append, args := #[s, x], argTypes := #[t, t] })
    (base : Nat) (e : TypeId) (i : TypeInfo) (z : Value) (size bytes : Nat) (ht : P.underlying t = some (.slice e)) (hi : P.info? e = some i) (hz : i.zero = some z)
    (hsize : i.size = size) (hby : i.bytes = bytes) (hzs : z.cells.size = size) (hsz : 0 < size)
    (v : Value) (n : Nat) (xs : List Value) (hs : a.eval s = v) (hown : w.ownsRow base e size v n xs)
    (A : Option Addr) (m c B : Nat) (news : List Value) (hm : news.length = m * size) (hx : a.eval x = .slice A m c) (hl : Lies w B A news) (h1 : ∀ u ∈ news, u.oneCell' = true)
    (h63 : n + m ≤ maxLen) (hbytes : (n + m) * bytes ≤ 140737488355328) (hbase : base ≤ w.heap.size)
    (h : ∀ v' w', w'.ownsRow base e size v' (n + m) (xs ++ news) → w.grownBy w' v.ownBlock → K (a.put o.dst v') w') :
    if Region.wanted o (yielded ops a.tmps) = true then Oper.wp P o a w K Q else E := by
  rw [if_pos hw]
  exact wp_appK s x t ho base e i z size bytes ht hi hz hsize hby hzs hsz v n xs hs hown A m c B news hm hx hl h1 h63 hbytes hbase h
/-- The cells of a list of inequalities. -/
theorem inqs_lie {w : World} {A : Option Addr} {c : Nat} {list : List Inq} (h : SlcIs IneqAt 2 w w.heap.size A c list) : ∀ k, k ≤ list.length → ∃ xs, InqsV w xs (list.take k) ∧ Lies w w.heap.size A xs ∧ ∀ u ∈ xs, u.oneCell' = true
  | 0, _ => ⟨[], InqsV.nil w, fun j u hj => by simp at hj, fun u hu => by simp at hu⟩
  | k + 1, hk => by
    obtain ⟨xs, h1, h2, h3⟩ := inqs_lie h k (by omega)
    obtain ⟨ad, Aq, cq, e, hb, p0, p1, hq⟩ := inq_at h (k := k) (by omega)
    have hl : xs.length = k * 2 := by have := h1.1; rw [List.length_take] at this; omega
    refine ⟨xs ++ [.slice Aq list[k].1.length cq, .int .i64 list[k].2], ?_, fun j u hj => ?_, fun u hu => ?_⟩
    · rw [List.take_add_one, List.getElem?_eq_getElem (by omega)]
      exact h1.snoc hq
    · rcases Nat.lt_or_ge j xs.length with g | g
      · rw [List.getElem?_append_left g] at hj
        exact h2 j u hj
      · rw [List.getElem?_append_right g, hl] at hj
        refine ⟨ad, e, hb, ?_⟩
        match hm : j - k * 2, hj with
        | 0, hj =>
          simp at hj
          subst hj
          have : j = k * 2 := by omega
          rw [this]
          exact p0
        | 1, hj =>
          simp at hj
          subst hj
          have : j = k * 2 + 1 := by omega
          rw [this, ← addr_add_add]
          have e : (ad.add (k * 2)).add 1 = off_ (ad.add (k * 2)) 1 := by unfold Addr.add; simp
          rw [e]
          exact p1
        | r + 2, hj => simp at hj
    · rw [List.mem_append] at hu
      rcases hu with hu | hu
      · exact h3 u hu
      · exact two_cellv rfl rfl u hu
theorem own_types_ne {w : World} {B B' e e' k k' n n' : Nat} {v v' : Value} {xs ys : List Value} (h : w.ownsRow B e k v n xs) (h' : w.ownsRow B' e' k' v' n' ys) (he : e ≠ e') : ∀ g, v.ownBlock = some g → v'.ownBlock = some g → False := fun g hg hg' => by
  rcases h.2 with ⟨rfl, _⟩ | ⟨g1, c1, cur, rfl, _, hh, _⟩
  · simp [Value.ownBlock] at hg
  rcases h'.2 with ⟨rfl, _⟩ | ⟨g2, c2, cur2, rfl, _, hh2, _⟩
  · simp [Value.ownBlock] at hg'
  simp [Value.ownBlock] at hg hg'
  subst hg hg'
  rw [hh] at hh2
  injection hh2 with hh2
  injection hh2 with _ hh2
  exact he hh2
theorem whole_types_ne {w : World} {B e e' k n g : Nat} {v : Value} {xs vs : List Value} (h : w.ownsRow B e k v n xs) (h' : Whole w g vs e') (he : e ≠ e') : v.ownBlock ≠ some g := fun hg => by
  rcases h.2 with ⟨rfl, _⟩ | ⟨g1, c1, cur, rfl, _, hh, _⟩
  · simp [Value.ownBlock] at hg
  simp [Value.ownBlock] at hg
  subst hg
  unfold Whole at h'
  rw [hh] at h'
  injection h' with h'
  injection h' with _ h'
  exact he h'
theorem whole_kept {w w' : World} {g : Nat} {vs : List Value} {e : TypeId} {row : Option Nat} (h : Whole w g vs e) (hg : w.grownBy w' row) (hne : some g ≠ row) : Whole w' g vs e := (hg.block g h.lt hne).trans h
/-- A list that lies elsewhere stays. -/
theorem slc_far {w w' : World} {A : Option Addr} {c : Nat} {l : List Int} {row : Option Nat} (h : SlcIs IntAt 1 w w.heap.size A c l) (hg : w.grownBy w' row) (hf : l ≠ [] → ∀ ad, A = some ad → row ≠ some ad.block) : SlcIs IntAt 1 w' w'.heap.size A c l :=
  ⟨h.le, h.cap, fun i x hi => by
    obtain ⟨ad, e, hb, hc⟩ := h.row i x hi
    refine ⟨ad, e, Nat.lt_of_lt_of_le hb hg.size, ?_⟩
    have hk : (ad.add (i * 1)).block = ad.block := by rw [addr_add_block]
    exact (World.cell?_of_block (hg.block _ (by rw [hk]; exact hb) (fun e' => hf (List.ne_nil_of_mem (List.mem_of_getElem? hi)) ad e (by rw [hk] at e'; exact e'.symm)))).trans hc⟩
theorem lies_whole {w : World} {g : Nat} {vs : List Value} {e : TypeId} (h : Whole w g vs e) : Lies w w.heap.size (some ⟨g, 0, none⟩) vs := fun j u hj => by
  refine ⟨_, rfl, h.lt, ?_⟩
  have ea : (Addr.add ⟨g, 0, none⟩ j) = ⟨g, j, none⟩ := by
    simp [Addr.add]
    omega
  rw [ea]
  exact h.cells j u hj
/-- Two boxes of inequalities. -/
structure Four (w : World) (g : Nat) (a b : Value) (g' : Nat) (a' b' : Value) : Prop where
  x : Cells w g [a, b]
  y : Cells w g' [a', b']
theorem cells_lt {w : World} {g : Nat} {a b : Value} (h : Cells w g [a, b]) : g < w.heap.size := by
  have h0 := h 0 _ rfl
  rcases Nat.lt_or_ge g w.heap.size with q | q
  · exact q
  · unfold World.cell? at h0
    rw [Array.getElem?_eq_none (by simpa using q)] at h0
    simp at h0
theorem Four.below {w w' : World} {g g' : Nat} {a b a' b' : Value} (h : Four w g a b g' a' b') (hb : Below w.heap.size w w') : Four w' g a b g' a' b' := ⟨h.x.keep hb (cells_lt h.x), h.y.keep hb (cells_lt h.y)⟩
theorem Four.grown {w w' : World} {g g' : Nat} {a b a' b' : Value} {row : Option Nat} (h : Four w g a b g' a' b') (hg : w.grownBy w' row) (h1 : row ≠ some g) (h2 : row ≠ some g') : Four w' g a b g' a' b' :=
  ⟨fun i v hi => (World.cell?_of_block (hg.block _ (cells_lt h.x) (fun e => h1 e.symm))).trans (h.x i v hi), fun i v hi => (World.cell?_of_block (hg.block _ (cells_lt h.y) (fun e => h2 e.symm))).trans (h.y i v hi)⟩
theorem Four.cells {w : World} {g g' : Nat} {a b a' b' : Value} (h : Four w g a b g' a' b') : w.cell? ⟨g, 0, none⟩ = some a ∧ w.cell? ⟨g, 1, none⟩ = some b ∧ w.cell? ⟨g', 0, none⟩ = some a' ∧ w.cell? ⟨g', 1, none⟩ = some b' := ⟨h.x 0 _ rfl, h.x 1 _ rfl, h.y 0 _ rfl, h.y 1 _ rfl⟩
theorem own_lit_ints {w : World} {B e g n c : Nat} {l : List Int} (h : w.ownsRow B e 1 (.slice (some ⟨g, 0, none⟩) n c) n (l.map (Value.int .i64))) (hl : l.length = n) : SlcIs IntAt 1 w w.heap.size (some ⟨g, 0, none⟩) c l := by
  subst hl
  obtain ⟨A, c, e, hs⟩ := own_slc14 h
  injection e with e1 e2 e3
  rw [e1, e3]
  exact hs
theorem far_row {w : World} {B e k n : Nat} {v : Value} {xs : List Value} (h : w.ownsRow B e k v n xs) {g : Nat} (hg : g < B) : v.ownBlock ≠ some g := fun e => by
  have := (h.lt g e).1
  omega
/-- What some prove, twice as many times, and with more that does not count. -/
theorem adds_facts {list : List Inq} {T : List Int} {n : Nat} (hl : list.length = T.length) (h10 : list.length ≤ 10) (hn : n ≤ 50) (ht : ∀ t ∈ T, 0 ≤ t ∧ t ≤ 255) (hq : ∀ q ∈ list, smallB n 1099511627776 1099511627776 q = true) :
    sumR list T (n : Int) = some (colsI list T n, dotI (list.map Prod.snd) T) ∧ sumR list (T.map (2 * ·)) (n : Int) = some ((colsI list T n).map (2 * ·), 2 * dotI (list.map Prod.snd) T) ∧
    (dotI (list.map Prod.snd) T).natAbs ≤ 2803754650828800 ∧ (∀ c ∈ colsI list T n, c.natAbs ≤ 2803754650828800) := by
  have hq' : ∀ q ∈ list, q.1.length = n ∧ q.2.natAbs ≤ 1099511627776 ∧ ∀ c ∈ q.1, c.natAbs ≤ 1099511627776 := fun q h => by
    obtain ⟨a1, a2, a3, a4⟩ := smallB_yes (hq q h)
    exact ⟨a1, by omega, fun c hc => by have := a4 c hc; omega⟩
  have h1 := sum_small (P := 1099511627776) (Q := 255) hl (by omega) (fun t h => ⟨(ht t h).1, by have := ht t h; omega⟩) hq' (by decide) (by decide) (by decide) (by omega)
  have h2 := sum_small (times := T.map (2 * ·)) (P := 1099511627776) (Q := 510) (by rw [List.length_map]; exact hl) (by omega) (fun t h => by
    obtain ⟨u, hu, rfl⟩ := List.mem_map.mp h
    have := ht u hu
    exact ⟨by omega, by omega⟩) hq' (by decide) (by decide) (by decide) (by omega)
  have h3 := sum_twice list T n
  rw [h3.1, h3.2] at h2
  have hT : ∀ t ∈ T, t.natAbs ≤ 255 := fun t h => by have := ht t h; omega
  refine ⟨h1, h2, ?_, fun c hc => ?_⟩
  · have := dotI_abs (P := 1099511627776) (Q := 255) (list.map Prod.snd) T (fun x hx => by
      obtain ⟨q, h, rfl⟩ := List.mem_map.mp hx
      exact (hq' q h).2.1) hT
    rw [List.length_map] at this
    omega
  · unfold colsI at hc
    obtain ⟨v, hv, rfl⟩ := List.mem_map.mp hc
    rw [List.mem_range] at hv
    have := dotI_abs (P := 1099511627776) (Q := 255) (colR list v) T (fun x hx => by
      unfold colR at hx
      obtain ⟨q, h, rfl⟩ := List.mem_map.mp hx
      have hl := (hq' q h).1
      rw [List.getElem?_eq_getElem (by omega)]
      exact (hq' q h).2.2 _ (List.getElem_mem (show v < q.1.length by omega))) hT
    have hcl : (colR list v).length = list.length := by unfold colR; simp
    rw [hcl] at this
    omega
theorem proves_self {list : List Inq} {T L : List Int} {x : Int} {n : Nat} (h : sumR list T (n : Int) = some (L, x)) (hl : L.length = n) : provesB list T (L, x) = true := by
  subst hl
  unfold provesB
  show (match sumR list T (L.length : Int) with | none => false | some q => impliesB q (L, x)) = true
  rw [h]
  unfold impliesB
  simp
/-- A region of a function's code, by its number. -/
def findRegion (n : Nat) : Code → Option Code
  | .region k ops d => if k = n then some (.region k ops d) else none
  | .seq a b => match findRegion n a with
    | some c => some c
    | none => findRegion n b
  | .loop c => findRegion n c
  | .block _ c => findRegion n c
  | .scope c => findRegion n c
  | .cond _ a b => match findRegion n a with
    | some c => some c
    | none => findRegion n b
  | _ => none
theorem proves_more {list : List Inq} {T L : List Int} {x : Int} {n : Nat} {W : List Int} {m : Int} (h : sumR list T (n : Int) = some (L, x)) (hl : L.length = n) (hw : W.length = n) (hm : -1152921504606846976 < m ∧ m < 1152921504606846976) (hc : ∀ c ∈ W, -1152921504606846976 < c ∧ c < 1152921504606846976) : provesB (list ++ [(W, m)]) (T ++ [0]) (L, x) = true :=
  proves_self (sumR_more (q := (W, m)) h hw (fine_abs (by omega)) (fun c h => fine_abs (by have := hc c h; omega))) hl
end Go.Proofs.Ytncbmjpfbkngdaa
