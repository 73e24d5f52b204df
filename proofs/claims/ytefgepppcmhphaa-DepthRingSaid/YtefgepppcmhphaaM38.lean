/-
  A copy of numbers, in a block of its own (slices.Clone), and how it is sorted; a row of the call's own cut short; the parts a walk plays as it closes one.
  What a walk through a graph does to close a part.
-/
import Derived.Test.YtefgepppcmhphaaM37
import Derived.Test.YtefgepppcmhphaaM28
import Derived.WalkSpells
namespace Go.Proofs.Ytefgepppcmhphaa
set_option maxRecDepth 100000
set_option linter.unusedVariables false
set_option linter.unusedSimpArgs false
open Go.ChangeShapes Go.WideShapes Go.ChangeAt Go.RowKit
open Go.Sort (Holds putRow)

/-- The head of a row of the call's own. -/
theorem own_head {w : World} {B e c : Nat} {A : Option Addr} {xs ys : List Value} (h : w.ownsRow B e 1 (.slice A (xs ++ ys).length c) (xs ++ ys).length (xs ++ ys)) : w.ownsRow B e 1 (.slice A xs.length c) xs.length xs := by
  rcases h.2 with ⟨hv, hn⟩ | ⟨g, cap, cur, hv, hb, hh, h1, h2, h3, h4⟩
  · have : xs = [] := by cases xs with
      | nil => rfl
      | cons x l => simp at hn
    subst this
    injection hv with e1 e2 e3
    subst e1 e3
    exact World.ownsRow_nil _ _ _ _
  · injection hv with e1 e2 e3
    subst e1 e3
    rw [List.length_append] at h1 h4
    refine ⟨by simp, .inr ⟨g, c, cur, rfl, hb, hh, by omega, h2, h3, ?_⟩⟩
    have : (cur.toList.take ((xs.length + ys.length) * 1)).take xs.length = xs := by rw [h4, List.take_left]
    rw [List.take_take, Nat.min_eq_left (by omega)] at this
    rw [Nat.mul_one]
    exact this
theorem own_some {w : World} {B e n c : Nat} {A : Option Addr} {xs : List Value} (h : w.ownsRow B e 1 (.slice A n c) n xs) (hn : 0 < n) : ∃ g, A = some ⟨g, 0, none⟩ ∧ n ≤ c ∧ c ≤ 9223372036854775807 ∧ g < w.heap.size ∧ B ≤ g := by
  rcases h.2 with ⟨_, h2⟩ | ⟨g, cap, cur, hv, hb, hh, h1, h2, _, _⟩
  · omega
  · injection hv with e1 e2 e3
    subst e1 e3
    exact ⟨g, rfl, h1, by unfold maxLen at h2; omega, lt_of_block hh, hb⟩
theorem own_cell {w : World} {B e n c : Nat} {g : Nat} {xs : List Value} (h : w.ownsRow B e 1 (.slice (some ⟨g, 0, none⟩) n c) n xs) {j : Nat} {x : Value} (hj : xs[j]? = some x) : w.cell? ⟨g, j, none⟩ = some x := by
  obtain ⟨hlt, rfl⟩ := List.getElem?_eq_some_iff.mp hj
  exact lies_cell (Lies.of_own h) j hlt
theorem natV_at {l : List Nat} {j v : Nat} (h : l[j]? = some v) : (natV l)[j]? = some (.int .i64 (v : Int)) := by
  unfold natV
  rw [List.getElem?_map, h]
  rfl
theorem natV_one (l : List Nat) : ∀ u ∈ natV l, u.oneCell' = true := fun u hu => by
  obtain ⟨k, _, rfl⟩ := List.mem_map.mp hu
  rfl
theorem natV_drop (l : List Nat) (k : Nat) : natV (l.drop k) = (natV l).drop k := List.map_drop ..
theorem natV_app (l m : List Nat) : natV (l ++ m) = natV l ++ natV m := List.map_append ..

/-- A copy of numbers. -/
def CopyN (L : List Nat) (w : World) (e : Ending) (w' : World) : Prop := ∃ gi ci, e = .returned (.slice (some ⟨gi, 0, none⟩) L.length ci) ∧ w.heap.size ≤ gi ∧ w'.ownsRow w.heap.size 3 1 (.slice (some ⟨gi, 0, none⟩) L.length ci) L.length (natV L) ∧ Below w.heap.size w w'
theorem sclone_any (L : List Nat) (ad : Addr) (c B : Nat) (w : World) (h : Lies w B (some ad) (natV L)) (hB : B ≤ w.heap.size) (h0 : 0 < L.length) (hl : L.length ≤ 1048576) :
    Calls Try.prog 73 #[.slice (some ad) L.length c] w (CopyN L w) := by
  have hq := fun w => Lib.run_eql_slice_nil (P := Try.prog) w 26 3 (some ad) L.length c 0 0 Try.underlying26
  obtain ⟨ti, hti, ht0, ht1, ht2⟩ := info_parts info_int
  have HXE : Hid (Below w.heap.size w (w.alloc (.cells #[] 3))) := Lib.hid ((Below.refl _ _).alloc (Nat.le_refl _) _)
  have HT := Lib.hid (h.below_to HXE.out hB)
  clear h
  go_enter Try.func73, Try.ntmps73
  go_wp2_with (at_builtin; go_loud (refine append_liesK rfl _ _ 26 rfl w.heap.size 3 ti (.int .i64 0) 1 8 Try.underlying26 hti ht0 ht1 ht2 rfl (by decide) _ 0 [] rfl (own_emptyK w 3 1) (some ad) L.length c _ (natV L) (by rw [natV_len]; omega) rfl HT.out (natV_one _) (by unfold maxLen; omega) (by omega) (by simp) ?_); intro v6 w6 hown hgrow; have HX6 := Lib.hid (appK_more HXE.out (own_emptyK w 3 1) (by simp) hgrow); have HO6 : Hid (w6.ownsRow w.heap.size 3 1 v6 L.length (natV L)) := Lib.hid (by simpa using hown); clear hown hgrow)
  go_ret
  obtain ⟨A, ca, rfl, _⟩ := own_slice HO6.out
  obtain ⟨gi, rfl, _, _, _, hb⟩ := own_some HO6.out h0
  exact ⟨gi, ca, rfl, hb, HO6.out, HX6.out⟩
theorem ssort_any (L : List Nat) (B gi ci : Nat) (w : World) (h : w.ownsRow B 3 1 (.slice (some ⟨gi, 0, none⟩) L.length ci) L.length (natV L)) (hl : L.length ≤ 1048576) :
    Calls Try.prog 66 #[.slice (some ⟨gi, 0, none⟩) L.length ci] w fun e w' => e = .returned (.tuple #[]) ∧ w'.ownsRow B 3 1 (.slice (some ⟨gi, 0, none⟩) L.length ci) L.length (natV (L.mergeSort fun x y => decide (x ≤ y))) ∧ w.grownBy w' (some gi) := by
  rcases h.2 with ⟨hv, _⟩ | ⟨g', cap, cur, hv, hbase, hb, h1, h2, h3, h4⟩
  · cases hv
  injection hv with e1 e2 e3
  injection e1 with e1
  injection e1 with e1
  subst e1 e3
  have hz : (L.map (fun k : Nat => (k : Int))).map (Value.int .i64) = natV L := by rw [List.map_map]; rfl
  have hH : Holds (Value.int .i64) w gi 0 (L.map (fun k : Nat => (k : Int))).toArray := holds_of_blockI hb (by rw [List.length_map, hz]; simpa using h4)
  have hgl : gi < w.heap.size := lt_of_block hb
  have hc := Any.slices_Sort_int sort_lays gi 0 ci (L.map (fun k : Nat => (k : Int))) w hH hgl (by rw [List.length_map]; omega)
  rw [List.length_map] at hc
  have hs : (L.map (fun k : Nat => (k : Int))).mergeSort (fun x y => decide (x ≤ y)) = (L.mergeSort fun x y => decide (x ≤ y)).map (fun k : Nat => (k : Int)) :=
    (List.map_mergeSort (fun a _ b _ => by simp)).symm
  rw [hs] at hc
  refine hc.mono ?_
  rintro e w' ⟨rfl, nn, os, rfl⟩
  refine ⟨rfl, ?_, grownBy_sortedI _⟩
  have hsl : ((L.mergeSort fun x y => decide (x ≤ y)).map (fun k : Nat => (k : Int))).length = (L.map (fun k : Nat => (k : Int))).length := by simp
  have q := ownsRow_sortedI (n := nn) (os := os) (ss := L.map (fun k : Nat => (k : Int))) hsl hbase hb (by rw [List.length_map]; exact h1) h2 h3
  rw [List.length_map, List.map_map] at q
  exact q
theorem sort_ok (L : List Nat) : (L.mergeSort fun x y => decide (x ≤ y)).Perm L ∧ (L.mergeSort fun x y => decide (x ≤ y)).Pairwise (· ≤ ·) :=
  ⟨List.mergeSort_perm L _, (List.pairwise_mergeSort (fun a b c h1 h2 => by simp at *; omega) (fun a b => by simp; omega) L).imp (fun {a b} q => by simpa using q)⟩
section
variable {w w' : World} {B g n : Nat} {EL : List (List Int)} {S : Wk} {a : WkAd} {ρ : Nat → Nat}
theorem WkBut.all {r : Nat} (q : WkBut w B g EL n S a ρ r) (hr : 8 ≤ r) (h1 : EL.length = n) (h2 : 0 ≤ n) (h3 : n ≤ 1048576) (h4 : ∀ l ∈ EL, l.length ≤ 1048576) : WkIn w B g EL n S a ρ :=
  ⟨q.low, q.size, h1, h2, h3, q.edges, h4, q.blk (by omega), q.pl (by omega), q.bk (by omega), q.gn (by omega), q.way (by omega), q.opn (by omega), q.prt (by omega), q.pin (by omega), q.r0, q.r1, q.r2, q.r3, q.r4 (by omega), q.r5 (by omega), q.r6 (by omega)⟩
/-- A new block has a part to play. -/
theorem WkIn.fresh (h : WkIn w B g EL n S a ρ) (hb : Below w.heap.size w w') {gi : Nat} (hg : w.heap.size ≤ gi) : WkIn w' B g EL n S a (upd ρ gi 8) :=
  (h.moveU (r := 8) (N := gi) (Only.below hb) (.inr hg) (by decide) (by decide)).all (Nat.le_refl _) h.len h.n0 h.n1 h.el
theorem WkIn.sorted (h : WkIn w B g EL n S a ρ) {gi : Nat} (hr : ρ gi = 8) (hg : w.grownBy w' (some gi)) : WkIn w' B g EL n S a ρ :=
  (h.moveS (r := 8) (Only.grown hg (fun b e => by injection e with e; subst e; exact hr)) (by decide)).all (Nat.le_refl _) h.len h.n0 h.n1 h.el
theorem WkIn.settled (h : WkIn w B g EL n S a ρ) {gi : Nat} (hr : ρ gi = 8) : WkIn w B g EL n S a (upd ρ gi 7) := by
  have hu : ∀ b, b < w.heap.size → ρ b ≠ 8 → upd ρ gi 7 b = ρ b := fun b _ hb => upd_ne _ _ (fun e => by subst e; exact hb hr)
  obtain ⟨h0, h1, h2, h3⟩ := h.roles
  exact (h.move (r := 8) (ρ' := upd ρ gi 7) Only.refl hu (by decide) (by rw [hu g h0 (by rw [h.r0]; decide)]; exact h.r0) (by rw [hu _ h1 (by rw [h.r1]; decide)]; exact h.r1) (by rw [hu _ h2 (by rw [h.r2]; decide)]; exact h.r2) (by rw [hu _ h3 (by rw [h.r3]; decide)]; exact h.r3)).all (Nat.le_refl _) h.len h.n0 h.n1 h.el
/-- The open ones cut short. -/
theorem WkIn.opn_cut (h : WkIn w B g EL n S a ρ) {O X : List Nat} (e : S.opn = O ++ X) : WkIn (w.setCell ⟨g, 6, none⟩ (.slice a.Ao O.length a.co)) B g EL n { S with opn := O } a ρ := by
  have ho : w.ownsRow B 3 1 (.slice a.Ao O.length a.co) O.length (natV O) := by
    have h1 := h.opn
    rw [e, natV_app, List.length_append] at h1
    have := own_head (xs := natV O) (ys := natV X) (c := a.co) (A := a.Ao) (by rw [List.length_append, natV_len, natV_len]; exact h1)
    rw [natV_len] at this
    exact this
  have hr : ∀ b, (Value.slice a.Ao O.length a.co).ownBlock = some b → ρ b = 5 := fun b hb => h.r5 b (by rw [← hb]; cases a.Ao <;> rfl)
  have p := h.moveS (r := 0) (Only.cell (a := ⟨g, 6, none⟩) h.r0 (.slice a.Ao O.length a.co)) (by decide)
  exact ⟨p.low, p.size, h.len, h.n0, h.n1, p.edges, h.el, by have := Whole.set h.blk 6 (.slice a.Ao O.length a.co); exact this, p.pl (by decide), p.bk (by decide), p.gn (by decide), p.way (by decide), own_only ho (Only.cell (ρ := ρ) (a := ⟨g, 6, none⟩) h.r0 _) (fun b hb => by rw [hr b hb]; decide), p.prt (by decide), p.pin (by decide), p.r0, p.r1, p.r2, p.r3, p.r4 (by decide), hr, p.r6 (by decide)⟩
theorem WkIn.way_cut (h : WkIn w B g EL n S a ρ) {O X : List Nat} (e : S.way = O ++ X) : WkIn (w.setCell ⟨g, 5, none⟩ (.slice a.Ay O.length a.cy)) B g EL n { S with way := O } a ρ := by
  have ho : w.ownsRow B 3 1 (.slice a.Ay O.length a.cy) O.length (natV O) := by
    have h1 := h.way
    rw [e, natV_app, List.length_append] at h1
    have := own_head (xs := natV O) (ys := natV X) (c := a.cy) (A := a.Ay) (by rw [List.length_append, natV_len, natV_len]; exact h1)
    rw [natV_len] at this
    exact this
  have hr : ∀ b, (Value.slice a.Ay O.length a.cy).ownBlock = some b → ρ b = 4 := fun b hb => h.r4 b (by rw [← hb]; cases a.Ay <;> rfl)
  have p := h.moveS (r := 0) (Only.cell (a := ⟨g, 5, none⟩) h.r0 (.slice a.Ay O.length a.cy)) (by decide)
  exact ⟨p.low, p.size, h.len, h.n0, h.n1, p.edges, h.el, by have := Whole.set h.blk 5 (.slice a.Ay O.length a.cy); exact this, p.pl (by decide), p.bk (by decide), p.gn (by decide), own_only ho (Only.cell (ρ := ρ) (a := ⟨g, 5, none⟩) h.r0 _) (fun b hb => by rw [hr b hb]; decide), p.opn (by decide), p.prt (by decide), p.pin (by decide), p.r0, p.r1, p.r2, p.r3, hr, p.r5 (by decide), p.r6 (by decide)⟩
end
end Go.Proofs.Ytefgepppcmhphaa
namespace Go.Proofs.Ytefgepppcmhphaa
set_option maxRecDepth 100000
set_option linter.unusedVariables false
set_option linter.unusedSimpArgs false
open Go.ChangeShapes Go.WideShapes Go.ChangeAt Go.RowKit
set_option linter.unusedVariables false

theorem sclone_is {L : List Nat} {ad : Addr} {c B : Nat} {w : World} {k : Nat} (h : Hid (Lies w B (some ad) (natV L))) (hB : Hid (B ≤ w.heap.size)) (h0 : Hid (0 < L.length)) (hl : Hid (L.length ≤ 1048576)) (hk : Hid (L.length = k)) :
    Calls Try.prog 73 #[.slice (some ad) k c] w fun e w' => ∃ gi ci, e = .returned (.slice (some ⟨gi, 0, none⟩) k ci) ∧ w.heap.size ≤ gi ∧ w'.ownsRow w.heap.size 3 1 (.slice (some ⟨gi, 0, none⟩) k ci) k (natV L) ∧ Below w.heap.size w w' := by
  obtain rfl := hk.out
  exact sclone_any L ad c B w h.out hB.out h0.out hl.out
theorem info_intsC : (Try.prog.info? 26).map (fun i => (i.zero, i.size, i.bytes)) = some (some (.slice none 0 0), 1, 24) := by kernel_rfl
/-- What it leaves: what was open behind a place is a part, rising. -/
def CloseOut (B g : Nat) (EL : List (List Int)) (n : Nat) (S : Wk) (O X : List Nat) (w : World) (e : Ending) (w' : World) : Prop :=
  e = .returned (.tuple #[]) ∧ (∃ c a' ρ', c.Perm X ∧ c.Pairwise (· ≤ ·) ∧ WkIn w' B g EL n { S with opn := O, back := fun x => if x ∈ X then topN else S.back x, parts := S.parts ++ [c] } a' ρ') ∧ Below B w w'
theorem take_back {L : List Nat} {t : Nat} (ht : t < L.length) (f : Nat → Int) : upd (fun x => if x ∈ L.take t then topN else f x) L[t] topN = fun x => if x ∈ L.take (t + 1) then topN else f x := funext fun x => by
  have e1 : L.take (t + 1) = L.take t ++ [L[t]] := by rw [List.take_add_one, List.getElem?_eq_getElem ht]; rfl
  rw [e1]
  unfold upd
  by_cases e : x = L[t]
  · rw [if_pos e, if_pos (by rw [List.mem_append, List.mem_singleton]; exact .inr e)]
  · rw [if_neg e]
    show (if x ∈ L.take t then topN else f x) = _
    by_cases q : x ∈ L.take t
    · rw [if_pos q, if_pos (List.mem_append_left _ q)]
    · rw [if_neg q, if_neg (by rw [List.mem_append, List.mem_singleton]; exact fun r => r.elim q e)]
set_option maxHeartbeats 3200000 in
theorem sclose_any (B g n v : Nat) (EL : List (List Int)) (S : Wk) (O X : List Nat) (a : WkAd) (ρ : Nat → Nat) (w : World) (h : WkIn w B g EL n S a ρ) (ho : S.opn = O ++ v :: X) (hX : v ∉ X) (hlt : ∀ x ∈ v :: X, x < n) (hol : S.opn.length ≤ n) (hpl : S.parts.length ≤ n) :
    Calls Try.prog 67 #[.pointer (some ⟨g, 0, none⟩), .int .i64 (v : Int)] w (CloseOut B g EL n S O (v :: X) w) := by
  obtain ⟨met, place, back, gone, way, opn, parts⟩ := S
  obtain ⟨gp, gb, gg, E, ce, Ay, cy, Ao, co, Ap, cp, vs⟩ := a
  dsimp only at ho hol hpl
  subst ho
  have hn1 := h.n1
  have hge := h.g_ge
  obtain ⟨hg0, hg1, hg2, hg3⟩ := hge
  have hoo : w.ownsRow B 3 1 (.slice Ao (O ++ v :: X).length co) (O ++ v :: X).length (natV (O ++ v :: X)) := h.opn
  have hlen : (O ++ v :: X).length = O.length + X.length + 1 := by simp; omega
  obtain ⟨go, rfl, hc1, hc2, hgo, _⟩ := own_some hoo (by omega)
  have HI := Lib.hid h
  have HOO := Lib.hid hoo
  have q6 := h.blk.cells 6 _ rfl
  dsimp only at q6 hg1 hg2 hg3
  rw [hlen] at q6 hol hc1
  have HLE := Lib.hid hlen
  obtain ⟨k, hk⟩ : ∃ k, O.length = k := ⟨_, rfl⟩
  obtain ⟨j, hj⟩ : ∃ j, X.length = j := ⟨_, rfl⟩
  rw [hk, hj] at q6 hol hc1
  have HK := Lib.hid hk
  have HJ := Lib.hid hj
  have HLT := Lib.hid hlt
  have HXN := Lib.hid hX
  have hv : v < n := hlt v (List.mem_cons_self ..)
  clear h hoo hlen hk hj hX hlt
  go_enter Try.func67, Try.ntmps67
  go_wp2_with fail
  go_loopw [4] (fun i wr => ∃ t : Nat, t ≤ j ∧ i = .int .i64 ((k + t : Nat) : Int) ∧ wr = w) (fun i _ => (intOf i).toNat)
  case atStart => exact ⟨j, Nat.le_refl _, by go_num, rfl⟩
  case round =>
    obtain ⟨t, ht, rfl, hww⟩ := hrel
    obtain rfl := hww.symm
    obtain ⟨m, hm⟩ : ∃ m, k + t = m := ⟨_, rfl⟩
    rw [hm]
    cases t with
    | succ s =>
      have hs : s < X.length := by rw [HJ.out]; omega
      obtain ⟨y, hy⟩ : ∃ y, X[s] = y := ⟨_, rfl⟩
      have hc := own_cell HOO.out (natV_at (l := O ++ v :: X) (j := m) (v := y) (by rw [List.getElem?_append_right (by rw [HK.out]; omega), HK.out, show m - k = s + 1 by omega, List.getElem?_cons_succ, List.getElem?_eq_getElem hs, hy]))
      have hne : y ≠ v := fun e => HXN.out (by rw [← e, ← hy]; exact List.getElem_mem hs)
      have hne2 : ((y : Int) != (v : Int)) = true := by simp; omega
      clear hy hne
      go_wp2_with fail
      go_roundw
      case rel => exact ⟨s, by omega, by go_num, by first | rfl | trivial⟩
      case measure => simp [intOf]; omega
    | zero =>
      obtain rfl : k = m := by omega
      have hc := own_cell HOO.out (natV_at (l := O ++ v :: X) (j := k) (v := v) (by rw [List.getElem?_append_right (by rw [HK.out]; exact Nat.le_refl _), HK.out, Nat.sub_self]; rfl))
      have hne2 : ((v : Int) != (v : Int)) = false := by simp
      have HT : Hid (Lies w w.heap.size (some ⟨go, k, none⟩) (natV (v :: X))) := Lib.hid (by
        have := (Lies.of_own HOO.out).drop_ k
        rw [← natV_drop, ← HK.out, List.drop_left, HK.out] at this
        have e : (⟨go, 0, none⟩ : Addr).add k = ⟨go, k, none⟩ := by unfold Addr.add; split <;> simp_all
        rw [← e]
        exact this)
      have HLL : Hid ((v :: X).length = k + j + 1 - k) := Lib.hid (by simp [HJ.out]; omega)
      have HL0 : Hid (0 < (v :: X).length) := Lib.hid (by simp)
      have HL1 : Hid ((v :: X).length ≤ 1048576) := Lib.hid (by rw [HLL.out]; omega)
      have HWZ : Hid (w.heap.size ≤ w.heap.size) := Lib.hid (Nat.le_refl _)
      have hck : ¬ co = k := by omega
      clear hm ht
      go_upto_region 4 with (go_at_call 73; go_loud (refine (sclone_is HT HWZ HL0 HL1 HLL).mono ?_); rintro e w2 ⟨gi, ci, rfl, hgi, hown, hb⟩; have HGI := Lib.hid hgi; have HO2 := Lib.hid hown; have HB2 := Lib.hid hb; clear hgi hown hb)
      have hj1 : k + j + 1 - k = j + 1 := by omega
      rw [hj1] at HO2
      rw [hj1]
      have HLJ : Hid ((v :: X).length = j + 1) := Lib.hid (by rw [HLL.out, hj1])
      have HF2 := Lib.hid (HI.out.fresh HB2.out HGI.out)
      have q6' := HF2.out.blk.cells 6 _ rfl
      have f6' := HF2.out.blk.free 6
      have HC3 := Lib.hid (HF2.out.opn_cut (O := O) (X := v :: X) rfl)
      dsimp only at q6' HC3
      rw [HLE.out, HK.out, HJ.out] at q6'
      rw [HK.out] at HC3
      have X3 := Lib.hid (HF2.out.cell_below (HB2.out.mono HI.out.size) 6 (.slice (some ⟨go, 0, none⟩) k co))
      have HR8 : Hid (upd ρ gi 8 gi = 8) := Lib.hid (upd_at _ _ _)
      have HO3 := Lib.hid (own_only HO2.out (Only.cell (ρ := upd ρ gi 8) (a := ⟨g, 6, none⟩) HF2.out.r0 (.slice (some ⟨go, 0, none⟩) k co)) (fun b hb => by
        have e : gi = b := by simpa [Value.ownBlock] using hb
        subst e
        rw [HR8.out]
        decide))
      clear hc hne2 HT HLL HL0 HL1 hck q6
      go_upto_region 5 with fail
      clear q6' f6' HF2 HB2 HO2
      generalize w2.setCell ⟨g, 6, none⟩ (.slice (some ⟨go, 0, none⟩) k co) = w3 at *
      generalize upd ρ gi 8 = ρ2 at *
      obtain ⟨L, hL⟩ : ∃ L, v :: X = L := ⟨_, rfl⟩
      rw [hL] at HLT HO3 HLJ ⊢
      have HXL := Lib.hid hL
      clear hL
      go_wp2_with fail
      go_loopw [43] (fun i wi => ∃ t : Nat, t ≤ j + 1 ∧ i = .int .i64 t ∧ Hid (WkIn wi B g EL n ⟨met, place, fun x => if x ∈ L.take t then topN else back x, gone, way, O, parts⟩ ⟨gp, gb, gg, E, ce, Ay, cy, some ⟨go, 0, none⟩, co, Ap, cp, vs⟩ ρ2) ∧ Hid (wi.ownsRow w.heap.size 3 1 (.slice (some ⟨gi, 0, none⟩) (j + 1) ci) (j + 1) (natV L)) ∧ Hid (Below B w wi)) (fun i _ => j + 1 - (intOf i).toNat)
      case atStart => exact ⟨0, Nat.zero_le _, rfl, HC3, HO3, X3⟩
      case round =>
        clear HC3 HO3 X3
        obtain ⟨t, ht, rfl, HW, HO, HX⟩ := hrel
        by_cases htj : t < j + 1
        · have htl : t < L.length := by rw [HLJ.out]; exact htj
          have HTB := Lib.hid (take_back htl back)
          have hx := HLT.out _ (List.getElem_mem htl)
          have hc := own_cell HO.out (natV_at (l := L) (j := t) (v := L[t]) (List.getElem?_eq_getElem htl))
          generalize L[t] = x at *
          have q3 := HW.out.blk.cells 3 _ rfl
          obtain ⟨c3, f3⟩ := HW.out.b_at hx
          have H4 := Lib.hid (HW.out.back (v := x) (k := topN))
          dsimp only at q3 c3 f3 H4
          rw [HTB.out] at H4
          have HO4 := Lib.hid (own_only HO.out (Only.cell (ρ := ρ2) (a := ⟨gb, x, none⟩) HW.out.r2 (.int .i64 topN)) (fun b hb => by
            have e : gi = b := by simpa [Value.ownBlock] using hb
            subst e
            rw [HR8.out]
            decide))
          have X4 := Lib.hid (HX.out.setCell (p := ⟨gb, x, none⟩) hg2 (.int .i64 topN))
          clear htl
          go_wp2_with fail
          go_roundw
          case rel => exact ⟨t + 1, by omega, by go_num, H4, HO4, X4⟩
          case measure => simp [intOf]; omega
        · obtain rfl : t = j + 1 := by omega
          rw [← HLJ.out, List.take_length] at HW
          have hsort := ssort_any L w.heap.size gi ci wr (by rw [HLJ.out]; exact HO.out) (by rw [HLJ.out]; omega)
          rw [HLJ.out] at hsort
          have HS := Lib.hid hsort
          clear hsort htj
          obtain ⟨C, hC⟩ : ∃ C, (L.mergeSort fun x y => decide (x ≤ y)) = C := ⟨_, rfl⟩
          have hok := sort_ok L
          rw [hC] at hok HS
          have HP := Lib.hid hok.1
          have HPW := Lib.hid hok.2
          have HCL : Hid (C.length = j + 1) := Lib.hid (by rw [hok.1.length_eq, HLJ.out])
          clear hok hC
          have hgiB : B ≤ gi := Nat.le_trans HI.out.size HGI.out
          go_upto_region 11 with (go_at_call 66; go_loud (refine HS.out.mono ?_); rintro e w5 ⟨rfl, hown, hg⟩; have HW5 := Lib.hid ((HW.out.sorted HR8.out hg).settled HR8.out); have HO5 := Lib.hid hown; have X5 := Lib.hid (HX.out.grown hg HW.out.size (fun b e => by injection e with e; subst e; exact hgiB)); clear hown hg)
          have HPI : Hid (PartIs w5 B (upd ρ2 gi 7) (.slice (some ⟨gi, 0, none⟩) (j + 1) ci) C) := Lib.hid (by
            obtain ⟨g', c', rest, e1, _, hwh⟩ := own_block HO5.out (Nat.succ_pos _)
            injection e1 with e1 e2 e3
            injection e1 with e1
            injection e1 with e1
            subst e1
            obtain ⟨_, _, hl1, hl2, _, _⟩ := own_some HO5.out (Nat.succ_pos _)
            exact ⟨gi, ci, rest, by rw [HCL.out], hgiB, upd_at _ _ _, by rw [HCL.out]; exact hl1, hl2, hwh⟩)
          clear HW HO HX HS HO5
          have q7 := HW5.out.blk.cells 7 _ rfl
          dsimp only at q7
          have HY : Hid (w5.ownsRow B 26 1 (.slice Ap parts.length cp) parts.length vs) := Lib.hid HW5.out.prt
          have hz5 := HW5.out.size
          obtain ⟨i1, hi1, hy0, hy1, hy2⟩ := info_parts info_intsC
          go_wp2_with (at_builtin; go_loud (refine wpList_append_lies _ rfl _ _ 43 rfl B 26 i1 (.slice none 0 0) 1 24 Try.underlying43 hi1 hy0 hy1 hy2 rfl (by decide) _ _ _ rfl (HY.out.alloc _) ⟨_, 0, none⟩ 1 1 [.slice (some ⟨gi, 0, none⟩) (j + 1) ci] rfl rfl (lit_at _ _ _) (one_cellv rfl) (by decide) (by unfold maxLen; omega) (by omega) (by simp; omega) _ rfl ?_); intro g9 c9 w9 hown hgrow hor hlt9; have hb9 := whole_only HW5.out.blk (app_only HW5.out.r6 hgrow) (by rw [HW5.out.r0]; decide); have q7' := hb9.cells 7 _ rfl; have f7' := hb9.free 7; have HA := Lib.hid (HW5.out.prt_app HPI.out hown hgrow hor); clear hown hgrow hor hlt9 hb9; dsimp only at q7')
          go_end0
          obtain rfl := HXL.out
          exact ⟨rfl, ⟨C, _, _, HP.out, HPW.out, HA.out.1⟩, X5.out.trans HA.out.2⟩
end Go.Proofs.Ytefgepppcmhphaa
