/-
  A row of shapes of the call's own, written place by place. Plain definitions and lemmas; no conditions.
  Append of one slice onto a row of slices of the call's own, of which no cell, not even one behind its length, is a number. Plain lemmas; no conditions.
  What types that are found round by round keep to. Plain definitions and lemmas; no conditions.
  What the document's own answers for types come to: Join (the least that two fit).
  What the document's own answer for the least type that two fit (Join) comes to, where both are of classes; and at any two types.
-/
import Derived.Test.YtefgepppcmhphaaM24
import Derived.Test.YtefgepppcmhphaaM13
import Derived.Test.YtefgepppcmhphaaM02
import Derived.OwnWalk
import Derived.Deep.RegionHeld3
import Derived.Maps.AppendAt
import Derived.Test.YtefgepppcmhphaaM36
import Derived.IntWalk
import Derived.RegionTactic
import Derived.ChangeAlike
import Derived.Deep.QuietTactic
import Derived.BigQuiet
import Derived.Test.YtefgepppcmhphaaM04
namespace Go.Proofs.Ytefgepppcmhphaa
set_option maxRecDepth 100000
set_option linter.unusedVariables false
set_option linter.unusedSimpArgs false
open Go.ChangeShapes Go.WideShapes Go.ChangeAt Go.RowKit
set_option linter.unusedVariables false

/-- A shape, and where its operands lie. -/
structure Shx where
  seen : Bool
  A : Option Addr
  c : Nat
  stack : List (Int × Int)
def Shx.shp (x : Shx) : Shp := ⟨x.seen, x.stack⟩
def shxC (x : Shx) : List Value := [.bool x.seen, .slice x.A x.stack.length x.c]
def shxV (X : List Shx) : List Value := X.flatMap shxC
/-- A block of shapes, whose operands lie about. -/
structure OutIn (w : World) (g : Nat) (X : List Shx) : Prop where
  blk : Whole w g (shxV X) 65
  row : ∀ x ∈ X, SlcIs TyAt 2 w w.heap.size x.A x.c x.stack
theorem shxV_len (X : List Shx) : (shxV X).length = X.length * 2 := flat_length (f := shxC) (k := 2) (fun _ => rfl) X
theorem OutIn.seen_at {w : World} {g i : Nat} {X : List Shx} (h : OutIn w g X) (hi : i < X.length) : w.cell? ⟨g, i * 2, none⟩ = some (.bool X[i].seen) :=
  h.blk.cells _ _ (flat_get (f := shxC) (k := 2) (fun _ => rfl) X i 0 X[i] (List.getElem?_eq_getElem hi) (by decide))
theorem OutIn.stack_at {w : World} {g i : Nat} {X : List Shx} (h : OutIn w g X) (hi : i < X.length) : w.cell? ⟨g, i * 2 + 1, none⟩ = some (.slice X[i].A X[i].stack.length X[i].c) :=
  h.blk.cells _ _ (flat_get (f := shxC) (k := 2) (fun _ => rfl) X i 1 X[i] (List.getElem?_eq_getElem hi) (by decide))
/-- No number lies in it. -/
theorem OutIn.noint {w : World} {g : Nat} {X : List Shx} (h : OutIn w g X) {p : Addr} {k : IntKind} {v : Int} (hp : p.block = g) : ¬ w.cell? p = some (.int k v) := fun e => by
  have hb := h.blk
  unfold Whole at hb
  unfold World.cell? at e
  rw [hp, hb] at e
  simp at e
  obtain ⟨_, e⟩ := e
  have hm : (Value.int k v) ∈ shxV X := List.mem_of_getElem? e
  obtain ⟨x, _, hx⟩ := List.mem_flatMap.mp hm
  simp [shxC] at hx
theorem OutIn.ty_apart {w : World} {g B c i : Nat} {X : List Shx} {A : Option Addr} {L : List (Int × Int)} (h : OutIn w g X) (hs : SlcIs TyAt 2 w B A c L) (hi : i < L.length) : ∀ ad, A = some ad → ad.block ≠ g := fun ad e q => by
  obtain ⟨ad', e', _, h0, _⟩ := hs.row.at_ hi
  rw [e] at e'
  injection e' with e'
  subst e'
  exact h.noint (p := ad.add (i * 2)) (by rw [addr_add_block]; exact q) h0
theorem OutIn.int_apart {w : World} {g B c i : Nat} {X : List Shx} {A : Option Addr} {L : List Int} (h : OutIn w g X) (hs : SlcIs IntAt 1 w B A c L) (hi : i < L.length) : ∀ ad, A = some ad → ad.block ≠ g := fun ad e q => by
  obtain ⟨ad', e', _, h0⟩ := hs.row.at_ hi
  rw [e] at e'
  injection e' with e'
  subst e'
  exact h.noint (p := ad.add (i * 1)) (by rw [addr_add_block]; exact q) h0
/-- A list of types that another block's cells leave alone. -/
theorem ty_other {w w' : World} {g B C c : Nat} {A : Option Addr} {L : List (Int × Int)} (hs : SlcIs TyAt 2 w B A c L) (hC : B ≤ C) (hk : ∀ q : Addr, q.block ≠ g → w'.cell? q = w.cell? q) (ha : ∀ i, i < L.length → ∀ ad, A = some ad → ad.block ≠ g) : SlcIs TyAt 2 w' C A c L :=
  ⟨hs.le, hs.cap, fun i t hi => by
    obtain ⟨ad, e, hb, h0, h1⟩ := hs.row i t hi
    have hil : i < L.length := by
      rcases Nat.lt_or_ge i L.length with q | q
      · exact q
      · rw [List.getElem?_eq_none q] at hi; cases hi
    have hn := ha i hil ad e
    refine ⟨ad, e, Nat.lt_of_lt_of_le hb hC, (hk _ (by rw [addr_add_block]; exact hn)).trans h0, (hk _ (by show (ad.add _).block ≠ g; rw [addr_add_block]; exact hn)).trans h1⟩⟩
theorem int_other {w w' : World} {g B C c : Nat} {A : Option Addr} {L : List Int} (hs : SlcIs IntAt 1 w B A c L) (hC : B ≤ C) (hk : ∀ q : Addr, q.block ≠ g → w'.cell? q = w.cell? q) (ha : ∀ i, i < L.length → ∀ ad, A = some ad → ad.block ≠ g) : SlcIs IntAt 1 w' C A c L :=
  ⟨hs.le, hs.cap, fun i t hi => by
    obtain ⟨ad, e, hb, h0⟩ := hs.row i t hi
    have hil : i < L.length := by
      rcases Nat.lt_or_ge i L.length with q | q
      · exact q
      · rw [List.getElem?_eq_none q] at hi; cases hi
    have hn := ha i hil ad e
    exact ⟨ad, e, Nat.lt_of_lt_of_le hb hC, (hk _ (by rw [addr_add_block]; exact hn)).trans h0⟩⟩
theorem OutIn.keep {w w' : World} {g : Nat} {X : List Shx} (h : OutIn w g X) (hb : Below w.heap.size w w') : OutIn w' g X :=
  ⟨h.blk.keep hb h.blk.lt, fun x hx => ((h.row x hx).below_to TyAt.keeps hb (Nat.le_refl _)).keep' TyAt.keeps hb.size (fun _ _ => rfl)⟩
/-- The world with one place written. -/
abbrev putW (w : World) (g i : Nat) (x : Shx) : World := (w.setCell ⟨g, i * 2, none⟩ (.bool x.seen)).setCell ⟨g, i * 2 + 1, none⟩ (.slice x.A x.stack.length x.c)
theorem put_other (w : World) (g i : Nat) (x : Shx) : ∀ q : Addr, q.block ≠ g → (putW w g i x).cell? q = w.cell? q := fun q hq => by
  unfold putW
  rw [World.cell?_setCell_far _ _ _ _ (fun e => hq e.symm), World.cell?_setCell_far _ _ _ _ (fun e => hq e.symm)]
theorem shxV_set : ∀ (X : List Shx) (i : Nat) (x : Shx), (shxV (X.set i x)) = ((shxV X).set (i * 2) (.bool x.seen)).set (i * 2 + 1) (.slice x.A x.stack.length x.c) ∨ X.length ≤ i
  | [], i, x => .inr (Nat.zero_le _)
  | y :: X, 0, x => .inl rfl
  | y :: X, i + 1, x => by
    rcases shxV_set X i x with h | h
    · refine .inl ?_
      show shxC y ++ shxV (X.set i x) = ((shxC y ++ shxV X).set _ _).set _ _
      rw [h, show (i + 1) * 2 = i * 2 + 2 by omega]
      rfl
    · exact .inr (by simp; omega)
theorem OutIn.put {w : World} {g i : Nat} {X : List Shx} {x : Shx} (h : OutIn w g X) (hi : i < X.length) (hx : SlcIs TyAt 2 w w.heap.size x.A x.c x.stack) : OutIn (putW w g i x) g (X.set i x) := by
  have hz : (putW w g i x).heap.size = w.heap.size := by simp [putW]
  have hap : ∀ {A : Option Addr} {c : Nat} {L : List (Int × Int)}, SlcIs TyAt 2 w w.heap.size A c L → SlcIs TyAt 2 (putW w g i x) (putW w g i x).heap.size A c L := fun {A c L} hs =>
    ty_other hs (by rw [hz]; exact Nat.le_refl _) (put_other w g i x) (fun j hj => h.ty_apart hs hj)
  refine ⟨?_, fun y hy => ?_⟩
  · rcases shxV_set X i x with e | e
    · rw [e]
      exact (h.blk.set _ _).set _ _
    · omega
  · rcases List.mem_or_eq_of_mem_set hy with q | q
    · exact hap (h.row y q)
    · rw [q]; exact hap hx
end Go.Proofs.Ytefgepppcmhphaa
namespace Go.Proofs.Ytefgepppcmhphaa
set_option maxRecDepth 100000
set_option linter.unusedVariables false
set_option linter.unusedSimpArgs false
open Go.ChangeShapes Go.WideShapes Go.ChangeAt Go.RowKit
set_option linter.unusedVariables false

/-- No cell of a row's block is a number. -/
def Dry (w : World) (v : Value) : Prop := ∀ g, v.ownBlock = some g → ∀ q : Addr, q.block = g → ∀ k x, ¬ w.cell? q = some (.int k x)
theorem dry_of {w : World} {g : Nat} {arr : Array Value} {e : TypeId} {fz : Nat × Nat} (h : w.heap[g]? = some (.cells arr e fz)) (hn : ∀ u ∈ arr.toList, ∀ k x, u ≠ .int k x) : ∀ q : Addr, q.block = g → ∀ k x, ¬ w.cell? q = some (.int k x) := by
  intro q hq k x hc
  unfold World.cell? at hc
  rw [hq, h] at hc
  dsimp only at hc
  split at hc
  · cases hc
  · exact hn _ (Array.mem_toList_iff.mpr (Array.mem_of_getElem? hc)) _ _ rfl
theorem dry_in {w : World} {g : Nat} {arr : Array Value} {e : TypeId} {fz : Nat × Nat} (h : w.heap[g]? = some (.cells arr e fz)) (hd : ∀ q : Addr, q.block = g → ∀ k x, ¬ w.cell? q = some (.int k x)) : ∀ u ∈ arr.toList, ∀ k x, u ≠ .int k x := by
  intro u hu k x e
  subst e
  obtain ⟨j, hj⟩ := List.mem_iff_getElem?.mp hu
  refine hd ⟨g, j, none⟩ rfl k x ?_
  unfold World.cell?
  dsimp only
  rw [h]
  dsimp only
  rw [← Array.getElem?_toList, hj]
  rfl
theorem dry_zeros (n : Nat) : ∀ u ∈ (Builtin.zeroCells (Value.slice none 0 0).cells n).toList, ∀ k x, u ≠ .int k x := by
  intro u hu k x e
  subst e
  unfold Builtin.zeroCells at hu
  simp [Value.cells] at hu
  obtain ⟨a, _, h⟩ := hu
  rw [Nat.mod_one] at h
  simp at h
theorem Dry.below {w w' : World} {v : Value} (h : Dry w v) (hv : ∀ g, v.ownBlock = some g → g < w.heap.size) (hb : Below w.heap.size w w') : Dry w' v := fun g hg q hq k x => by
  rw [hb.cell (by rw [hq]; exact hv g hg)]
  exact h g hg q hq k x
theorem dry_empty (w : World) (T : TypeId) : Dry (w.alloc (.cells #[] T)) (.slice (some ⟨w.heap.size, 0, none⟩) 0 0) := fun g hg => by
  simp [Value.ownBlock] at hg
  subst hg
  exact dry_of (heap_alloc_new _ _) (fun u hu => by simp at hu)
theorem run_append_dry {P : Program} (w : World) (base : Nat) (t ty e : TypeId) (i : TypeInfo) (bytes : Nat) (ht : P.underlying t = some (.slice e)) (hi : P.info? e = some i) (hz : i.zero = some (.slice none 0 0))
    (hsize : i.size = 1) (hby : i.bytes = bytes) (v : Value) (n : Nat) (xs : List Value) (hown : w.ownsRow base e 1 v n xs) (hd : Dry w v)
    (a : Addr) (c : Nat) (A' : Option Addr) (n' c' : Nat) (hnews : w.cell? (a.add 0) = some (.slice A' n' c'))
    (h63 : n + 1 ≤ maxLen) (hbytes : (n + 1) * bytes ≤ 140737488355328) (hbase : base ≤ w.heap.size) :
    ∃ g cap w', (Builtin.append_ #[t, t] ty #[v, .slice (some a) 1 c]).run P w = .ok (.slice (some ⟨g, 0, none⟩) (n + 1) cap) w' ∧ w'.ownsRow base e 1 (.slice (some ⟨g, 0, none⟩) (n + 1) cap) (n + 1) (xs ++ [.slice A' n' c']) ∧
      w.grownBy w' v.ownBlock ∧ (v.ownBlock = some g ∨ g = w.heap.size) ∧ g < w'.heap.size ∧ Dry w' (.slice (some ⟨g, 0, none⟩) (n + 1) cap) := by
  have hnw : ∀ j u, [Value.slice A' n' c'][j]? = some u → w.cell? (a.add j) = some u := fun j u hj => by
    match j, hj with
    | 0, hj => simp at hj; subst hj; exact hnews
    | j + 1, hj => simp at hj
  have h1 : ∀ u ∈ [Value.slice A' n' c'], u.oneCell' = true := fun u hu => by simp at hu; subst hu; rfl
  have hsmall : n + 1 ≤ 9223372036854775807 := by simp only [maxLen] at h63; omega
  obtain ⟨v', w', hr, h2, h3, h4, h5⟩ := run_append_own_at (P := P) w base t ty e i (.slice none 0 0) 1 bytes ht hi hz hsize hby rfl (by decide) v n xs hown a 1 c [.slice A' n' c'] rfl hnw h1 h63 hbytes hbase
  have hnot : ∀ u : Value, u = .slice A' n' c' → ∀ k x, u ≠ .int k x := fun u hu k x e => by rw [hu] at e; cases e
  obtain ⟨g, cap, rfl, hlt⟩ : ∃ g cap, v' = .slice (some ⟨g, 0, none⟩) (n + 1) cap ∧ g < w'.heap.size := by
    rcases h2.2 with ⟨_, q⟩ | ⟨g, cap, cur, e1, _, hg, _⟩
    · omega
    · exact ⟨g, cap, e1, (Array.getElem?_eq_some_iff.1 hg).1⟩
  refine ⟨g, cap, w', hr, h2, h3, ?_, hlt, fun g' hg' => ?_⟩
  · rcases h5 with h5 | h5
    · exact .inl (h5.symm.trans rfl)
    · simp [Value.ownBlock] at h5
      exact .inr h5
  · simp [Value.ownBlock] at hg'
    subst hg'
    rcases hown.2 with ⟨rfl, rfl⟩ | ⟨gv, capv, cur, rfl, hbg, hg, hnc, hcm, hcs, htake⟩
    · have hq := run_append_nil (P := P) w t ty e i (.slice none 0 0) ht hi hz a 1 c [.slice A' n' c'] (by rw [hsize]; rfl) hnw (by decide) (by decide) (by rw [hby]; omega)
      rw [hr] at hq
      injection hq with q1 q2
      injection q1 with q1
      injection q1 with q1
      simp at q1
      subst q1 q2
      refine dry_of (heap_alloc_new w.drew _) fun u hu => ?_
      simp only [Array.toList_append] at hu
      rcases List.mem_append.mp hu with hu | hu
      · simp at hu; exact hnot u hu
      · exact dry_zeros _ u hu
    · have hcd := dry_in hg (hd gv rfl)
      by_cases hroom : n + 1 ≤ capv
      · have hq := run_append_room (P := P) w t ty e i ht hi gv n capv cur hg a 1 c [.slice A' n' c'] (by rw [hsize]; rfl) hnw h1 hroom (by rw [hsize, hcs]; simp; omega)
        rw [hr] at hq
        injection hq with q1 q2
        injection q1 with q1
        injection q1 with q1
        simp at q1
        subst q1 q2
        refine dry_of (setRow_heap w _ cur _ e _ hg) fun u hu => ?_
        simp only [List.append_assoc] at hu
        rcases List.mem_append.mp hu with hu | hu
        · exact hcd u (List.mem_of_mem_take hu)
        · rcases List.mem_append.mp hu with hu | hu
          · simp at hu; exact hnot u hu
          · exact hcd u (List.mem_of_mem_drop hu)
      · have holds : ∀ j u, xs[j]? = some u → w.cell? ((⟨gv, 0, none⟩ : Addr).add j) = some u := hown.cells (g := gv) rfl
        have hq := run_append_grow (P := P) w t ty e i (.slice none 0 0) ht hi hz ⟨gv, 0, none⟩ n capv xs (by rw [hsize]; exact hown.1) holds a 1 c [.slice A' n' c'] (by rw [hsize]; rfl) hnw (by omega) (by omega) (growslice_fits (by omega) (by rw [hby]; exact hbytes))
        rw [hr] at hq
        injection hq with q1 q2
        injection q1 with q1
        injection q1 with q1
        simp at q1
        subst q1 q2
        refine dry_of (heap_alloc_new w.drew _) fun u hu => ?_
        simp only [Array.toList_append] at hu
        rcases List.mem_append.mp hu with hu | hu
        · rcases List.mem_append.mp hu with hu | hu
          · exact hcd u (by rw [← htake] at hu; exact List.mem_of_mem_take (by simpa using hu))
          · simp at hu; exact hnot u hu
        · exact dry_zeros _ u hu
theorem append_dry {P : Program} {w : World} {ops : Array Oper} {rest : List Oper} {o : Oper} {a : Act} {Q : Exit → Act → World → Prop} (hgd : o.guard = none) (s x : Operand) (t : TypeId)
    (ho : o.op = .call { callee := .builtin .append, args := #[s, x], argTypes := #[t, t] })
    (base : Nat) (e : TypeId) (i : TypeInfo) (bytes : Nat) (ht : P.underlying t = some (.slice e)) (hi : P.info? e = some i) (hz : i.zero = some (.slice none 0 0))
    (hsize : i.size = 1) (hby : i.bytes = bytes) (v : Value) (n : Nat) (xs : List Value) (hs : a.eval s = v) (hown : w.ownsRow base e 1 v n xs) (hd : Dry w v)
    (ad : Addr) (c : Nat) (A' : Option Addr) (n' c' : Nat) (hx : a.eval x = .slice (some ad) 1 c) (hnews : w.cell? (ad.add 0) = some (.slice A' n' c'))
    (h63 : n + 1 ≤ maxLen) (hbytes : (n + 1) * bytes ≤ 140737488355328) (hbase : base ≤ w.heap.size) (H : Nat) (hH : w.heap.size = H)
    (h : ∀ g cap w', w'.ownsRow base e 1 (.slice (some ⟨g, 0, none⟩) (n + 1) cap) (n + 1) (xs ++ [.slice A' n' c']) → w.grownBy w' v.ownBlock → (v.ownBlock = some g ∨ g = H) → g < w'.heap.size → Dry w' (.slice (some ⟨g, 0, none⟩) (n + 1) cap) → wpList P ops Q rest (a.put o.dst (.slice (some ⟨g, 0, none⟩) (n + 1) cap)) w') :
    wpList P ops Q (o :: rest) a w := by
  refine wpList_plain hgd fun K hK => ?_
  obtain ⟨g, cap, w', hr, h2, h3, h4, h5, h6⟩ := run_append_dry (P := P) w base t o.type e i bytes ht hi hz hsize hby v n xs hown hd ad c A' n' c' hnews h63 hbytes hbase
  unfold Oper.wp execOp
  simp only [ho, resolve, invoke, builtin, Sem.run_bind, Sem.run_pure, Result.andThen_ok, List.map_toArray, List.map_cons, List.map_nil, hs, hx, hr]
  exact hK _ _ (h g cap w' h2 h3 (hH ▸ h4) h5 h6)
end Go.Proofs.Ytefgepppcmhphaa
namespace Go.Proofs.Ytefgepppcmhphaa
set_option maxRecDepth 100000
set_option linter.unusedVariables false
set_option linter.unusedSimpArgs false
open Go.ChangeShapes Go.WideShapes Go.ChangeAt Go.RowKit
set_option linter.unusedVariables false
set_option linter.unusedSimpArgs false

/-- Where an instruction goes on, whatever the operands. -/
def nextAt (m : Img) (f q : Int) : List Int := match (mthN m f).code[q.toNat]? with
  | some i => nextOfOp q i.1 i.2.1
  | none => []
theorem nextAt_of {m : Img} {x : Mth} {F P : Nat} {op a b : Int} (hx : m.methods[F]? = some x) (hi : x.code[P]? = some (op, a, b)) : nextAt m F P = nextOfOp P op a := by
  unfold nextAt mthN
  rw [Int.toNat_natCast, hx, Option.getD_some, Int.toNat_natCast, hi]
theorem stepIn_next {m : Img} {x : Mth} {pc op a b : Int} {st : List (Int × Int)} (he : (stepIn m x pc op a b st).err = 0) : (stepIn m x pc op a b st).next = nextOfOp pc op a ∧ (stepIn m x pc op a b st).after.length ≤ 8 := by
  have e4 : ¬ (badStep 4).err = 0 := by unfold badStep; decide
  unfold stepIn at he ⊢
  by_cases h1 : (nextOfOp pc op a).head?.any (fun n => decide ((x.code.length : Int) ≤ n)) = true
  · rw [if_pos h1] at he; exact absurd he e4
  rw [if_neg h1] at he ⊢
  by_cases h2 : (op = 6 ∧ st = []) ∨ st.length < (takes m x op a b st).length ∨ 8 < st.length - (takes m x op a b st).length + (gives m x op a b st).length
  · rw [if_pos h2] at he; exact absurd he e4
  rw [if_neg h2] at he ⊢
  by_cases h3 : ((st.drop (st.length - (takes m x op a b st).length)).zip (takes m x op a b st)).all (fun p => doesB (supsOf m.classes) op p.1 p.2) = true
  · rw [if_pos h3]
    refine ⟨rfl, ?_⟩
    have : ¬ 8 < st.length - (takes m x op a b st).length + (gives m x op a b st).length := fun q => h2 (.inr (.inr q))
    show (List.take _ st ++ _).length ≤ 8
    rw [List.length_append, List.length_take]
    omega
  · rw [if_neg h3] at he; exact absurd he e4
/-- From a place all is as it should be. -/
def settledAt (m : Img) (f : Int) (S : List Shp) (pc : Nat) : Prop := (shpN S pc).seen = true → (stepOf m f pc (shpN S pc).stack).err = 0 ∧ ∀ n ∈ (stepOf m f pc (shpN S pc).stack).next, (shpN S n).seen = true ∧ (stepOf m f pc (shpN S pc).stack).after.length = (shpN S n).stack.length
/-- What holds of types while they are looked for. -/
structure GrowS (m : Img) (f : Int) (S : List Shp) : Prop where
  len : S.length = (mthN m f).code.length
  first : (shpN S 0).seen = true
  pred : ∀ i : Nat, i < S.length → i ≠ 0 → (shpN S i).seen = true → ∃ q : Nat, q < S.length ∧ q ≠ i ∧ (shpN S q).seen = true ∧ (i : Int) ∈ nextAt m f q
  small : ∀ s ∈ S, s.stack.length ≤ 8
/-- Types that were found. -/
structure FoundS (m : Img) (f : Int) (S : List Shp) : Prop where
  grow : GrowS m f S
  done : ∀ pc, pc < S.length → settledAt m f S pc
theorem shpN_set {S : List Shp} {q i : Nat} {s : Shp} (hq : q < S.length) : shpN (S.set q s) (i : Int) = if i = q then s else shpN S (i : Int) := by
  unfold shpN
  rw [Int.toNat_natCast, List.getElem?_set]
  by_cases h : q = i
  · subst h
    rw [if_pos rfl, if_pos rfl, if_pos hq]
    rfl
  · rw [if_neg h, if_neg (fun e => h e.symm)]
theorem GrowS.put {m : Img} {f : Int} {S : List Shp} (h : GrowS m f S) {p q : Nat} {L : List (Int × Int)} (hq : q < S.length) (hp : p < S.length) (hs : (shpN S p).seen = true) (hn : (q : Int) ∈ nextAt m f p) (hL : L.length ≤ 8) : GrowS m f (S.set q ⟨true, L⟩) := by
  have hset : ∀ i : Nat, shpN (S.set q ⟨true, L⟩) (i : Int) = if i = q then ⟨true, L⟩ else shpN S (i : Int) := fun i => shpN_set hq
  have hkeep : ∀ i : Nat, (shpN S i).seen = true → (shpN (S.set q ⟨true, L⟩) (i : Int)).seen = true := fun i hi => by
    rw [hset]
    by_cases e : i = q
    · rw [if_pos e]
    · rw [if_neg e]; exact hi
  refine ⟨by rw [List.length_set]; exact h.len, hkeep 0 h.first, fun i hi h0 hsi => ?_, fun s hs' => ?_⟩
  · rw [List.length_set] at hi
    rw [List.length_set]
    by_cases e : (shpN S i).seen = true
    · obtain ⟨r, r1, r2, r3, r4⟩ := h.pred i hi h0 e
      exact ⟨r, r1, r2, hkeep r r3, r4⟩
    · have hiq : i = q := by
        rw [hset] at hsi
        by_cases e2 : i = q
        · exact e2
        · rw [if_neg e2] at hsi; exact absurd hsi e
      subst hiq
      exact ⟨p, hp, fun e2 => e (by rw [← e2]; exact hs), hkeep p hs, hn⟩
  · rcases List.mem_or_eq_of_mem_set hs' with g | g
    · exact h.small s g
    · rw [g]; exact hL
theorem shpN_map {X : List Shx} {i : Nat} (hi : i < X.length) : shpN (X.map Shx.shp) (i : Int) = X[i].shp := by
  rw [shpN_at (by rw [List.length_map]; exact hi), List.getElem_map]
/-- What Shapes answers: a row of shapes of the call's own. -/
def ShapesOut (m : Img) (f : Int) (w : World) (e : Ending) (w' : World) : Prop := ∃ ok A c S, e = .returned (.tuple #[.slice A (S : List Shp).length c, .bool ok]) ∧ Below w.heap.size w w' ∧
  (ok = true → ∃ g X, A = some ⟨g, 0, none⟩ ∧ S = X.map Shx.shp ∧ c = S.length ∧ w.heap.size ≤ g ∧ OutIn w' g X ∧ FoundS m f S)
theorem shapes_bad {m : Img} {f : Int} {w w' : World} (hb : Below w.heap.size w w') : ShapesOut m f w (.returned (.tuple #[.slice none 0 0, .bool false])) w' := ⟨false, none, 0, [], rfl, hb, fun h => by cases h⟩
end Go.Proofs.Ytefgepppcmhphaa
namespace Go.Proofs.Ytefgepppcmhphaa
set_option maxRecDepth 100000
set_option linter.unusedVariables false
set_option linter.unusedSimpArgs false
open Go.ChangeShapes Go.WideShapes Go.ChangeAt Go.RowKit
set_option linter.unusedVariables false

/-- The first of some numbers that others hold, as a type of that class. -/
def firstIn (l y : List Int) : Int × Int := match l with
  | [] => (0, 0)
  | x :: r => if inB y x then (3, x) else firstIn r y
def joinR (sup : List Int) (k n k' n' : Int) : Int × Int :=
  if subB sup k n k' n' then (k', n') else if subB sup k' n' k n then (k, n) else if k = 3 ∧ k' = 3 then firstIn ((aboveI sup n).drop 1) (aboveI sup n') else (0, 0)

/-- The result's cells, behind whatever leaves them alone. -/
theorem res_cells {w w1 : World} {o1 o2 : Obj} {x y : Value} {T : TypeId} (hb : Below (((w.alloc o1).alloc o2).alloc (.cells #[x, y] T)).heap.size (((w.alloc o1).alloc o2).alloc (.cells #[x, y] T)) w1) :
    w1.cell? ⟨w.heap.size + 1 + 1, 0, none⟩ = some x ∧ w1.cell? ⟨w.heap.size + 1 + 1, 1, none⟩ = some y ∧ w1.frozen? ⟨w.heap.size + 1 + 1, 0, none⟩ = false ∧ w1.frozen? ⟨w.heap.size + 1 + 1, 1, none⟩ = false := by
  have hs : w.heap.size + 1 + 1 < (((w.alloc o1).alloc o2).alloc (.cells #[x, y] T)).heap.size := by simp
  have e : ((w.alloc o1).alloc o2).heap.size = w.heap.size + 1 + 1 := by simp
  refine ⟨(hb.cell hs).trans ?_, (hb.cell hs).trans ?_, (hb.frozen hs).trans ?_, (hb.frozen hs).trans ?_⟩
  · rw [World.cell?_alloc_at _ _ _ _ e.symm]; rfl
  · rw [World.cell?_alloc_at _ _ _ _ e.symm]; rfl
  · exact World.frozen?_alloc_at _ _ _ _ e.symm
  · exact World.frozen?_alloc_at _ _ _ _ e.symm

/-- The arguments' cells and the result's. -/
def Six (w : World) (N : Nat) (a b c d x y : Value) : Prop :=
  w.cell? ⟨N, 0, none⟩ = some a ∧ w.cell? ⟨N, 1, none⟩ = some b ∧ w.cell? ⟨N + 1, 0, none⟩ = some c ∧ w.cell? ⟨N + 1, 1, none⟩ = some d ∧
    w.cell? ⟨N + 1 + 1, 0, none⟩ = some x ∧ w.cell? ⟨N + 1 + 1, 1, none⟩ = some y ∧ w.frozen? ⟨N + 1 + 1, 0, none⟩ = false ∧ w.frozen? ⟨N + 1 + 1, 1, none⟩ = false
theorem Six.keep {w w' : World} {N C : Nat} {a b c d x y : Value} (h : Six w N a b c d x y) (hb : Below C w w') (hC : N + 1 + 1 < C) : Six w' N a b c d x y := by
  obtain ⟨h0, h1, h2, h3, h4, h5, h6, h7⟩ := h
  exact ⟨(hb.cell (show N < C by omega)).trans h0, (hb.cell (show N < C by omega)).trans h1, (hb.cell (show N + 1 < C by omega)).trans h2, (hb.cell (show N + 1 < C by omega)).trans h3,
    (hb.cell (show N + 1 + 1 < C by omega)).trans h4, (hb.cell (show N + 1 + 1 < C by omega)).trans h5, (hb.frozen (show N + 1 + 1 < C by omega)).trans h6, (hb.frozen (show N + 1 + 1 < C by omega)).trans h7⟩

/-- The arguments' cells, behind whatever leaves them alone. -/
theorem arg_cells {w w1 : World} {x y x' y' : Value} {T : TypeId} {o : Obj} (hb : Below (((w.alloc (.cells #[x, y] T)).alloc (.cells #[x', y'] T)).alloc o).heap.size (((w.alloc (.cells #[x, y] T)).alloc (.cells #[x', y'] T)).alloc o) w1) :
    w1.cell? ⟨w.heap.size, 0, none⟩ = some x ∧ w1.cell? ⟨w.heap.size, 1, none⟩ = some y ∧ w1.cell? ⟨w.heap.size + 1, 0, none⟩ = some x' ∧ w1.cell? ⟨w.heap.size + 1, 1, none⟩ = some y' := by
  have h0 : w.heap.size < (((w.alloc (.cells #[x, y] T)).alloc (.cells #[x', y'] T)).alloc o).heap.size := by simp; omega
  have h1 : w.heap.size + 1 < (((w.alloc (.cells #[x, y] T)).alloc (.cells #[x', y'] T)).alloc o).heap.size := by simp
  have e : (w.alloc (.cells #[x, y] T)).heap.size = w.heap.size + 1 := by simp
  refine ⟨(hb.cell h0).trans ?_, (hb.cell h0).trans ?_, (hb.cell h1).trans ?_, (hb.cell h1).trans ?_⟩
  · rw [World.cell?_alloc_past _ _ _ (by simp; omega), World.cell?_alloc_past _ _ _ (by simp), World.cell?_alloc_at _ _ _ _ rfl]; rfl
  · rw [World.cell?_alloc_past _ _ _ (by simp; omega), World.cell?_alloc_past _ _ _ (by simp), World.cell?_alloc_at _ _ _ _ rfl]; rfl
  · rw [World.cell?_alloc_past _ _ _ (by simp), World.cell?_alloc_at _ _ _ _ e.symm]; rfl
  · rw [World.cell?_alloc_past _ _ _ (by simp), World.cell?_alloc_at _ _ _ _ e.symm]; rfl

theorem rjoin_far (sup : List Int) (k n k' n' : Int) (A : Option Addr) (cap B : Nat) (w : World) (hl : sup.length ≤ 1048576) (hB : B ≤ w.heap.size) (h : Supers w B A sup) (hno : ¬ (k = 3 ∧ k' = 3) ∨ subB sup k n k' n' = true ∨ subB sup k' n' k n = true) :
    Calls Try.prog 32 #[.slice A sup.length cap, tyV k n, tyV k' n'] w fun e w' => e = .returned (tyV (joinR sup k n k' n').1 (joinR sup k n k' n').2) ∧ Below w.heap.size w w' := by
  have hW : Below w.heap.size w (((w.alloc (.cells #[.int .i64 k, .int .i64 n] 49)).alloc (.cells #[.int .i64 k', .int .i64 n'] 49)).alloc (.cells #[.int .i64 0, .int .i64 0] 49)) :=
    (((Below.refl w.heap.size w).alloc (Nat.le_refl _) _).alloc (by simp) _).alloc (by simp; omega) _
  have HS := Lib.hid (h.below_to hW hB)
  have HW := Lib.hid hW
  have HB := Lib.hid hB
  clear h hW hB
  have J := Lib.hid (show joinR sup k n k' n' = if subB sup k n k' n' then (k', n') else if subB sup k' n' k n then (k, n) else if k = 3 ∧ k' = 3 then firstIn ((aboveI sup n).drop 1) (aboveI sup n') else (0, 0) from rfl)
  generalize joinR sup k n k' n' = j at J ⊢
  have hz1 : w.heap.size < w.heap.size + 1 + 1 + 1 := by omega
  have hz2 : w.heap.size + 1 < w.heap.size + 1 + 1 + 1 := by omega
  by_cases h1 : subB sup k n k' n' = true
  · have J2 := Lib.hid (show j = (k', n') by rw [J.out, if_pos h1])
    have H1 := Lib.hid h1
    clear h1 J
    go_enter Try.func32, Try.ntmps32
    go_wp2_with (go_at_call 50; (with_reducible refine (rsub_any sup _ _ _ _ A cap B _ hl (by have := HB.out; simp; omega) HS.out).mono ?_); rintro e w1 ⟨he, hb⟩; rw [H1.out] at he; subst he; obtain ⟨hc, hf⟩ := below_cells hb; obtain ⟨r0, r1, r2, r3⟩ := res_cells hb)
    rw [J2.out]
    refine bodyPost_ret (v := tyV k' n') ?_ rfl ⟨rfl, ?_⟩
    · simp [results, Try.results32, go_sem, r0, r1]
    · exact HW.out.trans (((hb.mono (by simp; omega)).setCell (by simp; omega) _).setCell (by simp; omega) _)
  · have F1 := Lib.hid (show subB sup k n k' n' = false by simpa using h1)
    have H1 := F1
    clear h1
    by_cases h2 : subB sup k' n' k n = true
    · have J2 := Lib.hid (show j = (k, n) by rw [J.out, F1.out, h2]; rfl)
      have H2 := Lib.hid h2
      clear h2 J
      go_enter Try.func32, Try.ntmps32
      go_wp2_with (first | (go_at_call 50; (with_reducible refine (rsub_any sup _ _ _ _ A cap B _ hl (by have := HB.out; simp; omega) HS.out).mono ?_); rintro e w1 ⟨he, hb⟩; rw [H1.out] at he; subst he; obtain ⟨hc, hf⟩ := below_cells hb; obtain ⟨r0, r1, r2, r3⟩ := res_cells hb; obtain ⟨q0, q1, q2, q3⟩ := arg_cells hb; have HS1 := Lib.hid (HS.out.below_to hb (by have := HB.out; simp; omega)); have HZ := Lib.hid hb.size) | (go_at_call 50; (with_reducible refine (rsub_any sup _ _ _ _ A cap B _ hl (by have := HB.out; have := HZ.out; simp at this; omega) HS1.out).mono ?_); rintro e w2 ⟨he, hb2⟩; rw [H2.out] at he; subst he; have hbb := Lib.hid (hb.trans (hb2.mono hb.size)); clear hc hf r0 r1 r2 r3 q0 q1 q2 q3; obtain ⟨hc, hf⟩ := below_cells hbb.out; obtain ⟨r0, r1, r2, r3⟩ := res_cells hbb.out; obtain ⟨q0, q1, q2, q3⟩ := arg_cells hbb.out; have HS2 := Lib.hid (HS.out.below_to hbb.out (by have := HB.out; simp; omega)); have HZ2 := Lib.hid hbb.out.size))
      rw [J2.out]
      refine bodyPost_ret (v := tyV k n) ?_ rfl ⟨rfl, ?_⟩
      · simp [results, Try.results32, go_sem, r0, r1]
      · exact HW.out.trans (((hbb.out.mono (by simp; omega)).setCell (by simp; omega) _).setCell (by simp; omega) _)
    · have H2 := Lib.hid (show subB sup k' n' k n = false by simpa using h2)
      clear h2
      by_cases h3 : k = 3 ∧ k' = 3
      · rcases hno with g | g | g
        · exact absurd h3 g
        · rw [H1.out] at g; cases g
        · rw [H2.out] at g; cases g
      · have J2 := Lib.hid (show j = (0, 0) by rw [J.out, H1.out, H2.out, if_neg h3]; rfl)
        have h3' : ¬ k = 3 ∨ (k = 3 ∧ ¬ k' = 3) := by omega
        clear h3 J
        rcases h3' with h3 | ⟨rfl, h3⟩
        all_goals
          go_enter Try.func32, Try.ntmps32
          go_wp2_with (first | (go_at_call 50; (with_reducible refine (rsub_any sup _ _ _ _ A cap B _ hl (by have := HB.out; simp; omega) HS.out).mono ?_); rintro e w1 ⟨he, hb⟩; rw [H1.out] at he; subst he; obtain ⟨hc, hf⟩ := below_cells hb; obtain ⟨r0, r1, r2, r3⟩ := res_cells hb; obtain ⟨q0, q1, q2, q3⟩ := arg_cells hb; have HS1 := Lib.hid (HS.out.below_to hb (by have := HB.out; simp; omega)); have HZ := Lib.hid hb.size) | (go_at_call 50; (with_reducible refine (rsub_any sup _ _ _ _ A cap B _ hl (by have := HB.out; have := HZ.out; simp at this; omega) HS1.out).mono ?_); rintro e w2 ⟨he, hb2⟩; rw [H2.out] at he; subst he; have hbb := Lib.hid (hb.trans (hb2.mono hb.size)); clear hc hf r0 r1 r2 r3 q0 q1 q2 q3; obtain ⟨hc, hf⟩ := below_cells hbb.out; obtain ⟨r0, r1, r2, r3⟩ := res_cells hbb.out; obtain ⟨q0, q1, q2, q3⟩ := arg_cells hbb.out; have HS2 := Lib.hid (HS.out.below_to hbb.out (by have := HB.out; simp; omega)); have HZ2 := Lib.hid hbb.out.size))
          rw [J2.out]
          refine bodyPost_ret (v := tyV 0 0) ?_ rfl ⟨rfl, ?_⟩
          · simp [results, Try.results32, go_sem, r0, r1]
          · exact HW.out.trans (((hbb.out.mono (by simp; omega)).setCell (by simp; omega) _).setCell (by simp; omega) _)
end Go.Proofs.Ytefgepppcmhphaa
namespace Go.Proofs.Ytefgepppcmhphaa
set_option maxRecDepth 100000
set_option linter.unusedVariables false
set_option linter.unusedSimpArgs false
open Go.ChangeShapes Go.WideShapes Go.ChangeAt Go.RowKit
set_option linter.unusedVariables false

set_option maxHeartbeats 800000 in
theorem rjoin_33 (sup : List Int) (n n' : Int) (A : Option Addr) (cap B : Nat) (w : World) (hl : sup.length ≤ 1048576) (hB : B ≤ w.heap.size) (h : Supers w B A sup)
    (h1 : subB sup 3 n 3 n' = false) (h2 : subB sup 3 n' 3 n = false) :
    Calls Try.prog 32 #[.slice A sup.length cap, tyV 3 n, tyV 3 n'] w fun e w' => e = .returned (tyV (firstIn ((aboveI sup n).drop 1) (aboveI sup n')).1 (firstIn ((aboveI sup n).drop 1) (aboveI sup n')).2) ∧ Below w.heap.size w w' := by
  have hW : Below w.heap.size w (((w.alloc (.cells #[.int .i64 3, .int .i64 n] 49)).alloc (.cells #[.int .i64 3, .int .i64 n'] 49)).alloc (.cells #[.int .i64 0, .int .i64 0] 49)) :=
    (((Below.refl w.heap.size w).alloc (Nat.le_refl _) _).alloc (by simp) _).alloc (by simp; omega) _
  have HS := Lib.hid (h.below_to hW hB)
  have HW := Lib.hid hW
  have HB := Lib.hid hB
  clear h hW hB
  have H1 := Lib.hid h1
  have H2 := Lib.hid h2
  clear h1 h2
  generalize hj : firstIn ((aboveI sup n).drop 1) (aboveI sup n') = j
  have J2 := Lib.hid hj.symm
  clear hj
  go_enter Try.func32, Try.ntmps32
  go_wp2_with (first | (go_at_call 50; (with_reducible refine (rsub_any sup _ _ _ _ A cap B _ hl (by have := HB.out; simp; omega) HS.out).mono ?_); rintro e w1 ⟨he, hb⟩; rw [H1.out] at he; subst he; obtain ⟨hc, hf⟩ := below_cells hb; obtain ⟨r0, r1, r2, r3⟩ := res_cells hb; obtain ⟨q0, q1, q2, q3⟩ := arg_cells hb; have HS1 := Lib.hid (HS.out.below_to hb (by have := HB.out; simp; omega)); have HZ := Lib.hid hb.size) | (go_at_call 50; (with_reducible refine (rsub_any sup _ _ _ _ A cap B _ hl (by have := HB.out; have := HZ.out; simp at this; omega) HS1.out).mono ?_); rintro e w2 ⟨he, hb2⟩; rw [H2.out] at he; subst he; have hbb := Lib.hid (hb.trans (hb2.mono hb.size)); clear hc hf r0 r1 r2 r3 q0 q1 q2 q3; obtain ⟨hc, hf⟩ := below_cells hbb.out; obtain ⟨r0, r1, r2, r3⟩ := res_cells hbb.out; obtain ⟨q0, q1, q2, q3⟩ := arg_cells hbb.out; have HS2 := Lib.hid (HS.out.below_to hbb.out (by have := HB.out; simp; omega)); have HZ2 := Lib.hid hbb.out.size))
  have y2 : w.heap.size + 1 + 1 < w2.heap.size := by have := HZ2.out; simp at this; omega
  have yB : B ≤ w2.heap.size := by have := HB.out; omega
  have X2 : Six w2 w.heap.size (.int .i64 3) (.int .i64 n) (.int .i64 3) (.int .i64 n') (.int .i64 0) (.int .i64 0) := ⟨q0, q1, q2, q3, r0, r1, r2, r3⟩
  have X2d : Six w2.drew w.heap.size (.int .i64 3) (.int .i64 n) (.int .i64 3) (.int .i64 n') (.int .i64 0) (.int .i64 0) := X2
  have yBd : B ≤ w2.drew.heap.size := yB
  have y2d : w.heap.size + 1 + 1 < w2.drew.heap.size := y2
  have HS2d : Hid (Supers w2.drew B A sup) := HS2
  have XB := Lib.hid X2d
  clear hc hf hb hb2 X2 X2d
  have hLA := Lib.hid (aboveI_len sup n)
  have hLB := Lib.hid (aboveI_len sup n')
  go_region_held3 (fun w' => w'.cell? ⟨w.heap.size, 0, none⟩ = some (.int .i64 3) ∧ w'.cell? ⟨w.heap.size, 1, none⟩ = some (.int .i64 n) ∧ w'.cell? ⟨w.heap.size + 1, 0, none⟩ = some (.int .i64 3) ∧ w'.cell? ⟨w.heap.size + 1, 1, none⟩ = some (.int .i64 n'))
    (first | go_keep | exact ⟨c0, c1, c2, c3⟩ | exact ⟨d0, d1, d2, d3⟩)
    (first
      | (go_at_call 54; (with_reducible refine (rabove_any sup n A cap B _ hl yBd HS2d.out).mono ?_); rintro e w3 ⟨v, rfl, ho3, hb3⟩; obtain ⟨A3, c3', rfl, hl3⟩ := own_slice ho3; have HL3 := Lib.hid hl3; clear hl3; have X3 := XB.out.keep hb3 y2d; obtain ⟨c0, c1, c2, c3, _⟩ := X3; have XC := Lib.hid (XB.out.keep hb3 y2d); have HS3 := Lib.hid (HS2d.out.below_to hb3 yBd); have y3 : w2.drew.heap.size ≤ w3.heap.size := hb3.size)
      | (go_at_call 54; (with_reducible refine (rabove_any sup n' A cap B _ hl (Nat.le_trans yBd y3) HS3.out).mono ?_); rintro e w4 ⟨v, rfl, ho4, hb4⟩; obtain ⟨A4, c4', rfl, hl4⟩ := own_slice ho4; have HL4 := Lib.hid hl4; clear hl4; have X4 := XC.out.keep hb4 (Nat.lt_of_lt_of_le y2d y3); obtain ⟨d0, d1, d2, d3, d4, d5, d6, d7⟩ := X4; have HL3' := Lib.hid (HL3.out.below hb4); have HB4 := Lib.hid (hb3.trans (hb4.mono y3))))
  go_wp2_with fail
  have HF := Lib.hid (hbb.out.drew.trans (HB4.out.mono HZ2.out))
  clear d0 d1 d2 d3 c0 c1 c2 c3
  generalize hX : aboveI sup n = X at *
  generalize hY : aboveI sup n' = Y at *
  clear hX hY
  go_loop [9] (fun i => ∃ k : Nat, 1 ≤ k ∧ (k : Int) ≤ 1048577 ∧ i = .int .i64 k ∧ firstIn (X.drop 1) Y = firstIn (X.drop k) Y) (fun i => X.length - (intOf i).toNat)
  case atStart => exact ⟨1, by omega, by omega, rfl, rfl⟩
  case round =>
    obtain ⟨k, hk, hk2, rfl, hn⟩ := hrel
    have HN := Lib.hid hn
    clear hn
    by_cases hlt : k < X.length
    · obtain ⟨ad, rfl, _, hcell⟩ := HL3'.out.at_ (k := k) (by simpa using hlt)
      have E1 := Lib.hid (List.drop_eq_getElem_cons hlt)
      simp only [List.getElem_map] at hcell
      generalize X[k] = x at *
      by_cases hin : inB Y x = true
      · have R := Lib.hid (show firstIn (X.drop 1) Y = (3, x) by rw [HN.out, E1.out]; simp only [firstIn]; rw [if_pos hin])
        have HI := Lib.hid hin
        clear HN E1 hin
        go_wp2_with (go_at_call 25; (with_reducible refine (rin_any Y x _ _ _ _ (by have := hLB.out; omega) HL4.out).mono ?_); rintro e w5 ⟨he, rfl⟩; rw [HI.out] at he; subst he)
        rw [J2.out, R.out]
        refine bodyPost_ret (v := tyV 3 x) ?_ rfl ⟨rfl, ?_⟩
        · simp [results, Try.results32, go_sem, d4, d5]
        · exact HW.out.trans (((HF.out.mono (by simp; omega)).setCell (by simp; omega) _).setCell (by simp; omega) _)
      · have R := Lib.hid (show firstIn (X.drop 1) Y = firstIn (X.drop (k + 1)) Y by rw [HN.out, E1.out]; simp only [firstIn]; rw [if_neg hin])
        have HI := Lib.hid (show inB Y x = false by simpa using hin)
        clear HN E1 hin
        go_wp2_with (go_at_call 25; (with_reducible refine (rin_any Y x _ _ _ _ (by have := hLB.out; omega) HL4.out).mono ?_); rintro e w5 ⟨he, rfl⟩; rw [HI.out] at he; subst he)
        go_round
        case rel => exact ⟨k + 1, by omega, by have := hLA.out; omega, by go_num, R.out⟩
        case measure => simp [intOf]; omega
    · have R := Lib.hid (show firstIn (X.drop 1) Y = (0, 0) by rw [HN.out, List.drop_eq_nil_of_le (by omega)]; rfl)
      clear HN
      go_wp2_with fail
      rw [J2.out, R.out]
      refine bodyPost_ret (v := tyV 0 0) ?_ rfl ⟨rfl, ?_⟩
      · simp [results, Try.results32, go_sem, d4, d5]
      · exact HW.out.trans (((HF.out.mono (by simp; omega)).setCell (by simp; omega) _).setCell (by simp; omega) _)

theorem rjoin_any (sup : List Int) (k n k' n' : Int) (A : Option Addr) (cap B : Nat) (w : World) (hl : sup.length ≤ 1048576) (hB : B ≤ w.heap.size) (h : Supers w B A sup) :
    Calls Try.prog 32 #[.slice A sup.length cap, tyV k n, tyV k' n'] w fun e w' => e = .returned (tyV (joinR sup k n k' n').1 (joinR sup k n k' n').2) ∧ Below w.heap.size w w' := by
  by_cases h1 : subB sup k n k' n' = true
  · exact rjoin_far sup k n k' n' A cap B w hl hB h (.inr (.inl h1))
  · by_cases h2 : subB sup k' n' k n = true
    · exact rjoin_far sup k n k' n' A cap B w hl hB h (.inr (.inr h2))
    · by_cases h3 : k = 3 ∧ k' = 3
      · obtain ⟨rfl, rfl⟩ := h3
        have e : joinR sup 3 n 3 n' = firstIn ((aboveI sup n).drop 1) (aboveI sup n') := by unfold joinR; rw [if_neg h1, if_neg h2, if_pos ⟨rfl, rfl⟩]
        rw [e]
        exact rjoin_33 sup n n' A cap B w hl hB h (by simpa using h1) (by simpa using h2)
      · exact rjoin_far sup k n k' n' A cap B w hl hB h (.inl h3)
end Go.Proofs.Ytefgepppcmhphaa
