/-
  What types that are found round by round keep to. Plain definitions and lemmas; no conditions.
  What the document's own answers for types come to: Join (the least that two fit).
  What the document's own answer for the least type that two fit (Join) comes to, where both are of classes; and at any two types.
  Plain facts of what two types join to.
  What types at each instruction grow to: joins of operands, and ranks that fall. Plain definitions and lemmas; no conditions.
-/
import Derived.Test.YtgpmdhdooglkfaaM31
import Derived.Test.YtgpmdhdooglkfaaM23
import Derived.IntWalk
import Derived.RegionTactic
import Derived.ChangeAlike
import Derived.Deep.RegionHeld3
import Derived.Deep.QuietTactic
import Derived.BigQuiet
import Derived.Test.YtgpmdhdooglkfaaM12
namespace Go.Proofs.Ytgpmdhdooglkfaa
set_option maxRecDepth 100000
set_option linter.unusedVariables false
set_option linter.unusedSimpArgs false
open Go.ChangeShapes Go.WideShapes Go.ChangeAt Go.RowKit
set_option linter.unusedVariables false
set_option linter.unusedSimpArgs false

/-- Where an instruction goes on, whatever the operands. -/
def nextAt (m : Img) (f q : Int) : List Int := match (mthN m f).code[q.toNat]? with
  | some i => nextOfOp q i.1 i.2.1
  | none => []
theorem nextAt_of {m : Img} {x : Mth} {F P : Nat} {op a b : Int} (hx : m.methods[F]? = some x) (hi : x.code[P]? = some (op, a, b)) : nextAt m F P = nextOfOp P op a := by
  unfold nextAt mthN
  rw [Int.toNat_natCast, hx, Option.getD_some, Int.toNat_natCast, hi]
theorem stepIn_next {m : Img} {x : Mth} {pc op a b : Int} {st : List (Int × Int)} (he : (stepIn m x pc op a b st).err = 0) : (stepIn m x pc op a b st).next = nextOfOp pc op a ∧ (stepIn m x pc op a b st).after.length ≤ 8 := by
  have e4 : ¬ (badStep 4).err = 0 := by unfold badStep; decide
  unfold stepIn at he ⊢
  by_cases h1 : (nextOfOp pc op a).head?.any (fun n => decide ((x.code.length : Int) ≤ n)) = true
  · rw [if_pos h1] at he; exact absurd he e4
  rw [if_neg h1] at he ⊢
  by_cases h2 : (op = 6 ∧ st = []) ∨ st.length < (takes m x op a b st).length ∨ 8 < st.length - (takes m x op a b st).length + (gives m x op a b st).length
  · rw [if_pos h2] at he; exact absurd he e4
  rw [if_neg h2] at he ⊢
  by_cases h3 : ((st.drop (st.length - (takes m x op a b st).length)).zip (takes m x op a b st)).all (fun p => doesB (supsOf m.classes) op p.1 p.2) = true
  · rw [if_pos h3]
    refine ⟨rfl, ?_⟩
    have : ¬ 8 < st.length - (takes m x op a b st).length + (gives m x op a b st).length := fun q => h2 (.inr (.inr q))
    show (List.take _ st ++ _).length ≤ 8
    rw [List.length_append, List.length_take]
    omega
  · rw [if_neg h3] at he; exact absurd he e4
/-- From a place all is as it should be. -/
def settledAt (m : Img) (f : Int) (S : List Shp) (pc : Nat) : Prop := (shpN S pc).seen = true → (stepOf m f pc (shpN S pc).stack).err = 0 ∧ ∀ n ∈ (stepOf m f pc (shpN S pc).stack).next, (shpN S n).seen = true ∧ (stepOf m f pc (shpN S pc).stack).after.length = (shpN S n).stack.length
/-- What holds of types while they are looked for. -/
structure GrowS (m : Img) (f : Int) (S : List Shp) : Prop where
  len : S.length = (mthN m f).code.length
  first : (shpN S 0).seen = true
  pred : ∀ i : Nat, i < S.length → i ≠ 0 → (shpN S i).seen = true → ∃ q : Nat, q < S.length ∧ q ≠ i ∧ (shpN S q).seen = true ∧ (i : Int) ∈ nextAt m f q
  small : ∀ s ∈ S, s.stack.length ≤ 8
/-- Types that were found. -/
structure FoundS (m : Img) (f : Int) (S : List Shp) : Prop where
  grow : GrowS m f S
  done : ∀ pc, pc < S.length → settledAt m f S pc
theorem shpN_set {S : List Shp} {q i : Nat} {s : Shp} (hq : q < S.length) : shpN (S.set q s) (i : Int) = if i = q then s else shpN S (i : Int) := by
  unfold shpN
  rw [Int.toNat_natCast, List.getElem?_set]
  by_cases h : q = i
  · subst h
    rw [if_pos rfl, if_pos rfl, if_pos hq]
    rfl
  · rw [if_neg h, if_neg (fun e => h e.symm)]
theorem GrowS.put {m : Img} {f : Int} {S : List Shp} (h : GrowS m f S) {p q : Nat} {L : List (Int × Int)} (hq : q < S.length) (hp : p < S.length) (hs : (shpN S p).seen = true) (hn : (q : Int) ∈ nextAt m f p) (hL : L.length ≤ 8) : GrowS m f (S.set q ⟨true, L⟩) := by
  have hset : ∀ i : Nat, shpN (S.set q ⟨true, L⟩) (i : Int) = if i = q then ⟨true, L⟩ else shpN S (i : Int) := fun i => shpN_set hq
  have hkeep : ∀ i : Nat, (shpN S i).seen = true → (shpN (S.set q ⟨true, L⟩) (i : Int)).seen = true := fun i hi => by
    rw [hset]
    by_cases e : i = q
    · rw [if_pos e]
    · rw [if_neg e]; exact hi
  refine ⟨by rw [List.length_set]; exact h.len, hkeep 0 h.first, fun i hi h0 hsi => ?_, fun s hs' => ?_⟩
  · rw [List.length_set] at hi
    rw [List.length_set]
    by_cases e : (shpN S i).seen = true
    · obtain ⟨r, r1, r2, r3, r4⟩ := h.pred i hi h0 e
      exact ⟨r, r1, r2, hkeep r r3, r4⟩
    · have hiq : i = q := by
        rw [hset] at hsi
        by_cases e2 : i = q
        · exact e2
        · rw [if_neg e2] at hsi; exact absurd hsi e
      subst hiq
      exact ⟨p, hp, fun e2 => e (by rw [← e2]; exact hs), hkeep p hs, hn⟩
  · rcases List.mem_or_eq_of_mem_set hs' with g | g
    · exact h.small s g
    · rw [g]; exact hL
theorem shpN_map {X : List Shx} {i : Nat} (hi : i < X.length) : shpN (X.map Shx.shp) (i : Int) = X[i].shp := by
  rw [shpN_at (by rw [List.length_map]; exact hi), List.getElem_map]
/-- What Shapes answers: a row of shapes of the call's own. -/
def ShapesOut (m : Img) (f : Int) (w : World) (e : Ending) (w' : World) : Prop := ∃ ok A c S, e = .returned (.tuple #[.slice A (S : List Shp).length c, .bool ok]) ∧ Below w.heap.size w w' ∧
  (ok = true → ∃ g X, A = some ⟨g, 0, none⟩ ∧ S = X.map Shx.shp ∧ c = S.length ∧ w.heap.size ≤ g ∧ OutIn w' g X ∧ FoundS m f S)
theorem shapes_bad {m : Img} {f : Int} {w w' : World} (hb : Below w.heap.size w w') : ShapesOut m f w (.returned (.tuple #[.slice none 0 0, .bool false])) w' := ⟨false, none, 0, [], rfl, hb, fun h => by cases h⟩
end Go.Proofs.Ytgpmdhdooglkfaa
namespace Go.Proofs.Ytgpmdhdooglkfaa
set_option maxRecDepth 100000
set_option linter.unusedVariables false
set_option linter.unusedSimpArgs false
open Go.ChangeShapes Go.WideShapes Go.ChangeAt Go.RowKit
set_option linter.unusedVariables false

/-- The first of some numbers that others hold, as a type of that class. -/
def firstIn (l y : List Int) : Int × Int := match l with
  | [] => (0, 0)
  | x :: r => if inB y x then (3, x) else firstIn r y
def joinR (sup : List Int) (k n k' n' : Int) : Int × Int :=
  if subB sup k n k' n' then (k', n') else if subB sup k' n' k n then (k, n) else if k = 3 ∧ k' = 3 then firstIn ((aboveI sup n).drop 1) (aboveI sup n') else (0, 0)

/-- The result's cells, behind whatever leaves them alone. -/
theorem res_cells {w w1 : World} {o1 o2 : Obj} {x y : Value} {T : TypeId} (hb : Below (((w.alloc o1).alloc o2).alloc (.cells #[x, y] T)).heap.size (((w.alloc o1).alloc o2).alloc (.cells #[x, y] T)) w1) :
    w1.cell? ⟨w.heap.size + 1 + 1, 0, none⟩ = some x ∧ w1.cell? ⟨w.heap.size + 1 + 1, 1, none⟩ = some y ∧ w1.frozen? ⟨w.heap.size + 1 + 1, 0, none⟩ = false ∧ w1.frozen? ⟨w.heap.size + 1 + 1, 1, none⟩ = false := by
  have hs : w.heap.size + 1 + 1 < (((w.alloc o1).alloc o2).alloc (.cells #[x, y] T)).heap.size := by simp
  have e : ((w.alloc o1).alloc o2).heap.size = w.heap.size + 1 + 1 := by simp
  refine ⟨(hb.cell hs).trans ?_, (hb.cell hs).trans ?_, (hb.frozen hs).trans ?_, (hb.frozen hs).trans ?_⟩
  · rw [World.cell?_alloc_at _ _ _ _ e.symm]; rfl
  · rw [World.cell?_alloc_at _ _ _ _ e.symm]; rfl
  · exact World.frozen?_alloc_at _ _ _ _ e.symm
  · exact World.frozen?_alloc_at _ _ _ _ e.symm

/-- The arguments' cells and the result's. -/
def Six (w : World) (N : Nat) (a b c d x y : Value) : Prop :=
  w.cell? ⟨N, 0, none⟩ = some a ∧ w.cell? ⟨N, 1, none⟩ = some b ∧ w.cell? ⟨N + 1, 0, none⟩ = some c ∧ w.cell? ⟨N + 1, 1, none⟩ = some d ∧
    w.cell? ⟨N + 1 + 1, 0, none⟩ = some x ∧ w.cell? ⟨N + 1 + 1, 1, none⟩ = some y ∧ w.frozen? ⟨N + 1 + 1, 0, none⟩ = false ∧ w.frozen? ⟨N + 1 + 1, 1, none⟩ = false
theorem Six.keep {w w' : World} {N C : Nat} {a b c d x y : Value} (h : Six w N a b c d x y) (hb : Below C w w') (hC : N + 1 + 1 < C) : Six w' N a b c d x y := by
  obtain ⟨h0, h1, h2, h3, h4, h5, h6, h7⟩ := h
  exact ⟨(hb.cell (show N < C by omega)).trans h0, (hb.cell (show N < C by omega)).trans h1, (hb.cell (show N + 1 < C by omega)).trans h2, (hb.cell (show N + 1 < C by omega)).trans h3,
    (hb.cell (show N + 1 + 1 < C by omega)).trans h4, (hb.cell (show N + 1 + 1 < C by omega)).trans h5, (hb.frozen (show N + 1 + 1 < C by omega)).trans h6, (hb.frozen (show N + 1 + 1 < C by omega)).trans h7⟩

/-- The arguments' cells, behind whatever leaves them alone. -/
theorem arg_cells {w w1 : World} {x y x' y' : Value} {T : TypeId} {o : Obj} (hb : Below (((w.alloc (.cells #[x, y] T)).alloc (.cells #[x', y'] T)).alloc o).heap.size (((w.alloc (.cells #[x, y] T)).alloc (.cells #[x', y'] T)).alloc o) w1) :
    w1.cell? ⟨w.heap.size, 0, none⟩ = some x ∧ w1.cell? ⟨w.heap.size, 1, none⟩ = some y ∧ w1.cell? ⟨w.heap.size + 1, 0, none⟩ = some x' ∧ w1.cell? ⟨w.heap.size + 1, 1, none⟩ = some y' := by
  have h0 : w.heap.size < (((w.alloc (.cells #[x, y] T)).alloc (.cells #[x', y'] T)).alloc o).heap.size := by simp; omega
  have h1 : w.heap.size + 1 < (((w.alloc (.cells #[x, y] T)).alloc (.cells #[x', y'] T)).alloc o).heap.size := by simp
  have e : (w.alloc (.cells #[x, y] T)).heap.size = w.heap.size + 1 := by simp
  refine ⟨(hb.cell h0).trans ?_, (hb.cell h0).trans ?_, (hb.cell h1).trans ?_, (hb.cell h1).trans ?_⟩
  · rw [World.cell?_alloc_past _ _ _ (by simp; omega), World.cell?_alloc_past _ _ _ (by simp), World.cell?_alloc_at _ _ _ _ rfl]; rfl
  · rw [World.cell?_alloc_past _ _ _ (by simp; omega), World.cell?_alloc_past _ _ _ (by simp), World.cell?_alloc_at _ _ _ _ rfl]; rfl
  · rw [World.cell?_alloc_past _ _ _ (by simp), World.cell?_alloc_at _ _ _ _ e.symm]; rfl
  · rw [World.cell?_alloc_past _ _ _ (by simp), World.cell?_alloc_at _ _ _ _ e.symm]; rfl

theorem rjoin_far (sup : List Int) (k n k' n' : Int) (A : Option Addr) (cap B : Nat) (w : World) (hl : sup.length ≤ 1048576) (hB : B ≤ w.heap.size) (h : Supers w B A sup) (hno : ¬ (k = 3 ∧ k' = 3) ∨ subB sup k n k' n' = true ∨ subB sup k' n' k n = true) :
    Calls Try.prog 38 #[.slice A sup.length cap, tyV k n, tyV k' n'] w fun e w' => e = .returned (tyV (joinR sup k n k' n').1 (joinR sup k n k' n').2) ∧ Below w.heap.size w w' := by
  have hW : Below w.heap.size w (((w.alloc (.cells #[.int .i64 k, .int .i64 n] 39)).alloc (.cells #[.int .i64 k', .int .i64 n'] 39)).alloc (.cells #[.int .i64 0, .int .i64 0] 39)) :=
    (((Below.refl w.heap.size w).alloc (Nat.le_refl _) _).alloc (by simp) _).alloc (by simp; omega) _
  have HS := Lib.hid (h.below_to hW hB)
  have HW := Lib.hid hW
  have HB := Lib.hid hB
  clear h hW hB
  have J := Lib.hid (show joinR sup k n k' n' = if subB sup k n k' n' then (k', n') else if subB sup k' n' k n then (k, n) else if k = 3 ∧ k' = 3 then firstIn ((aboveI sup n).drop 1) (aboveI sup n') else (0, 0) from rfl)
  generalize joinR sup k n k' n' = j at J ⊢
  have hz1 : w.heap.size < w.heap.size + 1 + 1 + 1 := by omega
  have hz2 : w.heap.size + 1 < w.heap.size + 1 + 1 + 1 := by omega
  by_cases h1 : subB sup k n k' n' = true
  · have J2 := Lib.hid (show j = (k', n') by rw [J.out, if_pos h1])
    have H1 := Lib.hid h1
    clear h1 J
    go_enter Try.func38, Try.ntmps38
    go_wp2_with (go_at_call 42; (with_reducible refine (rsub_any sup _ _ _ _ A cap B _ hl (by have := HB.out; simp; omega) HS.out).mono ?_); rintro e w1 ⟨he, hb⟩; rw [H1.out] at he; subst he; obtain ⟨hc, hf⟩ := below_cells hb; obtain ⟨r0, r1, r2, r3⟩ := res_cells hb)
    rw [J2.out]
    refine bodyPost_ret (v := tyV k' n') ?_ rfl ⟨rfl, ?_⟩
    · simp [results, Try.results38, go_sem, r0, r1]
    · exact HW.out.trans (((hb.mono (by simp; omega)).setCell (by simp; omega) _).setCell (by simp; omega) _)
  · have F1 := Lib.hid (show subB sup k n k' n' = false by simpa using h1)
    have H1 := F1
    clear h1
    by_cases h2 : subB sup k' n' k n = true
    · have J2 := Lib.hid (show j = (k, n) by rw [J.out, F1.out, h2]; rfl)
      have H2 := Lib.hid h2
      clear h2 J
      go_enter Try.func38, Try.ntmps38
      go_wp2_with (first | (go_at_call 42; (with_reducible refine (rsub_any sup _ _ _ _ A cap B _ hl (by have := HB.out; simp; omega) HS.out).mono ?_); rintro e w1 ⟨he, hb⟩; rw [H1.out] at he; subst he; obtain ⟨hc, hf⟩ := below_cells hb; obtain ⟨r0, r1, r2, r3⟩ := res_cells hb; obtain ⟨q0, q1, q2, q3⟩ := arg_cells hb; have HS1 := Lib.hid (HS.out.below_to hb (by have := HB.out; simp; omega)); have HZ := Lib.hid hb.size) | (go_at_call 42; (with_reducible refine (rsub_any sup _ _ _ _ A cap B _ hl (by have := HB.out; have := HZ.out; simp at this; omega) HS1.out).mono ?_); rintro e w2 ⟨he, hb2⟩; rw [H2.out] at he; subst he; have hbb := Lib.hid (hb.trans (hb2.mono hb.size)); clear hc hf r0 r1 r2 r3 q0 q1 q2 q3; obtain ⟨hc, hf⟩ := below_cells hbb.out; obtain ⟨r0, r1, r2, r3⟩ := res_cells hbb.out; obtain ⟨q0, q1, q2, q3⟩ := arg_cells hbb.out; have HS2 := Lib.hid (HS.out.below_to hbb.out (by have := HB.out; simp; omega)); have HZ2 := Lib.hid hbb.out.size))
      rw [J2.out]
      refine bodyPost_ret (v := tyV k n) ?_ rfl ⟨rfl, ?_⟩
      · simp [results, Try.results38, go_sem, r0, r1]
      · exact HW.out.trans (((hbb.out.mono (by simp; omega)).setCell (by simp; omega) _).setCell (by simp; omega) _)
    · have H2 := Lib.hid (show subB sup k' n' k n = false by simpa using h2)
      clear h2
      by_cases h3 : k = 3 ∧ k' = 3
      · rcases hno with g | g | g
        · exact absurd h3 g
        · rw [H1.out] at g; cases g
        · rw [H2.out] at g; cases g
      · have J2 := Lib.hid (show j = (0, 0) by rw [J.out, H1.out, H2.out, if_neg h3]; rfl)
        have h3' : ¬ k = 3 ∨ (k = 3 ∧ ¬ k' = 3) := by omega
        clear h3 J
        rcases h3' with h3 | ⟨rfl, h3⟩
        all_goals
          go_enter Try.func38, Try.ntmps38
          go_wp2_with (first | (go_at_call 42; (with_reducible refine (rsub_any sup _ _ _ _ A cap B _ hl (by have := HB.out; simp; omega) HS.out).mono ?_); rintro e w1 ⟨he, hb⟩; rw [H1.out] at he; subst he; obtain ⟨hc, hf⟩ := below_cells hb; obtain ⟨r0, r1, r2, r3⟩ := res_cells hb; obtain ⟨q0, q1, q2, q3⟩ := arg_cells hb; have HS1 := Lib.hid (HS.out.below_to hb (by have := HB.out; simp; omega)); have HZ := Lib.hid hb.size) | (go_at_call 42; (with_reducible refine (rsub_any sup _ _ _ _ A cap B _ hl (by have := HB.out; have := HZ.out; simp at this; omega) HS1.out).mono ?_); rintro e w2 ⟨he, hb2⟩; rw [H2.out] at he; subst he; have hbb := Lib.hid (hb.trans (hb2.mono hb.size)); clear hc hf r0 r1 r2 r3 q0 q1 q2 q3; obtain ⟨hc, hf⟩ := below_cells hbb.out; obtain ⟨r0, r1, r2, r3⟩ := res_cells hbb.out; obtain ⟨q0, q1, q2, q3⟩ := arg_cells hbb.out; have HS2 := Lib.hid (HS.out.below_to hbb.out (by have := HB.out; simp; omega)); have HZ2 := Lib.hid hbb.out.size))
          rw [J2.out]
          refine bodyPost_ret (v := tyV 0 0) ?_ rfl ⟨rfl, ?_⟩
          · simp [results, Try.results38, go_sem, r0, r1]
          · exact HW.out.trans (((hbb.out.mono (by simp; omega)).setCell (by simp; omega) _).setCell (by simp; omega) _)
end Go.Proofs.Ytgpmdhdooglkfaa
namespace Go.Proofs.Ytgpmdhdooglkfaa
set_option maxRecDepth 100000
set_option linter.unusedVariables false
set_option linter.unusedSimpArgs false
open Go.ChangeShapes Go.WideShapes Go.ChangeAt Go.RowKit
set_option linter.unusedVariables false

set_option maxHeartbeats 800000 in
theorem rjoin_33 (sup : List Int) (n n' : Int) (A : Option Addr) (cap B : Nat) (w : World) (hl : sup.length ≤ 1048576) (hB : B ≤ w.heap.size) (h : Supers w B A sup)
    (h1 : subB sup 3 n 3 n' = false) (h2 : subB sup 3 n' 3 n = false) :
    Calls Try.prog 38 #[.slice A sup.length cap, tyV 3 n, tyV 3 n'] w fun e w' => e = .returned (tyV (firstIn ((aboveI sup n).drop 1) (aboveI sup n')).1 (firstIn ((aboveI sup n).drop 1) (aboveI sup n')).2) ∧ Below w.heap.size w w' := by
  have hW : Below w.heap.size w (((w.alloc (.cells #[.int .i64 3, .int .i64 n] 39)).alloc (.cells #[.int .i64 3, .int .i64 n'] 39)).alloc (.cells #[.int .i64 0, .int .i64 0] 39)) :=
    (((Below.refl w.heap.size w).alloc (Nat.le_refl _) _).alloc (by simp) _).alloc (by simp; omega) _
  have HS := Lib.hid (h.below_to hW hB)
  have HW := Lib.hid hW
  have HB := Lib.hid hB
  clear h hW hB
  have H1 := Lib.hid h1
  have H2 := Lib.hid h2
  clear h1 h2
  generalize hj : firstIn ((aboveI sup n).drop 1) (aboveI sup n') = j
  have J2 := Lib.hid hj.symm
  clear hj
  go_enter Try.func38, Try.ntmps38
  go_wp2_with (first | (go_at_call 42; (with_reducible refine (rsub_any sup _ _ _ _ A cap B _ hl (by have := HB.out; simp; omega) HS.out).mono ?_); rintro e w1 ⟨he, hb⟩; rw [H1.out] at he; subst he; obtain ⟨hc, hf⟩ := below_cells hb; obtain ⟨r0, r1, r2, r3⟩ := res_cells hb; obtain ⟨q0, q1, q2, q3⟩ := arg_cells hb; have HS1 := Lib.hid (HS.out.below_to hb (by have := HB.out; simp; omega)); have HZ := Lib.hid hb.size) | (go_at_call 42; (with_reducible refine (rsub_any sup _ _ _ _ A cap B _ hl (by have := HB.out; have := HZ.out; simp at this; omega) HS1.out).mono ?_); rintro e w2 ⟨he, hb2⟩; rw [H2.out] at he; subst he; have hbb := Lib.hid (hb.trans (hb2.mono hb.size)); clear hc hf r0 r1 r2 r3 q0 q1 q2 q3; obtain ⟨hc, hf⟩ := below_cells hbb.out; obtain ⟨r0, r1, r2, r3⟩ := res_cells hbb.out; obtain ⟨q0, q1, q2, q3⟩ := arg_cells hbb.out; have HS2 := Lib.hid (HS.out.below_to hbb.out (by have := HB.out; simp; omega)); have HZ2 := Lib.hid hbb.out.size))
  have y2 : w.heap.size + 1 + 1 < w2.heap.size := by have := HZ2.out; simp at this; omega
  have yB : B ≤ w2.heap.size := by have := HB.out; omega
  have X2 : Six w2 w.heap.size (.int .i64 3) (.int .i64 n) (.int .i64 3) (.int .i64 n') (.int .i64 0) (.int .i64 0) := ⟨q0, q1, q2, q3, r0, r1, r2, r3⟩
  have X2d : Six w2.drew w.heap.size (.int .i64 3) (.int .i64 n) (.int .i64 3) (.int .i64 n') (.int .i64 0) (.int .i64 0) := X2
  have yBd : B ≤ w2.drew.heap.size := yB
  have y2d : w.heap.size + 1 + 1 < w2.drew.heap.size := y2
  have HS2d : Hid (Supers w2.drew B A sup) := HS2
  have XB := Lib.hid X2d
  clear hc hf hb hb2 X2 X2d
  have hLA := Lib.hid (aboveI_len sup n)
  have hLB := Lib.hid (aboveI_len sup n')
  go_region_held3 (fun w' => w'.cell? ⟨w.heap.size, 0, none⟩ = some (.int .i64 3) ∧ w'.cell? ⟨w.heap.size, 1, none⟩ = some (.int .i64 n) ∧ w'.cell? ⟨w.heap.size + 1, 0, none⟩ = some (.int .i64 3) ∧ w'.cell? ⟨w.heap.size + 1, 1, none⟩ = some (.int .i64 n'))
    (first | go_keep | exact ⟨c0, c1, c2, c3⟩ | exact ⟨d0, d1, d2, d3⟩)
    (first
      | (go_at_call 66; (with_reducible refine (rabove_any sup n A cap B _ hl yBd HS2d.out).mono ?_); rintro e w3 ⟨v, rfl, ho3, hb3⟩; obtain ⟨A3, c3', rfl, hl3⟩ := own_slice ho3; have HL3 := Lib.hid hl3; clear hl3; have X3 := XB.out.keep hb3 y2d; obtain ⟨c0, c1, c2, c3, _⟩ := X3; have XC := Lib.hid (XB.out.keep hb3 y2d); have HS3 := Lib.hid (HS2d.out.below_to hb3 yBd); have y3 : w2.drew.heap.size ≤ w3.heap.size := hb3.size)
      | (go_at_call 66; (with_reducible refine (rabove_any sup n' A cap B _ hl (Nat.le_trans yBd y3) HS3.out).mono ?_); rintro e w4 ⟨v, rfl, ho4, hb4⟩; obtain ⟨A4, c4', rfl, hl4⟩ := own_slice ho4; have HL4 := Lib.hid hl4; clear hl4; have X4 := XC.out.keep hb4 (Nat.lt_of_lt_of_le y2d y3); obtain ⟨d0, d1, d2, d3, d4, d5, d6, d7⟩ := X4; have HL3' := Lib.hid (HL3.out.below hb4); have HB4 := Lib.hid (hb3.trans (hb4.mono y3))))
  go_wp2_with fail
  have HF := Lib.hid (hbb.out.drew.trans (HB4.out.mono HZ2.out))
  clear d0 d1 d2 d3 c0 c1 c2 c3
  generalize hX : aboveI sup n = X at *
  generalize hY : aboveI sup n' = Y at *
  clear hX hY
  go_loop [9] (fun i => ∃ k : Nat, 1 ≤ k ∧ (k : Int) ≤ 1048577 ∧ i = .int .i64 k ∧ firstIn (X.drop 1) Y = firstIn (X.drop k) Y) (fun i => X.length - (intOf i).toNat)
  case atStart => exact ⟨1, by omega, by omega, rfl, rfl⟩
  case round =>
    obtain ⟨k, hk, hk2, rfl, hn⟩ := hrel
    have HN := Lib.hid hn
    clear hn
    by_cases hlt : k < X.length
    · obtain ⟨ad, rfl, _, hcell⟩ := HL3'.out.at_ (k := k) (by simpa using hlt)
      have E1 := Lib.hid (List.drop_eq_getElem_cons hlt)
      simp only [List.getElem_map] at hcell
      generalize X[k] = x at *
      by_cases hin : inB Y x = true
      · have R := Lib.hid (show firstIn (X.drop 1) Y = (3, x) by rw [HN.out, E1.out]; simp only [firstIn]; rw [if_pos hin])
        have HI := Lib.hid hin
        clear HN E1 hin
        go_wp2_with (go_at_call 51; (with_reducible refine (rin_any Y x _ _ _ _ (by have := hLB.out; omega) HL4.out).mono ?_); rintro e w5 ⟨he, rfl⟩; rw [HI.out] at he; subst he)
        rw [J2.out, R.out]
        refine bodyPost_ret (v := tyV 3 x) ?_ rfl ⟨rfl, ?_⟩
        · simp [results, Try.results38, go_sem, d4, d5]
        · exact HW.out.trans (((HF.out.mono (by simp; omega)).setCell (by simp; omega) _).setCell (by simp; omega) _)
      · have R := Lib.hid (show firstIn (X.drop 1) Y = firstIn (X.drop (k + 1)) Y by rw [HN.out, E1.out]; simp only [firstIn]; rw [if_neg hin])
        have HI := Lib.hid (show inB Y x = false by simpa using hin)
        clear HN E1 hin
        go_wp2_with (go_at_call 51; (with_reducible refine (rin_any Y x _ _ _ _ (by have := hLB.out; omega) HL4.out).mono ?_); rintro e w5 ⟨he, rfl⟩; rw [HI.out] at he; subst he)
        go_round
        case rel => exact ⟨k + 1, by omega, by have := hLA.out; omega, by go_num, R.out⟩
        case measure => simp [intOf]; omega
    · have R := Lib.hid (show firstIn (X.drop 1) Y = (0, 0) by rw [HN.out, List.drop_eq_nil_of_le (by omega)]; rfl)
      clear HN
      go_wp2_with fail
      rw [J2.out, R.out]
      refine bodyPost_ret (v := tyV 0 0) ?_ rfl ⟨rfl, ?_⟩
      · simp [results, Try.results38, go_sem, d4, d5]
      · exact HW.out.trans (((HF.out.mono (by simp; omega)).setCell (by simp; omega) _).setCell (by simp; omega) _)

theorem rjoin_any (sup : List Int) (k n k' n' : Int) (A : Option Addr) (cap B : Nat) (w : World) (hl : sup.length ≤ 1048576) (hB : B ≤ w.heap.size) (h : Supers w B A sup) :
    Calls Try.prog 38 #[.slice A sup.length cap, tyV k n, tyV k' n'] w fun e w' => e = .returned (tyV (joinR sup k n k' n').1 (joinR sup k n k' n').2) ∧ Below w.heap.size w w' := by
  by_cases h1 : subB sup k n k' n' = true
  · exact rjoin_far sup k n k' n' A cap B w hl hB h (.inr (.inl h1))
  · by_cases h2 : subB sup k' n' k n = true
    · exact rjoin_far sup k n k' n' A cap B w hl hB h (.inr (.inr h2))
    · by_cases h3 : k = 3 ∧ k' = 3
      · obtain ⟨rfl, rfl⟩ := h3
        have e : joinR sup 3 n 3 n' = firstIn ((aboveI sup n).drop 1) (aboveI sup n') := by unfold joinR; rw [if_neg h1, if_neg h2, if_pos ⟨rfl, rfl⟩]
        rw [e]
        exact rjoin_33 sup n n' A cap B w hl hB h (by simpa using h1) (by simpa using h2)
      · exact rjoin_far sup k n k' n' A cap B w hl hB h (.inl h3)
end Go.Proofs.Ytgpmdhdooglkfaa
namespace Go.Proofs.Ytgpmdhdooglkfaa
set_option maxRecDepth 100000
set_option linter.unusedVariables false
set_option linter.unusedSimpArgs false

/-- What the first common one is: none, or the greatest. -/
theorem firstIn_spec (m : List Int) : ∀ l : List Int, l.Pairwise (· > ·) → (firstIn l m = (0, 0) ∧ ∀ x ∈ l, x ∉ m) ∨ ∃ x, firstIn l m = (3, x) ∧ x ∈ l ∧ x ∈ m ∧ ∀ y ∈ l, y ∈ m → y ≤ x
  | [], _ => .inl ⟨rfl, by simp⟩
  | x :: r, h => by
    obtain ⟨h1, h2⟩ := List.pairwise_cons.mp h
    by_cases hx : x ∈ m
    · refine .inr ⟨x, by simp only [firstIn]; rw [if_pos (inB_iff.mpr hx)], List.mem_cons_self, hx, fun y hy _ => ?_⟩
      rcases List.mem_cons.mp hy with rfl | hy
      · omega
      · have := h1 y hy; omega
    · have e : firstIn (x :: r) m = firstIn r m := by simp only [firstIn]; rw [if_neg (fun g => hx (inB_iff.mp g))]
      rw [e]
      rcases firstIn_spec m r h2 with ⟨h3, h4⟩ | ⟨z, h3, h4, h5, h6⟩
      · refine .inl ⟨h3, fun y hy => ?_⟩
        rcases List.mem_cons.mp hy with rfl | hy
        · exact hx
        · exact h4 y hy
      · refine .inr ⟨z, h3, List.mem_cons_of_mem _ h4, h5, fun y hy hm => ?_⟩
        rcases List.mem_cons.mp hy with rfl | hy
        · exact absurd hm hx
        · exact h6 y hy hm

/-- Of two classes neither of which is below the other: their join is the greatest that stands above both. -/
theorem join33 {sup : List Int} {n n' : Int} (h1 : n' ∉ aboveI sup n) (h2 : n ∉ aboveI sup n') :
    (firstIn ((aboveI sup n).drop 1) (aboveI sup n') = (0, 0) ∧ ∀ x ∈ aboveI sup n, x ∉ aboveI sup n') ∨
    ∃ x, firstIn ((aboveI sup n).drop 1) (aboveI sup n') = (3, x) ∧ x ∈ aboveI sup n ∧ x ∈ aboveI sup n' ∧ ∀ y ∈ aboveI sup n, y ∈ aboveI sup n' → y ≤ x := by
  by_cases hv : 0 ≤ n ∧ n < sup.length
  · obtain ⟨s, hs⟩ := super_at hv.1 hv.2
    have hd := above_down sup n
    have e := aboveI_step hv.1 hs
    generalize aboveI sup n = L at *
    subst e
    simp only [List.drop_succ_cons, List.drop_zero]
    obtain ⟨g1, g2⟩ := List.pairwise_cons.mp hd
    rcases firstIn_spec (aboveI sup n') _ g2 with ⟨h3, h4⟩ | ⟨z, h3, h4, h5, h6⟩
    · refine .inl ⟨h3, fun y hy => ?_⟩
      rcases List.mem_cons.mp hy with rfl | hy
      · exact h2
      · exact h4 y hy
    · refine .inr ⟨z, h3, List.mem_cons_of_mem _ h4, h5, fun y hy hm => ?_⟩
      rcases List.mem_cons.mp hy with rfl | hy
      · exact absurd hm h2
      · exact h6 y hy hm
  · rw [aboveI_bad (show n < 0 ∨ (sup.length : Int) ≤ n by omega)]
    exact .inl ⟨rfl, by simp⟩

theorem join_turned {sup : List Int} {k n k' n' : Int} (hno : ¬ (k = 4 ∧ k' = 4)) : joinR sup k n k' n' = joinR sup k' n' k n := by
  by_cases h1 : subB sup k n k' n' = true
  · by_cases h2 : subB sup k' n' k n = true
    · have e : (k, n) = (k', n') := by
        rw [sub_iff] at h1 h2
        rcases h1 with ⟨rfl, h⟩ | ⟨rfl, rfl, h⟩ | ⟨h0, rfl, rfl⟩
        · rcases h2 with ⟨h4, _⟩ | ⟨_, h4, _⟩ | ⟨_, h4, _⟩ <;> omega
        · rcases h2 with ⟨h4, _⟩ | ⟨_, _, g⟩ | ⟨h4, _, _⟩
          · omega
          · rw [above_anti g h]
          · omega
        · rfl
      simp only [joinR]
      rw [if_pos h1, if_pos h2]
      exact e.symm
    · simp only [joinR]
      rw [if_pos h1, if_neg h2, if_pos h1]
  · by_cases h2 : subB sup k' n' k n = true
    · simp only [joinR]
      rw [if_neg h1, if_pos h2, if_pos h2]
    · simp only [joinR]
      rw [if_neg h1, if_neg h2, if_neg h2, if_neg h1]
      by_cases h3 : k = 3 ∧ k' = 3
      · obtain ⟨rfl, rfl⟩ := h3
        rw [if_pos ⟨rfl, rfl⟩, if_pos ⟨rfl, rfl⟩]
        have a1 : n' ∉ aboveI sup n := fun h => h1 ((sub_iff ..).mpr (.inr (.inl ⟨rfl, rfl, h⟩)))
        have a2 : n ∉ aboveI sup n' := fun h => h2 ((sub_iff ..).mpr (.inr (.inl ⟨rfl, rfl, h⟩)))
        rcases join33 a1 a2 with ⟨e1, g1⟩ | ⟨x, e1, g1, g2, g3⟩
        · rcases join33 a2 a1 with ⟨e2, f1⟩ | ⟨y, e2, f1, f2, f3⟩
          · rw [e1, e2]
          · exact absurd f1 (g1 y f2)
        · rcases join33 a2 a1 with ⟨e2, f1⟩ | ⟨y, e2, f1, f2, f3⟩
          · exact absurd g1 (f1 x g2)
          · have := g3 y f2 f1
            have := f3 x g2 g1
            rw [e1, e2, show x = y by omega]
      · rw [if_neg h3, if_neg (fun h => h3 ⟨h.2, h.1⟩)]

/-- The join of two types: there is none, and no third one that both fit; or both fit it, and it fits whatever both fit. -/
theorem join_lattice {sup : List Int} {k n k' n' : Int} (ha : thereP sup k n) (hb : thereP sup k' n') :
    ((joinR sup k n k' n').1 = 0 ∧ ∀ j m, subB sup k n j m = true → subB sup k' n' j m = true → False) ∨
    (¬ (joinR sup k n k' n').1 = 0 ∧ subB sup k n (joinR sup k n k' n').1 (joinR sup k n k' n').2 = true ∧ subB sup k' n' (joinR sup k n k' n').1 (joinR sup k n k' n').2 = true ∧
      ∀ j m, subB sup k n j m = true → subB sup k' n' j m = true → subB sup (joinR sup k n k' n').1 (joinR sup k n k' n').2 j m = true) := by
  by_cases h1 : subB sup k n k' n' = true
  · have e : joinR sup k n k' n' = (k', n') := by simp only [joinR]; rw [if_pos h1]
    rw [e]
    have hk := (sub_kinds h1).2
    exact .inr ⟨by show ¬ k' = 0; omega, h1, sub_refl' hk hb, fun j m _ g => g⟩
  · by_cases h2 : subB sup k' n' k n = true
    · have e : joinR sup k n k' n' = (k, n) := by simp only [joinR]; rw [if_neg h1, if_pos h2]
      rw [e]
      have hk := (sub_kinds h2).2
      exact .inr ⟨by show ¬ k = 0; omega, sub_refl' hk ha, h2, fun j m g _ => g⟩
    · by_cases h3 : k = 3 ∧ k' = 3
      · have e : joinR sup k n k' n' = firstIn ((aboveI sup n).drop 1) (aboveI sup n') := by simp only [joinR]; rw [if_neg h1, if_neg h2, if_pos h3]
        obtain ⟨rfl, rfl⟩ := h3
        have a1 : n' ∉ aboveI sup n := fun h => h1 ((sub_iff ..).mpr (.inr (.inl ⟨rfl, rfl, h⟩)))
        have a2 : n ∉ aboveI sup n' := fun h => h2 ((sub_iff ..).mpr (.inr (.inl ⟨rfl, rfl, h⟩)))
        rw [e]
        rcases join33 a1 a2 with ⟨e1, g1⟩ | ⟨x, e1, g1, g2, g3⟩
        · rw [e1]
          refine .inl ⟨rfl, fun j m f g => ?_⟩
          rw [sub_iff] at f g
          rcases f with ⟨f, _⟩ | ⟨_, rfl, f⟩ | ⟨f, _, _⟩
          · omega
          · rcases g with ⟨g, _⟩ | ⟨_, _, g⟩ | ⟨g, _, _⟩
            · omega
            · exact g1 m f g
            · omega
          · omega
        · rw [e1]
          refine .inr ⟨by show ¬ (3 : Int) = 0; decide, (sub_iff ..).mpr (.inr (.inl ⟨rfl, rfl, g1⟩)), (sub_iff ..).mpr (.inr (.inl ⟨rfl, rfl, g2⟩)), fun j m f g => ?_⟩
          rw [sub_iff] at f g
          rcases f with ⟨f, _⟩ | ⟨_, rfl, f⟩ | ⟨f, _, _⟩
          · omega
          · rcases g with ⟨g, _⟩ | ⟨_, _, g⟩ | ⟨g, _, _⟩
            · omega
            · exact (sub_iff ..).mpr (.inr (.inl ⟨rfl, rfl, above_line g1 f (g3 m f g)⟩))
            · omega
          · omega
      · have e : joinR sup k n k' n' = (0, 0) := by simp only [joinR]; rw [if_neg h1, if_neg h2, if_neg h3]
        rw [e]
        refine .inl ⟨rfl, fun j m f g => ?_⟩
        rw [sub_iff] at f g h1 h2
        rcases f with ⟨rfl, f⟩ | ⟨rfl, rfl, f⟩ | ⟨f, rfl, rfl⟩
        · rcases g with ⟨rfl, g⟩ | ⟨rfl, rfl, g⟩ | ⟨g, rfl, rfl⟩
          · exact h1 (.inl ⟨rfl, by omega⟩)
          · exact h1 (.inl ⟨rfl, by omega⟩)
          · exact h1 (.inl ⟨rfl, f⟩)
        · rcases g with ⟨rfl, g⟩ | ⟨rfl, _, g⟩ | ⟨g, rfl, rfl⟩
          · exact h2 (.inl ⟨rfl, by omega⟩)
          · exact h3 ⟨rfl, rfl⟩
          · omega
        · exact h2 (g)
end Go.Proofs.Ytgpmdhdooglkfaa
namespace Go.Proofs.Ytgpmdhdooglkfaa
set_option maxRecDepth 100000
set_option linter.unusedVariables false
set_option linter.unusedSimpArgs false
set_option linter.unusedVariables false

/-- What stands where a type comes to another one. -/
def joinZ (sup : List Int) (s t : Int × Int) : Int × Int := if subB sup t.1 t.2 s.1 s.2 = true then s else joinR sup s.1 s.2 t.1 t.2
theorem self_there {sup : List Int} {k n : Int} (h : subB sup k n k n = true) : thereP sup k n := fun e => by
  subst e
  rw [sub_iff] at h
  rcases h with ⟨h, _⟩ | ⟨_, _, h⟩ | ⟨h, _, _⟩
  · omega
  · have := above_range h
    omega
  · omega
theorem join_zero {sup : List Int} {k n k' n' : Int} (h : (joinR sup k n k' n').1 = 0) : joinR sup k n k' n' = (0, 0) := by
  by_cases h1 : subB sup k n k' n' = true
  · have e : joinR sup k n k' n' = (k', n') := by unfold joinR; rw [if_pos h1]
    rw [e] at h
    have := (sub_kinds h1).2
    dsimp only at h
    omega
  · by_cases h2 : subB sup k' n' k n = true
    · have e : joinR sup k n k' n' = (k, n) := by unfold joinR; rw [if_neg h1, if_pos h2]
      rw [e] at h
      have := (sub_kinds h2).2
      dsimp only at h
      omega
    · by_cases h3 : k = 3 ∧ k' = 3
      · have e : joinR sup k n k' n' = firstIn ((aboveI sup n).drop 1) (aboveI sup n') := by unfold joinR; rw [if_neg h1, if_neg h2, if_pos h3]
        obtain ⟨rfl, rfl⟩ := h3
        have a1 : n' ∉ aboveI sup n := fun h => h1 ((sub_iff ..).mpr (.inr (.inl ⟨rfl, rfl, h⟩)))
        have a2 : n ∉ aboveI sup n' := fun h => h2 ((sub_iff ..).mpr (.inr (.inl ⟨rfl, rfl, h⟩)))
        rw [e] at h ⊢
        rcases join33 a1 a2 with ⟨e1, _⟩ | ⟨x, e1, _⟩
        · exact e1
        · rw [e1] at h
          cases h
      · unfold joinR
        rw [if_neg h1, if_neg h2, if_neg h3]
theorem joinZ_none {sup : List Int} {s t : Int × Int} (hs : subB sup s.1 s.2 s.1 s.2 = true) (ht : subB sup t.1 t.2 t.1 t.2 = true) (h : (joinZ sup s t).1 = 0) :
    joinZ sup s t = (0, 0) ∧ ∀ u : Int × Int, subB sup s.1 s.2 u.1 u.2 = true → subB sup t.1 t.2 u.1 u.2 = true → False := by
  unfold joinZ at h ⊢
  by_cases g : subB sup t.1 t.2 s.1 s.2 = true
  · rw [if_pos g] at h
    have := (sub_kinds g).2
    omega
  · rw [if_neg g] at h
    rw [if_neg g]
    refine ⟨join_zero h, fun u => ?_⟩
    rcases join_lattice (self_there hs) (self_there ht) with ⟨_, q⟩ | ⟨q, _⟩
    · exact q u.1 u.2
    · exact absurd h q
theorem joinZ_some {sup : List Int} {s t : Int × Int} (hs : subB sup s.1 s.2 s.1 s.2 = true) (ht : subB sup t.1 t.2 t.1 t.2 = true) (h : ¬ (joinZ sup s t).1 = 0) :
    subB sup s.1 s.2 (joinZ sup s t).1 (joinZ sup s t).2 = true ∧ subB sup t.1 t.2 (joinZ sup s t).1 (joinZ sup s t).2 = true ∧
    ∀ u : Int × Int, subB sup s.1 s.2 u.1 u.2 = true → subB sup t.1 t.2 u.1 u.2 = true → subB sup (joinZ sup s t).1 (joinZ sup s t).2 u.1 u.2 = true := by
  unfold joinZ at h ⊢
  by_cases g : subB sup t.1 t.2 s.1 s.2 = true
  · rw [if_pos g]
    exact ⟨hs, g, fun u a _ => a⟩
  · rw [if_neg g] at h
    rw [if_neg g]
    rcases join_lattice (self_there hs) (self_there ht) with ⟨q, _⟩ | ⟨_, q1, q2, q3⟩
    · exact absurd q h
    · exact ⟨q1, q2, fun u => q3 u.1 u.2⟩
/-- The first so many joined. -/
def comeL (sup : List Int) : List (Int × Int) → List (Int × Int) → Nat → List (Int × Int)
  | s :: ss, t :: ts, k + 1 => joinZ sup s t :: comeL sup ss ts k
  | ss, _, _ => ss
theorem comeL_zero (sup : List Int) (ss ts : List (Int × Int)) : comeL sup ss ts 0 = ss := by
  cases ss with
  | nil => rfl
  | cons s ss =>
    cases ts with
    | nil => rfl
    | cons t ts => rfl
theorem comeL_len (sup : List Int) : ∀ (ss ts : List (Int × Int)) (k : Nat), (comeL sup ss ts k).length = ss.length
  | [], _, _ => by simp [comeL]
  | s :: ss, [], _ => by simp [comeL]
  | s :: ss, t :: ts, 0 => by rw [comeL_zero]
  | s :: ss, t :: ts, k + 1 => by
    show (joinZ sup s t :: comeL sup ss ts k).length = _
    rw [List.length_cons, comeL_len sup ss ts k, List.length_cons]
theorem comeL_get (sup : List Int) : ∀ (ss ts : List (Int × Int)) (k i : Nat) (h1 : i < ss.length) (h2 : i < ts.length), (comeL sup ss ts k)[i]? = some (if i < k then joinZ sup ss[i] ts[i] else ss[i])
  | [], _, _, _, h, _ => by simp at h
  | s :: ss, [], _, _, _, h => by simp at h
  | s :: ss, t :: ts, 0, i, h1, h2 => by
    rw [comeL_zero, if_neg (Nat.not_lt_zero _), List.getElem?_eq_getElem h1]
  | s :: ss, t :: ts, k + 1, 0, h1, h2 => by
    rw [if_pos (Nat.succ_pos _)]
    rfl
  | s :: ss, t :: ts, k + 1, i + 1, h1, h2 => by
    have h := comeL_get sup ss ts k i (by simpa using h1) (by simpa using h2)
    show (comeL sup ss ts k)[i]? = _
    rw [h]
    by_cases g : i < k
    · rw [if_pos g, if_pos (Nat.succ_lt_succ g)]; rfl
    · rw [if_neg g, if_neg (by omega)]; rfl
theorem comeL_at (sup : List Int) {ss ts : List (Int × Int)} {k : Nat} (h1 : k < ss.length) (h2 : k < ts.length) : (comeL sup ss ts k)[k]? = some ss[k] := by
  rw [comeL_get sup ss ts k k h1 h2, if_neg (Nat.lt_irrefl _)]
theorem comeL_next (sup : List Int) {ss ts : List (Int × Int)} {k : Nat} (hl : ss.length = ts.length) (h1 : k < ss.length) (h2 : k < ts.length) : comeL sup ss ts (k + 1) = (comeL sup ss ts k).set k (joinZ sup ss[k] ts[k]) := by
  refine List.ext_getElem? fun i => ?_
  rcases Nat.lt_or_ge i ss.length with hi | hi
  · rw [comeL_get sup ss ts (k + 1) i hi (by omega), List.getElem?_set, comeL_get sup ss ts k i hi (by omega)]
    by_cases e : k = i
    · subst e
      rw [if_pos (Nat.lt_succ_self _), if_pos rfl, if_pos (by rw [comeL_len]; exact h1)]
    · rw [if_neg e]
      by_cases g : i < k
      · rw [if_pos g, if_pos (by omega)]
      · rw [if_neg g, if_neg (by omega)]
  · rw [List.getElem?_eq_none (by rw [comeL_len]; exact hi), List.getElem?_eq_none (by rw [List.length_set, comeL_len]; exact hi)]
theorem comeL_skip (sup : List Int) {ss ts : List (Int × Int)} {k : Nat} (hl : ss.length = ts.length) (h1 : k < ss.length) (h2 : k < ts.length) (h : subB sup ts[k].1 ts[k].2 ss[k].1 ss[k].2 = true) : comeL sup ss ts (k + 1) = comeL sup ss ts k := by
  have e : joinZ sup ss[k] ts[k] = ss[k] := by unfold joinZ; rw [if_pos h]
  rw [comeL_next sup hl h1 h2, e]
  refine List.ext_getElem? fun i => ?_
  rw [List.getElem?_set]
  by_cases q : k = i
  · subst q
    rw [if_pos rfl, if_pos (by rw [comeL_len]; exact h1), comeL_at sup h1 h2]
  · rw [if_neg q]
theorem FitsAll.trans' {sup : List Int} {a b c : List (Int × Int)} (h : FitsAll sup a b) (g : FitsAll sup b c) : FitsAll sup a c :=
  ⟨h.1.trans g.1, fun i h1 h2 => sub_trans' (h.2 i h1 (by rw [← h.1]; exact h1)) (g.2 i (by rw [← h.1]; exact h1) h2)⟩
theorem fits_nil (sup : List Int) : FitsAll sup [] [] := ⟨rfl, fun i h => by simp at h⟩
/-- What has come of operands that came to an instruction. -/
structure ComeOk (sup : List Int) (s : Shp) (st J : List (Int × Int)) (grown : Bool) : Prop where
  up : FitsAll sup st J
  old : s.seen = true → FitsAll sup s.stack J
  least : ∀ U, (s.seen = true → FitsAll sup s.stack U) → FitsAll sup st U → FitsAll sup J U
  same : grown = false → s.seen = true ∧ J = s.stack
  more : grown = true → s.seen = true → ¬ FitsAll sup J s.stack
/-- Nothing can. -/
def ComeBad (sup : List Int) (s : Shp) (st : List (Int × Int)) : Prop := s.seen = true ∧ ∀ U, FitsAll sup s.stack U → FitsAll sup st U → False
theorem come_fresh {sup : List Int} {s : Shp} {st : List (Int × Int)} (h : s.seen = false) (hst : FitsAll sup st st) : ComeOk sup s st st true :=
  ⟨hst, (fun e => by rw [h] at e; cases e), fun U _ g => g, (fun e => by cases e), (fun _ e => by rw [h] at e; cases e)⟩
theorem come_many {sup : List Int} {s : Shp} {st : List (Int × Int)} (h : s.seen = true) (hl : ¬ st.length = s.stack.length) : ComeBad sup s st := ⟨h, fun U g1 g2 => hl (g2.1.trans g1.1.symm)⟩
theorem come_none {sup : List Int} {s : Shp} {st : List (Int × Int)} {i : Nat} (h : s.seen = true) (h1 : i < s.stack.length) (h2 : i < st.length) (hs : FitsAll sup s.stack s.stack) (ht : FitsAll sup st st) (hz : (joinZ sup s.stack[i] st[i]).1 = 0) : ComeBad sup s st :=
  ⟨h, fun U g1 g2 => (joinZ_none (hs.2 i h1 h1) (ht.2 i h2 h2) hz).2 U[i]! (by
    have hU : i < U.length := by rw [← g1.1]; exact h1
    rw [getElem!_pos U i hU]
    exact g1.2 i h1 hU) (by
    have hU : i < U.length := by rw [← g1.1]; exact h1
    rw [getElem!_pos U i hU]
    exact g2.2 i h2 hU)⟩
theorem come_all {sup : List Int} {s : Shp} {st : List (Int × Int)} {grown : Bool} (h : s.seen = true) (hl : st.length = s.stack.length) (hs : FitsAll sup s.stack s.stack) (ht : FitsAll sup st st)
    (hz : ∀ (i : Nat) (h1 : i < s.stack.length) (h2 : i < st.length), ¬ (joinZ sup s.stack[i] st[i]).1 = 0)
    (hg0 : grown = false → ∀ (i : Nat) (h1 : i < s.stack.length) (h2 : i < st.length), subB sup st[i].1 st[i].2 s.stack[i].1 s.stack[i].2 = true)
    (hg1 : grown = true → ∃ (i : Nat) (h1 : i < s.stack.length) (h2 : i < st.length), ¬ subB sup st[i].1 st[i].2 s.stack[i].1 s.stack[i].2 = true) :
    ComeOk sup s st (comeL sup s.stack st st.length) grown := by
  have hlen : (comeL sup s.stack st st.length).length = s.stack.length := comeL_len ..
  have hat : ∀ (i : Nat) (h1 : i < s.stack.length) (h2 : i < st.length) (h3 : i < (comeL sup s.stack st st.length).length), (comeL sup s.stack st st.length)[i] = joinZ sup s.stack[i] st[i] := fun i h1 h2 h3 => by
    have := comeL_get sup s.stack st st.length i h1 h2
    rw [if_pos h2, List.getElem?_eq_getElem h3] at this
    exact Option.some.inj this
  have hup : FitsAll sup st (comeL sup s.stack st st.length) := ⟨by rw [hlen, hl], fun i h1 h2 => by
    have h0 : i < s.stack.length := by omega
    rw [hat i h0 h1 h2]
    exact (joinZ_some (hs.2 i h0 h0) (ht.2 i h1 h1) (hz i h0 h1)).2.1⟩
  refine ⟨hup, fun _ => ⟨hlen.symm, fun i h1 h2 => ?_⟩, fun U g1 g2 => ⟨by rw [hlen]; exact (g1 h).1, fun i h1 h2 => ?_⟩, fun e => ⟨h, ?_⟩, fun e _ hf => ?_⟩
  · rw [hat i h1 (by omega) h2]
    exact (joinZ_some (hs.2 i h1 h1) (ht.2 i (by omega) (by omega)) (hz i h1 (by omega))).1
  · have h0 : i < s.stack.length := by omega
    have h3 : i < st.length := by omega
    rw [hat i h0 h3 h1]
    exact (joinZ_some (hs.2 i h0 h0) (ht.2 i h3 h3) (hz i h0 h3)).2.2 _ ((g1 h).2 i h0 h2) (g2.2 i h3 h2)
  · refine List.ext_getElem hlen fun i h1 h2 => ?_
    have h3 : i < st.length := by omega
    rw [hat i h2 h3 h1]
    unfold joinZ
    rw [if_pos (hg0 e i h2 h3)]
  · obtain ⟨i, h1, h2, hn⟩ := hg1 e
    have h3 : i < (comeL sup s.stack st st.length).length := by omega
    exact hn (sub_trans' (hup.2 i h2 h3) (hf.2 i h3 h1))
/-- How far up a type may still go. -/
def rankT (n : Nat) (t : Int × Int) : Nat := if t.1 = 4 then n + 1 else if t.1 = 3 then t.2.toNat else 0
theorem rankT_le {sup : List Int} {a : Int × Int} (h : subB sup a.1 a.2 a.1 a.2 = true) : rankT sup.length a ≤ sup.length + 1 := by
  unfold rankT
  by_cases h4 : a.1 = 4
  · rw [if_pos h4]; exact Nat.le_refl _
  · rw [if_neg h4]
    by_cases h3 : a.1 = 3
    · rw [if_pos h3]
      have := self_there h h3
      omega
    · rw [if_neg h3]; exact Nat.zero_le _
theorem rankT_fits {sup : List Int} {a b : Int × Int} (h : subB sup a.1 a.2 b.1 b.2 = true) (hb : subB sup b.1 b.2 b.1 b.2 = true) : rankT sup.length b ≤ rankT sup.length a ∧ (¬ subB sup b.1 b.2 a.1 a.2 = true → rankT sup.length b < rankT sup.length a) := by
  have ht := self_there hb
  obtain ⟨a1, a2⟩ := a
  obtain ⟨b1, b2⟩ := b
  dsimp only at *
  unfold thereP at ht
  unfold rankT
  dsimp only
  have h' := h
  rw [sub_iff] at h'
  rcases h' with ⟨rfl, g⟩ | ⟨rfl, rfl, g⟩ | ⟨g, rfl, rfl⟩
  · rw [if_pos rfl]
    rcases g with rfl | rfl | rfl
    · refine ⟨?_, fun _ => ?_⟩
      · rw [if_neg (by decide), if_neg (by decide)]; omega
      · rw [if_neg (by decide), if_neg (by decide)]; omega
    · have := ht rfl
      rw [if_neg (by decide), if_pos rfl]
      omega
    · refine ⟨by rw [if_pos rfl]; exact Nat.le_refl _, fun q => absurd ((sub_iff ..).mpr (.inl ⟨rfl, .inr (.inr rfl)⟩)) q⟩
  · have hr := above_range g
    rw [if_neg (by decide), if_pos rfl, if_neg (by decide), if_pos rfl]
    refine ⟨by omega, fun q => ?_⟩
    have hne : ¬ b2 = a2 := fun e => q (by subst e; exact hb)
    omega
  · exact ⟨Nat.le_refl _, fun q => absurd h q⟩
def rankL (n : Nat) : List (Int × Int) → Nat
  | [] => 0
  | t :: ts => rankT n t + rankL n ts
theorem fits_cons {sup : List Int} {a b : Int × Int} {s t : List (Int × Int)} : FitsAll sup (a :: s) (b :: t) ↔ subB sup a.1 a.2 b.1 b.2 = true ∧ FitsAll sup s t := by
  constructor
  · intro h
    refine ⟨h.2 0 (Nat.succ_pos _) (Nat.succ_pos _), by simpa using h.1, fun i h1 h2 => h.2 (i + 1) (Nat.succ_lt_succ h1) (Nat.succ_lt_succ h2)⟩
  · rintro ⟨h0, h⟩
    refine ⟨by rw [List.length_cons, List.length_cons, h.1], fun i h1 h2 => ?_⟩
    match i, h1, h2 with
    | 0, _, _ => exact h0
    | i + 1, h1, h2 => exact h.2 i (by simpa using h1) (by simpa using h2)
theorem rankL_le {sup : List Int} : ∀ {s : List (Int × Int)}, FitsAll sup s s → rankL sup.length s ≤ s.length * (sup.length + 1)
  | [], _ => by simp [rankL]
  | t :: ts, h => by
    rw [fits_cons] at h
    have h1 := rankT_le h.1
    have h2 := rankL_le h.2
    unfold rankL
    rw [List.length_cons, Nat.succ_mul]
    omega
theorem rankL_fits {sup : List Int} : ∀ {s J : List (Int × Int)}, FitsAll sup s J → FitsAll sup J J → rankL sup.length J ≤ rankL sup.length s ∧ (¬ FitsAll sup J s → rankL sup.length J < rankL sup.length s)
  | [], [], _, _ => ⟨Nat.le_refl _, fun h => absurd (fits_nil sup) h⟩
  | [], _ :: _, h, _ => by have := h.1; simp at this
  | _ :: _, [], h, _ => by have := h.1; simp at this
  | a :: s, b :: t, h, g => by
    rw [fits_cons] at h g
    obtain ⟨a1, a2⟩ := rankT_fits h.1 g.1
    obtain ⟨b1, b2⟩ := rankL_fits h.2 g.2
    unfold rankL
    refine ⟨by omega, fun q => ?_⟩
    rw [fits_cons] at q
    by_cases e : subB sup b.1 b.2 a.1 a.2 = true
    · have := b2 (fun f => q ⟨e, f⟩)
      omega
    · have := a2 e
      omega
def rankS (n : Nat) (s : Shp) : Nat := if s.seen then rankL n s.stack else 8 * (n + 1) + 1
def rankA (n : Nat) : List Shp → Nat
  | [] => 0
  | s :: S => rankS n s + rankA n S
theorem rankA_set {n : Nat} {x : Shp} : ∀ {S : List Shp} {i : Nat} (h : i < S.length), rankS n x < rankS n S[i] → rankA n (S.set i x) < rankA n S
  | [], i, h, _ => by simp at h
  | s :: S, 0, h, g => by
    show rankS n x + rankA n S < rankS n s + rankA n S
    have g' : rankS n x < rankS n s := g
    omega
  | s :: S, i + 1, h, g => by
    show rankS n s + rankA n (S.set i x) < rankS n s + rankA n S
    have := rankA_set (S := S) (i := i) (by simpa using h) g
    omega
theorem come_rank {sup : List Int} {s : Shp} {st J : List (Int × Int)} (h : ComeOk sup s st J true) (hJ : J.length ≤ 8) : rankS sup.length ⟨true, J⟩ < rankS sup.length s := by
  have hself : FitsAll sup J J := h.least J h.old h.up
  unfold rankS
  rw [if_pos rfl]
  dsimp only
  by_cases g : s.seen = true
  · rw [if_pos g]
    exact (rankL_fits (h.old g) hself).2 (h.more rfl g)
  · rw [if_neg g]
    have h1 := rankL_le hself
    have h2 : J.length * (sup.length + 1) ≤ 8 * (sup.length + 1) := Nat.mul_le_mul_right _ hJ
    omega
end Go.Proofs.Ytgpmdhdooglkfaa
