/-
  What the document's own answers for types come to: Sub (does one type fit where another is wanted?), Join (the least that two fit).
-/
import Derived.Test.YtkfhpbedllcecaaRefKind
import Derived.Deep.RegionHeld3
import Derived.Deep.QuietTactic
import Derived.BigQuiet
namespace Go.Proofs.Ytkfhpbedllcecaa
open Go.ChangeShapes Go.WideShapes Go.ChangeAt Go.RowKit
set_option linter.unusedVariables false

def subB (sup : List Int) (k n k' n' : Int) : Bool := if k = 4 then isRefB k' else if k = 3 then decide (k' = 3) && inB (aboveI sup n) n' else decide ((k = 1 ∨ k = 2) ∧ k = k' ∧ n = n')

theorem below_drewN' {B : Nat} {a w : World} (h : Below B a w) (n : Nat) : Below B a (w.drewN n) := ⟨h.os, h.tape, h.output, h.size, h.block⟩
/-- What stood below a block number stands as it did. -/
theorem below_cells {W w1 : World} (hb : Below W.heap.size W w1) : (∀ b o, b < W.heap.size → w1.cell? ⟨b, o, none⟩ = W.cell? ⟨b, o, none⟩) ∧ (∀ b o, b < W.heap.size → w1.frozen? ⟨b, o, none⟩ = W.frozen? ⟨b, o, none⟩) :=
  ⟨fun b o h => hb.cell (p := ⟨b, o, none⟩) h, fun b o h => hb.frozen (p := ⟨b, o, none⟩) h⟩

theorem rsub_4 (sup : List Int) (n k' n' : Int) (A : Option Addr) (cap : Nat) (w : World) :
    Calls Try.prog 15 #[.slice A sup.length cap, tyV 4 n, tyV k' n'] w fun e w' => e = .returned (.bool (isRefB k')) ∧ Below w.heap.size w w' := by
  go_enter Try.func15, Try.ntmps15
  go_wp2_with (go_at_call 13; (with_reducible refine (risref_any _ _ _).mono ?_); rintro e w' ⟨rfl, hb⟩)
  go_ret
  exact ⟨rfl, (((Below.refl _ _).alloc (Nat.le_refl _) _).alloc (by simp) _).trans (hb.mono (by simp; omega))⟩

theorem rsub_3n (sup : List Int) (n k' n' : Int) (hk : ¬ k' = 3) (A : Option Addr) (cap : Nat) (w : World) :
    Calls Try.prog 15 #[.slice A sup.length cap, tyV 3 n, tyV k' n'] w fun e w' => e = .returned (.bool false) ∧ Below w.heap.size w w' := by
  have hd : decide (k' = 3) = false := decide_eq_false hk
  go_enter Try.func15, Try.ntmps15
  go_wp2_with fail
  go_quiet (fail)
  go_wp2
  go_ret
  exact ⟨rfl, (((Below.refl _ _).alloc (Nat.le_refl _) _).alloc (by simp) _) |> fun h => below_drewN' h _⟩

theorem rsub_33 (sup : List Int) (n n' : Int) (A : Option Addr) (cap B : Nat) (w : World) (hl : sup.length ≤ 1048576) (hB : B ≤ w.heap.size) (h : Supers w B A sup) :
    Calls Try.prog 15 #[.slice A sup.length cap, tyV 3 n, tyV 3 n'] w fun e w' => e = .returned (.bool (inB (aboveI sup n) n')) ∧ Below w.heap.size w w' := by
  go_enter Try.func15, Try.ntmps15
  go_wp2_with fail
  have hS : Supers ((w.alloc (.cells #[.int .i64 3, .int .i64 n] 24)).alloc (.cells #[.int .i64 3, .int .i64 n'] 24)).drew B A sup :=
    h.below_to (((Below.refl w.heap.size w).alloc (Nat.le_refl _) _).alloc (by simp) _).drew hB
  have HS := Lib.hid hS
  have HB := Lib.hid (((Below.refl w.heap.size w).alloc (Nat.le_refl _) (.cells #[.int .i64 3, .int .i64 n] 24)).alloc (by simp) (.cells #[.int .i64 3, .int .i64 n'] 24))
  clear hS h
  have hLA : (aboveI sup n).length ≤ 9223372036854775807 := by
    unfold aboveI
    split
    · rcases Nat.lt_or_ge n.toNat sup.length with g | g
      · have := aboveOf_len sup n.toNat; omega
      · rw [aboveOf_none g]; simp
    · simp
  have hz : w.heap.size < w.heap.size + 1 + 1 := by omega
  go_region_held3 (fun w' => w'.cell? ⟨w.heap.size, 0, none⟩ = some (.int .i64 3) ∧ w'.cell? ⟨w.heap.size, 1, none⟩ = some (.int .i64 n) ∧ w'.cell? ⟨w.heap.size + 1, 0, none⟩ = some (.int .i64 3) ∧ w'.cell? ⟨w.heap.size + 1, 1, none⟩ = some (.int .i64 n'))
    (first | go_keep)
    (first
      | (go_at_call 20; (with_reducible refine (rabove_any sup n A cap B _ hl (by simp; omega) HS.out).mono ?_); rintro e w' ⟨v, rfl, ho, hb⟩; obtain ⟨A', c', rfl, hlies⟩ := own_slice ho; obtain ⟨hc, hf⟩ := below_cells hb; have HL := Lib.hid hlies; clear hlies)
      | (go_at_call 19; (with_reducible refine (rin_any _ _ _ _ _ _ hLA HL.out).mono ?_); rintro e w' ⟨rfl, rfl⟩))
  go_wp2
  go_ret
  exact ⟨rfl, HB.out.drew.trans (hb.mono (by simp; omega))⟩

theorem rsub_12 (sup : List Int) (k n k' n' : Int) (hk : k = 1 ∨ k = 2) (A : Option Addr) (cap : Nat) (w : World) :
    Calls Try.prog 15 #[.slice A sup.length cap, tyV k n, tyV k' n'] w fun e w' => e = .returned (.bool (decide (k = k' ∧ n = n'))) ∧ Below w.heap.size w w' := by
  rcases hk with rfl | rfl
  all_goals
    go_enter Try.func15, Try.ntmps15
    go_wp2_with fail
    all_goals
      go_ret
      refine ⟨?_, ((Below.refl _ _).alloc (Nat.le_refl _) _).alloc (by simp) _⟩
      simp [*]

theorem rsub_0 (sup : List Int) (k n k' n' : Int) (hk : ¬ (k = 1 ∨ k = 2 ∨ k = 3 ∨ k = 4)) (A : Option Addr) (cap : Nat) (w : World) :
    Calls Try.prog 15 #[.slice A sup.length cap, tyV k n, tyV k' n'] w fun e w' => e = .returned (.bool false) ∧ Below w.heap.size w w' := by
  have h1 : ¬ k = 1 := by omega
  have h2 : ¬ k = 2 := by omega
  have h3 : ¬ k = 3 := by omega
  have h4 : ¬ k = 4 := by omega
  have e1 : decide (k = 1) = false := decide_eq_false h1
  have e2 : decide (k = 2) = false := decide_eq_false h2
  clear hk
  go_enter Try.func15, Try.ntmps15
  go_wp2_with fail
  go_ret
  exact ⟨rfl, ((Below.refl _ _).alloc (Nat.le_refl _) _).alloc (by simp) _⟩

theorem aboveI_len (sup : List Int) (n : Int) : (aboveI sup n).length ≤ sup.length := by
  unfold aboveI
  split
  · rcases Nat.lt_or_ge n.toNat sup.length with g | g
    · have := aboveOf_len sup n.toNat; omega
    · rw [aboveOf_none g]; simp
  · simp

theorem rsub_any (sup : List Int) (k n k' n' : Int) (A : Option Addr) (cap B : Nat) (w : World) (hl : sup.length ≤ 1048576) (hB : B ≤ w.heap.size) (h : Supers w B A sup) :
    Calls Try.prog 15 #[.slice A sup.length cap, tyV k n, tyV k' n'] w fun e w' => e = .returned (.bool (subB sup k n k' n')) ∧ Below w.heap.size w w' := by
  by_cases h4 : k = 4
  · subst h4
    exact rsub_4 sup n k' n' A cap w
  · by_cases h3 : k = 3
    · subst h3
      by_cases hk : k' = 3
      · subst hk
        exact rsub_33 sup n n' A cap B w hl hB h
      · have e : subB sup 3 n k' n' = false := by simp [subB, hk]
        rw [e]
        exact rsub_3n sup n k' n' hk A cap w
    · by_cases h12 : k = 1 ∨ k = 2
      · have e : subB sup k n k' n' = decide (k = k' ∧ n = n') := by simp [subB, h3, h4, h12]
        rw [e]
        exact rsub_12 sup k n k' n' h12 A cap w
      · have e : subB sup k n k' n' = false := by simp [subB, h3, h4, h12]
        rw [e]
        exact rsub_0 sup k n k' n' (by omega) A cap w

/-- The first of some numbers that others hold, as a type of that class. -/
def firstIn (l y : List Int) : Int × Int := match l with
  | [] => (0, 0)
  | x :: r => if inB y x then (3, x) else firstIn r y
def joinR (sup : List Int) (k n k' n' : Int) : Int × Int :=
  if subB sup k n k' n' then (k', n') else if subB sup k' n' k n then (k, n) else if k = 3 ∧ k' = 3 then firstIn ((aboveI sup n).drop 1) (aboveI sup n') else (0, 0)

/-- The result's cells, behind whatever leaves them alone. -/
theorem res_cells {w w1 : World} {o1 o2 : Obj} {x y : Value} {T : TypeId} (hb : Below (((w.alloc o1).alloc o2).alloc (.cells #[x, y] T)).heap.size (((w.alloc o1).alloc o2).alloc (.cells #[x, y] T)) w1) :
    w1.cell? ⟨w.heap.size + 1 + 1, 0, none⟩ = some x ∧ w1.cell? ⟨w.heap.size + 1 + 1, 1, none⟩ = some y ∧ w1.frozen? ⟨w.heap.size + 1 + 1, 0, none⟩ = false ∧ w1.frozen? ⟨w.heap.size + 1 + 1, 1, none⟩ = false := by
  have hs : w.heap.size + 1 + 1 < (((w.alloc o1).alloc o2).alloc (.cells #[x, y] T)).heap.size := by simp
  have e : ((w.alloc o1).alloc o2).heap.size = w.heap.size + 1 + 1 := by simp
  refine ⟨(hb.cell hs).trans ?_, (hb.cell hs).trans ?_, (hb.frozen hs).trans ?_, (hb.frozen hs).trans ?_⟩
  · rw [World.cell?_alloc_at _ _ _ _ e.symm]; rfl
  · rw [World.cell?_alloc_at _ _ _ _ e.symm]; rfl
  · exact World.frozen?_alloc_at _ _ _ _ e.symm
  · exact World.frozen?_alloc_at _ _ _ _ e.symm

/-- The arguments' cells and the result's. -/
def Six (w : World) (N : Nat) (a b c d x y : Value) : Prop :=
  w.cell? ⟨N, 0, none⟩ = some a ∧ w.cell? ⟨N, 1, none⟩ = some b ∧ w.cell? ⟨N + 1, 0, none⟩ = some c ∧ w.cell? ⟨N + 1, 1, none⟩ = some d ∧
    w.cell? ⟨N + 1 + 1, 0, none⟩ = some x ∧ w.cell? ⟨N + 1 + 1, 1, none⟩ = some y ∧ w.frozen? ⟨N + 1 + 1, 0, none⟩ = false ∧ w.frozen? ⟨N + 1 + 1, 1, none⟩ = false
theorem Six.keep {w w' : World} {N C : Nat} {a b c d x y : Value} (h : Six w N a b c d x y) (hb : Below C w w') (hC : N + 1 + 1 < C) : Six w' N a b c d x y := by
  obtain ⟨h0, h1, h2, h3, h4, h5, h6, h7⟩ := h
  exact ⟨(hb.cell (show N < C by omega)).trans h0, (hb.cell (show N < C by omega)).trans h1, (hb.cell (show N + 1 < C by omega)).trans h2, (hb.cell (show N + 1 < C by omega)).trans h3,
    (hb.cell (show N + 1 + 1 < C by omega)).trans h4, (hb.cell (show N + 1 + 1 < C by omega)).trans h5, (hb.frozen (show N + 1 + 1 < C by omega)).trans h6, (hb.frozen (show N + 1 + 1 < C by omega)).trans h7⟩

/-- The arguments' cells, behind whatever leaves them alone. -/
theorem arg_cells {w w1 : World} {x y x' y' : Value} {T : TypeId} {o : Obj} (hb : Below (((w.alloc (.cells #[x, y] T)).alloc (.cells #[x', y'] T)).alloc o).heap.size (((w.alloc (.cells #[x, y] T)).alloc (.cells #[x', y'] T)).alloc o) w1) :
    w1.cell? ⟨w.heap.size, 0, none⟩ = some x ∧ w1.cell? ⟨w.heap.size, 1, none⟩ = some y ∧ w1.cell? ⟨w.heap.size + 1, 0, none⟩ = some x' ∧ w1.cell? ⟨w.heap.size + 1, 1, none⟩ = some y' := by
  have h0 : w.heap.size < (((w.alloc (.cells #[x, y] T)).alloc (.cells #[x', y'] T)).alloc o).heap.size := by simp; omega
  have h1 : w.heap.size + 1 < (((w.alloc (.cells #[x, y] T)).alloc (.cells #[x', y'] T)).alloc o).heap.size := by simp
  have e : (w.alloc (.cells #[x, y] T)).heap.size = w.heap.size + 1 := by simp
  refine ⟨(hb.cell h0).trans ?_, (hb.cell h0).trans ?_, (hb.cell h1).trans ?_, (hb.cell h1).trans ?_⟩
  · rw [World.cell?_alloc_past _ _ _ (by simp; omega), World.cell?_alloc_past _ _ _ (by simp), World.cell?_alloc_at _ _ _ _ rfl]; rfl
  · rw [World.cell?_alloc_past _ _ _ (by simp; omega), World.cell?_alloc_past _ _ _ (by simp), World.cell?_alloc_at _ _ _ _ rfl]; rfl
  · rw [World.cell?_alloc_past _ _ _ (by simp), World.cell?_alloc_at _ _ _ _ e.symm]; rfl
  · rw [World.cell?_alloc_past _ _ _ (by simp), World.cell?_alloc_at _ _ _ _ e.symm]; rfl

theorem rjoin_far (sup : List Int) (k n k' n' : Int) (A : Option Addr) (cap B : Nat) (w : World) (hl : sup.length ≤ 1048576) (hB : B ≤ w.heap.size) (h : Supers w B A sup) (hno : ¬ (k = 3 ∧ k' = 3) ∨ subB sup k n k' n' = true ∨ subB sup k' n' k n = true) :
    Calls Try.prog 17 #[.slice A sup.length cap, tyV k n, tyV k' n'] w fun e w' => e = .returned (tyV (joinR sup k n k' n').1 (joinR sup k n k' n').2) ∧ Below w.heap.size w w' := by
  have hW : Below w.heap.size w (((w.alloc (.cells #[.int .i64 k, .int .i64 n] 24)).alloc (.cells #[.int .i64 k', .int .i64 n'] 24)).alloc (.cells #[.int .i64 0, .int .i64 0] 24)) :=
    (((Below.refl w.heap.size w).alloc (Nat.le_refl _) _).alloc (by simp) _).alloc (by simp; omega) _
  have HS := Lib.hid (h.below_to hW hB)
  have HW := Lib.hid hW
  have HB := Lib.hid hB
  clear h hW hB
  have J := Lib.hid (show joinR sup k n k' n' = if subB sup k n k' n' then (k', n') else if subB sup k' n' k n then (k, n) else if k = 3 ∧ k' = 3 then firstIn ((aboveI sup n).drop 1) (aboveI sup n') else (0, 0) from rfl)
  generalize joinR sup k n k' n' = j at J ⊢
  have hz1 : w.heap.size < w.heap.size + 1 + 1 + 1 := by omega
  have hz2 : w.heap.size + 1 < w.heap.size + 1 + 1 + 1 := by omega
  by_cases h1 : subB sup k n k' n' = true
  · have J2 := Lib.hid (show j = (k', n') by rw [J.out, if_pos h1])
    have H1 := Lib.hid h1
    clear h1 J
    go_enter Try.func17, Try.ntmps17
    go_wp2_with (go_at_call 15; (with_reducible refine (rsub_any sup _ _ _ _ A cap B _ hl (by have := HB.out; simp; omega) HS.out).mono ?_); rintro e w1 ⟨he, hb⟩; rw [H1.out] at he; subst he; obtain ⟨hc, hf⟩ := below_cells hb; obtain ⟨r0, r1, r2, r3⟩ := res_cells hb)
    rw [J2.out]
    refine bodyPost_ret (v := tyV k' n') ?_ rfl ⟨rfl, ?_⟩
    · simp [results, Try.results17, go_sem, r0, r1]
    · exact HW.out.trans (((hb.mono (by simp; omega)).setCell (by simp; omega) _).setCell (by simp; omega) _)
  · have F1 := Lib.hid (show subB sup k n k' n' = false by simpa using h1)
    have H1 := F1
    clear h1
    by_cases h2 : subB sup k' n' k n = true
    · have J2 := Lib.hid (show j = (k, n) by rw [J.out, F1.out, h2]; rfl)
      have H2 := Lib.hid h2
      clear h2 J
      go_enter Try.func17, Try.ntmps17
      go_wp2_with (first | (go_at_call 15; (with_reducible refine (rsub_any sup _ _ _ _ A cap B _ hl (by have := HB.out; simp; omega) HS.out).mono ?_); rintro e w1 ⟨he, hb⟩; rw [H1.out] at he; subst he; obtain ⟨hc, hf⟩ := below_cells hb; obtain ⟨r0, r1, r2, r3⟩ := res_cells hb; obtain ⟨q0, q1, q2, q3⟩ := arg_cells hb; have HS1 := Lib.hid (HS.out.below_to hb (by have := HB.out; simp; omega)); have HZ := Lib.hid hb.size) | (go_at_call 15; (with_reducible refine (rsub_any sup _ _ _ _ A cap B _ hl (by have := HB.out; have := HZ.out; simp at this; omega) HS1.out).mono ?_); rintro e w2 ⟨he, hb2⟩; rw [H2.out] at he; subst he; have hbb := Lib.hid (hb.trans (hb2.mono hb.size)); clear hc hf r0 r1 r2 r3 q0 q1 q2 q3; obtain ⟨hc, hf⟩ := below_cells hbb.out; obtain ⟨r0, r1, r2, r3⟩ := res_cells hbb.out; obtain ⟨q0, q1, q2, q3⟩ := arg_cells hbb.out; have HS2 := Lib.hid (HS.out.below_to hbb.out (by have := HB.out; simp; omega)); have HZ2 := Lib.hid hbb.out.size))
      rw [J2.out]
      refine bodyPost_ret (v := tyV k n) ?_ rfl ⟨rfl, ?_⟩
      · simp [results, Try.results17, go_sem, r0, r1]
      · exact HW.out.trans (((hbb.out.mono (by simp; omega)).setCell (by simp; omega) _).setCell (by simp; omega) _)
    · have H2 := Lib.hid (show subB sup k' n' k n = false by simpa using h2)
      clear h2
      by_cases h3 : k = 3 ∧ k' = 3
      · rcases hno with g | g | g
        · exact absurd h3 g
        · rw [H1.out] at g; cases g
        · rw [H2.out] at g; cases g
      · have J2 := Lib.hid (show j = (0, 0) by rw [J.out, H1.out, H2.out, if_neg h3]; rfl)
        have h3' : ¬ k = 3 ∨ (k = 3 ∧ ¬ k' = 3) := by omega
        clear h3 J
        rcases h3' with h3 | ⟨rfl, h3⟩
        all_goals
          go_enter Try.func17, Try.ntmps17
          go_wp2_with (first | (go_at_call 15; (with_reducible refine (rsub_any sup _ _ _ _ A cap B _ hl (by have := HB.out; simp; omega) HS.out).mono ?_); rintro e w1 ⟨he, hb⟩; rw [H1.out] at he; subst he; obtain ⟨hc, hf⟩ := below_cells hb; obtain ⟨r0, r1, r2, r3⟩ := res_cells hb; obtain ⟨q0, q1, q2, q3⟩ := arg_cells hb; have HS1 := Lib.hid (HS.out.below_to hb (by have := HB.out; simp; omega)); have HZ := Lib.hid hb.size) | (go_at_call 15; (with_reducible refine (rsub_any sup _ _ _ _ A cap B _ hl (by have := HB.out; have := HZ.out; simp at this; omega) HS1.out).mono ?_); rintro e w2 ⟨he, hb2⟩; rw [H2.out] at he; subst he; have hbb := Lib.hid (hb.trans (hb2.mono hb.size)); clear hc hf r0 r1 r2 r3 q0 q1 q2 q3; obtain ⟨hc, hf⟩ := below_cells hbb.out; obtain ⟨r0, r1, r2, r3⟩ := res_cells hbb.out; obtain ⟨q0, q1, q2, q3⟩ := arg_cells hbb.out; have HS2 := Lib.hid (HS.out.below_to hbb.out (by have := HB.out; simp; omega)); have HZ2 := Lib.hid hbb.out.size))
          rw [J2.out]
          refine bodyPost_ret (v := tyV 0 0) ?_ rfl ⟨rfl, ?_⟩
          · simp [results, Try.results17, go_sem, r0, r1]
          · exact HW.out.trans (((hbb.out.mono (by simp; omega)).setCell (by simp; omega) _).setCell (by simp; omega) _)
end Go.Proofs.Ytkfhpbedllcecaa
