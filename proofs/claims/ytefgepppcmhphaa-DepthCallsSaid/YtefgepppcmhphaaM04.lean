/-
  What the document's own answer for whether one type fits where another is wanted (Sub) comes to.
  Methods by value, and where they stand in memory. Plain definitions and lemmas; no conditions.
-/
import Derived.Test.YtefgepppcmhphaaM01
import Derived.Deep.RegionHeld3
import Derived.Deep.QuietTactic
import Derived.BigQuiet
import Derived.Test.YtefgepppcmhphaaM02
namespace Go.Proofs.Ytefgepppcmhphaa
set_option maxRecDepth 100000
set_option linter.unusedVariables false
set_option linter.unusedSimpArgs false
open Go.ChangeShapes Go.WideShapes Go.ChangeAt Go.RowKit
set_option linter.unusedVariables false

theorem rsub_4 (sup : List Int) (n k' n' : Int) (A : Option Addr) (cap : Nat) (w : World) :
    Calls Try.prog 50 #[.slice A sup.length cap, tyV 4 n, tyV k' n'] w fun e w' => e = .returned (.bool (isRefB k')) ∧ Below w.heap.size w w' := by
  go_enter Try.func50, Try.ntmps50
  go_wp2_with (go_at_call 53; (with_reducible refine (risref_any _ _ _).mono ?_); rintro e w' ⟨rfl, hb⟩)
  go_ret
  exact ⟨rfl, (((Below.refl _ _).alloc (Nat.le_refl _) _).alloc (by simp) _).trans (hb.mono (by simp; omega))⟩

theorem rsub_3n (sup : List Int) (n k' n' : Int) (hk : ¬ k' = 3) (A : Option Addr) (cap : Nat) (w : World) :
    Calls Try.prog 50 #[.slice A sup.length cap, tyV 3 n, tyV k' n'] w fun e w' => e = .returned (.bool false) ∧ Below w.heap.size w w' := by
  have hd : decide (k' = 3) = false := decide_eq_false hk
  go_enter Try.func50, Try.ntmps50
  go_wp2_with fail
  go_quiet (fail)
  go_wp2
  go_ret
  exact ⟨rfl, (((Below.refl _ _).alloc (Nat.le_refl _) _).alloc (by simp) _) |> fun h => below_drewN' h _⟩

theorem rsub_33 (sup : List Int) (n n' : Int) (A : Option Addr) (cap B : Nat) (w : World) (hl : sup.length ≤ 1048576) (hB : B ≤ w.heap.size) (h : Supers w B A sup) :
    Calls Try.prog 50 #[.slice A sup.length cap, tyV 3 n, tyV 3 n'] w fun e w' => e = .returned (.bool (inB (aboveI sup n) n')) ∧ Below w.heap.size w w' := by
  go_enter Try.func50, Try.ntmps50
  go_wp2_with fail
  have hS : Supers ((w.alloc (.cells #[.int .i64 3, .int .i64 n] 49)).alloc (.cells #[.int .i64 3, .int .i64 n'] 49)).drew B A sup :=
    h.below_to (((Below.refl w.heap.size w).alloc (Nat.le_refl _) _).alloc (by simp) _).drew hB
  have HS := Lib.hid hS
  have HB := Lib.hid (((Below.refl w.heap.size w).alloc (Nat.le_refl _) (.cells #[.int .i64 3, .int .i64 n] 49)).alloc (by simp) (.cells #[.int .i64 3, .int .i64 n'] 49))
  clear hS h
  have hLA : (aboveI sup n).length ≤ 9223372036854775807 := by
    unfold aboveI
    split
    · rcases Nat.lt_or_ge n.toNat sup.length with g | g
      · have := aboveOf_len sup n.toNat; omega
      · rw [aboveOf_none g]; simp
    · simp
  have hz : w.heap.size < w.heap.size + 1 + 1 := by omega
  go_region_held3 (fun w' => w'.cell? ⟨w.heap.size, 0, none⟩ = some (.int .i64 3) ∧ w'.cell? ⟨w.heap.size, 1, none⟩ = some (.int .i64 n) ∧ w'.cell? ⟨w.heap.size + 1, 0, none⟩ = some (.int .i64 3) ∧ w'.cell? ⟨w.heap.size + 1, 1, none⟩ = some (.int .i64 n'))
    (first | go_keep)
    (first
      | (go_at_call 54; (with_reducible refine (rabove_any sup n A cap B _ hl (by simp; omega) HS.out).mono ?_); rintro e w' ⟨v, rfl, ho, hb⟩; obtain ⟨A', c', rfl, hlies⟩ := own_slice ho; obtain ⟨hc, hf⟩ := below_cells hb; have HL := Lib.hid hlies; clear hlies)
      | (go_at_call 25; (with_reducible refine (rin_any _ _ _ _ _ _ hLA HL.out).mono ?_); rintro e w' ⟨rfl, rfl⟩))
  go_wp2
  go_ret
  exact ⟨rfl, HB.out.drew.trans (hb.mono (by simp; omega))⟩

theorem rsub_12 (sup : List Int) (k n k' n' : Int) (hk : k = 1 ∨ k = 2) (A : Option Addr) (cap : Nat) (w : World) :
    Calls Try.prog 50 #[.slice A sup.length cap, tyV k n, tyV k' n'] w fun e w' => e = .returned (.bool (decide (k = k' ∧ n = n'))) ∧ Below w.heap.size w w' := by
  rcases hk with rfl | rfl
  all_goals
    go_enter Try.func50, Try.ntmps50
    go_wp2_with fail
    all_goals
      go_ret
      refine ⟨?_, ((Below.refl _ _).alloc (Nat.le_refl _) _).alloc (by simp) _⟩
      simp [*]

theorem rsub_0 (sup : List Int) (k n k' n' : Int) (hk : ¬ (k = 1 ∨ k = 2 ∨ k = 3 ∨ k = 4)) (A : Option Addr) (cap : Nat) (w : World) :
    Calls Try.prog 50 #[.slice A sup.length cap, tyV k n, tyV k' n'] w fun e w' => e = .returned (.bool false) ∧ Below w.heap.size w w' := by
  have h1 : ¬ k = 1 := by omega
  have h2 : ¬ k = 2 := by omega
  have h3 : ¬ k = 3 := by omega
  have h4 : ¬ k = 4 := by omega
  have e1 : decide (k = 1) = false := decide_eq_false h1
  have e2 : decide (k = 2) = false := decide_eq_false h2
  clear hk
  go_enter Try.func50, Try.ntmps50
  go_wp2_with fail
  go_ret
  exact ⟨rfl, ((Below.refl _ _).alloc (Nat.le_refl _) _).alloc (by simp) _⟩

theorem rsub_any (sup : List Int) (k n k' n' : Int) (A : Option Addr) (cap B : Nat) (w : World) (hl : sup.length ≤ 1048576) (hB : B ≤ w.heap.size) (h : Supers w B A sup) :
    Calls Try.prog 50 #[.slice A sup.length cap, tyV k n, tyV k' n'] w fun e w' => e = .returned (.bool (subB sup k n k' n')) ∧ Below w.heap.size w w' := by
  by_cases h4 : k = 4
  · subst h4
    exact rsub_4 sup n k' n' A cap w
  · by_cases h3 : k = 3
    · subst h3
      by_cases hk : k' = 3
      · subst hk
        exact rsub_33 sup n n' A cap B w hl hB h
      · have e : subB sup 3 n k' n' = false := by simp [subB, hk]
        rw [e]
        exact rsub_3n sup n k' n' hk A cap w
    · by_cases h12 : k = 1 ∨ k = 2
      · have e : subB sup k n k' n' = decide (k = k' ∧ n = n') := by simp [subB, h3, h4, h12]
        rw [e]
        exact rsub_12 sup k n k' n' h12 A cap w
      · have e : subB sup k n k' n' = false := by simp [subB, h3, h4, h12]
        rw [e]
        exact rsub_0 sup k n k' n' (by omega) A cap w

end Go.Proofs.Ytefgepppcmhphaa
namespace Go.Proofs.Ytefgepppcmhphaa
set_option maxRecDepth 100000
set_option linter.unusedVariables false
set_option linter.unusedSimpArgs false
open Go.ChangeShapes Go.WideShapes Go.ChangeAt Go.RowKit
set_option linter.unusedVariables false

/-- A method's slices: where they begin, how much room they have. -/
structure MHnd where
  A0 : Option Addr
  A1 : Option Addr
  A4 : Option Addr
  A7 : Option Addr
  k0 : Nat
  k1 : Nat
  k4 : Nat
  k7 : Nat
/-- A method by value. -/
abbrev mthV (h : MHnd) (x : Mth) : Value :=
  .agg #[.slice h.A0 x.args.length h.k0, .slice h.A1 x.locals.length h.k1, .int .i64 x.ret.1, .int .i64 x.ret.2, .slice h.A4 x.code.length h.k4, .int .i64 x.depth, .int .i64 x.pot, .slice h.A7 x.phi.length h.k7]
abbrev mthL (h : MHnd) (x : Mth) : List Value :=
  [.slice h.A0 x.args.length h.k0, .slice h.A1 x.locals.length h.k1, .int .i64 x.ret.1, .int .i64 x.ret.2, .slice h.A4 x.code.length h.k4, .int .i64 x.depth, .int .i64 x.pot, .slice h.A7 x.phi.length h.k7]
/-- It stands for a method. -/
structure MthIn (w : World) (B : Nat) (h : MHnd) (x : Mth) : Prop where
  args : SlcIs TyAt 2 w B h.A0 h.k0 x.args
  locals : SlcIs TyAt 2 w B h.A1 h.k1 x.locals
  code : SlcIs CodeAt 3 w B h.A4 h.k4 x.code
  phi : SlcIs IntAt 1 w B h.A7 h.k7 x.phi
theorem MthIn.now {w w' : World} {h : MHnd} {x : Mth} (H : MthIn w w.heap.size h x) (hb : Below w.heap.size w w') : MthIn w' w'.heap.size h x :=
  ⟨(H.args.below_to TyAt.keeps hb (Nat.le_refl _)).keep' TyAt.keeps hb.size (fun _ _ => rfl), (H.locals.below_to TyAt.keeps hb (Nat.le_refl _)).keep' TyAt.keeps hb.size (fun _ _ => rfl),
    (H.code.below_to CodeAt.keeps hb (Nat.le_refl _)).keep' CodeAt.keeps hb.size (fun _ _ => rfl), (H.phi.below_to IntAt.keeps hb (Nat.le_refl _)).keep' IntAt.keeps hb.size (fun _ _ => rfl)⟩
end Go.Proofs.Ytefgepppcmhphaa
