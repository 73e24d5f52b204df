/-
  What the document's own answers for types come to: Good, IsRef, In, Above, Sub, Join.
  Whether one type fits where another is wanted, as plain data, and how much stands above a class. Plain definitions and lemmas; no conditions.
  Plain facts of what stands above a class, and of which type fits where.
  What the program's own kind.Below comes to.
-/
import Derived.Test.YtndacljmcofopaaM01
import Derived.Test.YtndacljmcofopaaRows
import Derived.ProofKit
import Derived.OpenShut
import Derived.Outline
namespace Go.Proofs.Ytndacljmcofopaa
set_option maxRecDepth 100000
set_option linter.unusedVariables false
set_option linter.unusedSimpArgs false
set_option linter.unusedVariables false
open Go.ChangeShapes Go.WideShapes Go.ChangeAt Go.RowKit

def isRefB (k : Int) : Bool := decide (k = 2 ∨ k = 3 ∨ k = 4)
def goodB (k n c : Int) : Bool := decide ((k = 1 ∨ k = 2) ∧ n = 0 ∨ k = 3 ∧ 0 ≤ n ∧ n < c)

theorem risref_any (k n : Int) (w : World) : Calls Try.prog 27 #[tyV k n] w fun e w' => e = .returned (.bool (isRefB k)) ∧ Below w.heap.size w w' := by
  by_cases h : k = 2 ∨ k = 3 ∨ k = 4
  · have E := Lib.hid (show isRefB k = true from decide_eq_true h)
    rcases h with rfl | rfl | rfl
    all_goals
      go_enter Try.func27, Try.ntmps27
      go_wp2
      go_ret
      refine ⟨?_, ?_⟩
      · rw [E.out]; rfl
      · exact (Below.refl _ _).alloc (Nat.le_refl _) _
  · have E := Lib.hid (show isRefB k = false from decide_eq_false h)
    have h2 : ¬ k = 2 := by omega
    have h3 : ¬ k = 3 := by omega
    have h4 : ¬ k = 4 := by omega
    clear h
    go_enter Try.func27, Try.ntmps27
    go_wp2
    go_ret
    refine ⟨?_, ?_⟩
    · rw [E.out]; simp [h2, h3, h4]
    · exact (Below.refl _ _).alloc (Nat.le_refl _) _

/-- A class, and all above it, the nearest one first. -/
def aboveOf (sup : List Int) (c : Nat) : List Int := match sup[c]? with
  | none => []
  | some s => (c : Int) :: (if h : 0 ≤ s ∧ s < c then aboveOf sup s.toNat else [])
termination_by c
decreasing_by omega
def aboveI (sup : List Int) (c : Int) : List Int := if 0 ≤ c then aboveOf sup c.toNat else []
theorem aboveOf_none {sup : List Int} {c : Nat} (h : sup.length ≤ c) : aboveOf sup c = [] := by
  rw [aboveOf, List.getElem?_eq_none h]
theorem aboveOf_some {sup : List Int} {c : Nat} {s : Int} (h : sup[c]? = some s) : aboveOf sup c = (c : Int) :: (if s < c then aboveI sup s else []) := by
  rw [aboveOf, h]
  dsimp only
  unfold aboveI
  by_cases h1 : s < c
  · by_cases h2 : 0 ≤ s
    · rw [dif_pos ⟨h2, h1⟩, if_pos h1, if_pos h2]
    · rw [dif_neg (fun g => h2 g.1), if_pos h1, if_neg h2]
  · rw [dif_neg (fun g => h1 g.2), if_neg h1]
theorem aboveOf_len (sup : List Int) (c : Nat) : (aboveOf sup c).length ≤ c + 1 := by
  induction c using Nat.strongRecOn with
  | ind c ih =>
    rw [aboveOf]
    split
    · simp
    · rename_i s _
      by_cases h : 0 ≤ s ∧ s < c
      · rw [dif_pos h]
        have := ih s.toNat (by omega)
        simp; omega
      · rw [dif_neg h]; simp

theorem info_int : (Try.prog.info? 3).map (fun i => (i.zero, i.size, i.bytes)) = some (some (.int .i64 0), 1, 8) := by kernel_rfl

/-- A slice of the call's own that holds these numbers. -/
def OwnInts (l : List Int) (w : World) (e : Ending) (w' : World) : Prop :=
  ∃ v, e = .returned v ∧ w'.ownsRow w.heap.size 3 1 v l.length (l.map (Value.int .i64)) ∧ Below w.heap.size w w'

theorem own_snoc64 {B : Nat} {w w1 : World} {e : TypeId} {v v' : Value} {pre : List Int} {b : Int} {o : Obj} {wr : World}
    (hown : wr.ownsRow B e 1 v pre.length (pre.map (Value.int .i64))) (hB : B ≤ wr.heap.size) (hnx : Below B w wr)
    (hown' : w1.ownsRow B e 1 v' (pre.length + 1) (pre.map (Value.int .i64) ++ [.int .i64 b])) (hgrow : (wr.alloc o).grownBy w1 v.ownBlock) :
    w1.ownsRow B e 1 v' (pre ++ [b]).length ((pre ++ [b]).map (Value.int .i64)) ∧ Below B w w1 :=
  ⟨by simpa using hown', (hnx.alloc hB o).grown hgrow (by simp; omega) (fun j hj => (hown.lt j hj).1)⟩

set_option maxRecDepth 1000000 in
set_option maxHeartbeats 1600000 in
theorem rabove_any (sup : List Int) (c : Int) (A : Option Addr) (cap B : Nat) (w : World) (hl : sup.length ≤ 1048576) (hB : B ≤ w.heap.size) (h : Supers w B A sup) :
    Calls Try.prog 33 #[.slice A sup.length cap, .int .i64 c] w (OwnInts (aboveI sup c) w) := by
  obtain ⟨i0, hi, hz0, hz1, hz2⟩ := info_parts info_int
  have HL := Lib.hid h
  clear h
  go_enter Try.func33, Try.ntmps33
  go_wp2
  go_loopw [1, 5] (fun a v wr => ∃ (C : Int) (pre : List Int), a = .int .i64 C ∧ pre ++ aboveI sup C = aboveI sup c ∧ pre.length ≤ 1048576 ∧ (0 ≤ C → C < sup.length → pre.length + C + 1 ≤ sup.length) ∧
      wr.ownsRow w.heap.size 3 1 v pre.length (pre.map (Value.int .i64)) ∧ Below w.heap.size w wr) (fun a _ _ => (intOf a + 1).toNat)
  case atStart =>
    refine ⟨c, [], rfl, rfl, by simp, by simp; omega, ⟨rfl, .inr ⟨w.heap.size, 0, #[], rfl, Nat.le_refl _, heap_alloc_new _ _, Nat.le_refl _, by unfold maxLen; omega, rfl, rfl⟩⟩, (Below.refl _ _).alloc (Nat.le_refl _) _⟩
  case round =>
    obtain ⟨C, pre, rfl, hpre, hp1, hp2, hown, hnx⟩ := hrel
    have HP := Lib.hid hpre
    clear hpre
    by_cases h0 : 0 ≤ C
    · by_cases h1 : C < sup.length
      · obtain ⟨K, rfl⟩ := Int.eq_ofNat_of_zero_le h0
        have hlt : K < sup.length := by omega
        have hs0 := List.getElem?_eq_getElem hlt
        obtain ⟨ad, rfl, hab, hc⟩ := HL.out K _ hs0
        have A1 := Lib.hid (aboveOf_some hs0)
        clear hs0
        generalize sup[K] = s at *
        have hp3 : pre.length + K + 1 ≤ sup.length := by have := hp2 h0 h1; omega
        clear hp2
        have hcr := (hnx.cell (p := ad.add (K * 3)) (by rw [addr_add_block]; omega)).trans hc
        clear hc
        go_wp2_with (at_builtin; refine wpList_append_own _ rfl _ _ 26 rfl w.heap.size 3 i0 (.int .i64 0) 1 8 Try.underlying26 hi hz0 hz1 hz2 rfl (by decide) _ _ _ rfl (hown.alloc _) ⟨_, 0, none⟩ 1 1 [.int .i64 (K : Int)] rfl rfl ?c1 ?c2 ?c3 ?c4 ?c5 ?_)
        case c1 =>
          intro j u hj
          match j, hj with
          | 0, hj => simp at hj; subst hj; simp [Addr.add]
        case c2 => intro u hu; simp at hu; subst hu; rfl
        case c3 => unfold maxLen; omega
        case c4 => omega
        case c5 => have := hnx.size; simp; omega
        intro v' w1 hown' hgrow _
        have hb1 := (hnx.alloc hnx.size _).grown hgrow (by simp; have := hnx.size; omega) (fun j hj => (hown.lt j hj).1)
        have R := own_snoc64 hown hnx.size hnx hown' hgrow
        have hc1 : w1.cell? (ad.add (K * 3)) = some (.int .i64 s) := ((R.2.cell (p := ad.add (K * 3)) (by rw [addr_add_block]; omega)).trans (hnx.cell (p := ad.add (K * 3)) (by rw [addr_add_block]; omega)).symm).trans hcr
        clear hown' hgrow hown hcr hb1
        have AK := Lib.hid (show aboveI sup (K : Int) = (K : Int) :: (if s < K then aboveI sup s else []) by unfold aboveI; rw [if_pos (by omega), Int.toNat_natCast]; exact A1.out)
        clear A1
        by_cases hs : s < K
        · have A2 := Lib.hid (show (pre ++ [(K : Int)]) ++ aboveI sup s = aboveI sup c by rw [← HP.out, AK.out, if_pos hs]; simp)
          clear AK HP
          go_wp2_with fail
          go_roundw
          case rel => exact ⟨s, pre ++ [(K : Int)], rfl, A2.out, by simp; omega, by simp; omega, R.1, R.2⟩
          case measure => simp [intOf]; omega
        · have A2 := Lib.hid (show (pre ++ [(K : Int)]) ++ aboveI sup (-1) = aboveI sup c by rw [← HP.out, AK.out, if_neg hs]; simp [aboveI])
          clear AK HP
          go_wp2_with fail
          go_roundw
          case rel => exact ⟨-1, pre ++ [(K : Int)], rfl, A2.out, by simp; omega, by simp, R.1, R.2⟩
          case measure => simp [intOf]
      · have A2 := Lib.hid (show pre = aboveI sup c by rw [← HP.out]; unfold aboveI; rw [if_pos h0, aboveOf_none (by omega)]; simp)
        clear HP
        go_wp2_with fail
        go_ret
        rw [← A2.out]
        exact ⟨_, rfl, hown, hnx⟩
    · have A2 := Lib.hid (show pre = aboveI sup c by rw [← HP.out]; unfold aboveI; rw [if_neg h0]; simp)
      clear HP
      go_wp2_with fail
      go_ret
      rw [← A2.out]
      exact ⟨_, rfl, hown, hnx⟩
end Go.Proofs.Ytndacljmcofopaa
namespace Go.Proofs.Ytndacljmcofopaa
set_option maxRecDepth 100000
set_option linter.unusedVariables false
set_option linter.unusedSimpArgs false
open Go.ChangeShapes Go.WideShapes Go.ChangeAt Go.RowKit
set_option linter.unusedVariables false

def subB (sup : List Int) (k n k' n' : Int) : Bool := if k = 4 then isRefB k' else if k = 3 then decide (k' = 3) && inB (aboveI sup n) n' else decide ((k = 1 ∨ k = 2) ∧ k = k' ∧ n = n')

/-- What stood below a block number stands as it did. -/
theorem below_cells {W w1 : World} (hb : Below W.heap.size W w1) : (∀ b o, b < W.heap.size → w1.cell? ⟨b, o, none⟩ = W.cell? ⟨b, o, none⟩) ∧ (∀ b o, b < W.heap.size → w1.frozen? ⟨b, o, none⟩ = W.frozen? ⟨b, o, none⟩) :=
  ⟨fun b o h => hb.cell (p := ⟨b, o, none⟩) h, fun b o h => hb.frozen (p := ⟨b, o, none⟩) h⟩

theorem aboveI_len (sup : List Int) (n : Int) : (aboveI sup n).length ≤ sup.length := by
  unfold aboveI
  split
  · rcases Nat.lt_or_ge n.toNat sup.length with g | g
    · have := aboveOf_len sup n.toNat; omega
    · rw [aboveOf_none g]; simp
  · simp
end Go.Proofs.Ytndacljmcofopaa
namespace Go.Proofs.Ytndacljmcofopaa
set_option maxRecDepth 100000
set_option linter.unusedVariables false
set_option linter.unusedSimpArgs false

theorem aboveI_step {sup : List Int} {a : Int} {s : Int} (h0 : 0 ≤ a) (h : sup[a.toNat]? = some s) : aboveI sup a = a :: (if s < a then aboveI sup s else []) := by
  have e := aboveOf_some h
  have ea : (a.toNat : Int) = a := by omega
  rw [ea] at e
  rw [← e]
  unfold aboveI
  rw [if_pos h0]
theorem aboveI_bad {sup : List Int} {a : Int} (h : a < 0 ∨ (sup.length : Int) ≤ a) : aboveI sup a = [] := by
  unfold aboveI
  split
  · exact aboveOf_none (by omega)
  · rfl
theorem super_at {sup : List Int} {a : Int} (h0 : 0 ≤ a) (h1 : a < sup.length) : ∃ s, sup[a.toNat]? = some s :=
  ⟨_, List.getElem?_eq_getElem (show a.toNat < sup.length by omega)⟩

theorem above_self {sup : List Int} {a : Int} (h0 : 0 ≤ a) (h1 : a < sup.length) : a ∈ aboveI sup a := by
  obtain ⟨s, hs⟩ := super_at h0 h1
  rw [aboveI_step h0 hs]
  exact List.mem_cons_self
/-- What stands above a class: from 0 to its own number; the classes above that stand above the class, too; and of two that stand above it the lower one stands above the other. -/
theorem above_all (sup : List Int) (n : Nat) : ∀ a : Int, a < n → (∀ b ∈ aboveI sup a, 0 ≤ b ∧ b ≤ a ∧ a < sup.length) ∧ (∀ b ∈ aboveI sup a, ∀ c ∈ aboveI sup b, c ∈ aboveI sup a) ∧
    (∀ b ∈ aboveI sup a, ∀ c ∈ aboveI sup a, c ≤ b → c ∈ aboveI sup b) ∧ (aboveI sup a).Pairwise (· > ·) := by
  induction n with
  | zero =>
    intro a ha
    rw [aboveI_bad (.inl (by omega))]
    simp
  | succ n ih =>
    intro a ha
    by_cases hv : 0 ≤ a ∧ a < sup.length
    · obtain ⟨h0, h1⟩ := hv
      obtain ⟨s, hs⟩ := super_at h0 h1
      have e := aboveI_step h0 hs
      by_cases hsa : s < a
      · rw [if_pos hsa] at e
        obtain ⟨i1, i2, i3, i4⟩ := ih s (by omega)
        refine ⟨?_, ?_, ?_, ?_⟩
        · intro b hb
          rw [e] at hb
          rcases List.mem_cons.mp hb with rfl | hb
          · exact ⟨h0, by omega, h1⟩
          · have := i1 b hb
            exact ⟨this.1, by omega, h1⟩
        · intro b hb c hc
          rw [e] at hb
          rcases List.mem_cons.mp hb with rfl | hb
          · exact hc
          · rw [e]
            exact List.mem_cons_of_mem _ (i2 b hb c hc)
        · intro b hb c hc hcb
          have hb' := hb
          rw [e] at hb' hc
          rcases List.mem_cons.mp hb' with rfl | hb2
          · rw [e]; exact hc
          · rcases List.mem_cons.mp hc with rfl | hc2
            · have := i1 b hb2
              omega
            · exact i3 b hb2 c hc2 hcb
        · rw [e, List.pairwise_cons]
          exact ⟨fun b hb => by have := i1 b hb; omega, i4⟩
      · rw [if_neg hsa] at e
        rw [e]
        refine ⟨?_, ?_, ?_, by simp⟩
        · intro b hb
          simp at hb
          subst hb
          exact ⟨h0, by omega, h1⟩
        · intro b hb c hc
          simp at hb
          subst hb
          rw [← e]
          exact hc
        · intro b hb c hc _
          simp at hb
          subst hb
          rw [e]
          exact hc
    · rw [aboveI_bad (by omega)]
      simp
theorem above_range {sup : List Int} {a b : Int} (h : b ∈ aboveI sup a) : 0 ≤ b ∧ b ≤ a ∧ a < sup.length := (above_all sup (a.toNat + 1) a (by omega)).1 b h
theorem above_trans {sup : List Int} {a b c : Int} (h : b ∈ aboveI sup a) (g : c ∈ aboveI sup b) : c ∈ aboveI sup a := (above_all sup (a.toNat + 1) a (by omega)).2.1 b h c g
theorem above_line {sup : List Int} {a b c : Int} (h : b ∈ aboveI sup a) (g : c ∈ aboveI sup a) (l : c ≤ b) : c ∈ aboveI sup b := (above_all sup (a.toNat + 1) a (by omega)).2.2.1 b h c g l
theorem above_down (sup : List Int) (a : Int) : (aboveI sup a).Pairwise (· > ·) := (above_all sup (a.toNat + 1) a (by omega)).2.2.2
theorem above_anti {sup : List Int} {a b : Int} (h : b ∈ aboveI sup a) (g : a ∈ aboveI sup b) : a = b := by
  have := above_range h
  have := above_range g
  omega

theorem inB_iff {l : List Int} {n : Int} : inB l n = true ↔ n ∈ l := by unfold inB; simp

theorem sub_iff (sup : List Int) (k n k' n' : Int) : subB sup k n k' n' = true ↔ (k = 4 ∧ (k' = 2 ∨ k' = 3 ∨ k' = 4)) ∨ (k = 3 ∧ k' = 3 ∧ n' ∈ aboveI sup n) ∨ ((k = 1 ∨ k = 2) ∧ k = k' ∧ n = n') := by
  unfold subB
  by_cases h4 : k = 4
  · subst h4; simp [isRefB]
  · by_cases h3 : k = 3
    · subst h3; simp [inB]
    · simp [h3, h4]

end Go.Proofs.Ytndacljmcofopaa
namespace Go.Proofs.Ytndacljmcofopaa
set_option maxRecDepth 100000
set_option linter.unusedVariables false
set_option linter.unusedSimpArgs false
open Go.ChangeShapes Go.WideShapes Go.ChangeAt Go.RowKit
set_option linter.unusedVariables false

/-- What stands above a class, in the program's own words: -1, if nothing does. -/
def supI (sup : List Int) (c : Int) : Int := match sup[c.toNat]? with
  | some s => if 0 ≤ s ∧ s < c then s else -1
  | none => -1

theorem kabove_any (sup : List Int) (c : Int) (h0 : 0 ≤ c) (h1 : c < sup.length) (A : Option Addr) (cap B : Nat) (w : World) (hl : sup.length ≤ 1048576) (h : Supers w B A sup) :
    Calls Try.prog 82 #[.slice A sup.length cap, .int .i64 c] w fun e w' => e = .returned (.int .i64 (supI sup c)) ∧ w = w' := by
  obtain ⟨K, rfl⟩ := Int.eq_ofNat_of_zero_le h0
  have hlt : K < sup.length := by omega
  have hs0 := List.getElem?_eq_getElem hlt
  obtain ⟨ad, rfl, hab, hc⟩ := h K _ hs0
  have E := Lib.hid (show supI sup (K : Int) = if 0 ≤ sup[K] ∧ sup[K] < (K : Int) then sup[K] else -1 by unfold supI; rw [Int.toNat_natCast, hs0])
  clear hs0 h
  generalize sup[K] = s at *
  by_cases g : 0 ≤ s ∧ s < (K : Int)
  · have E2 := Lib.hid (show supI sup (K : Int) = s by rw [E.out, if_pos g])
    clear E
    obtain ⟨g0, g1⟩ := g
    go_enter Try.func82, Try.ntmps82
    go_wp2_with fail
    go_ret
    rw [E2.out]
    exact ⟨rfl, rfl⟩
  · have E2 := Lib.hid (show supI sup (K : Int) = -1 by rw [E.out, if_neg g])
    clear E
    by_cases g0 : 0 ≤ s
    · have g1 : ¬ s < (K : Int) := by omega
      clear g
      go_enter Try.func82, Try.ntmps82
      go_wp2_with fail
      go_ret
      rw [E2.out]
      exact ⟨rfl, rfl⟩
    · clear g
      go_enter Try.func82, Try.ntmps82
      go_wp2_with fail
      go_ret
      rw [E2.out]
      exact ⟨rfl, rfl⟩

/-- Is there a class of that number? -/
def isClsB (sup : List Int) (c : Int) : Bool := decide (0 ≤ c ∧ c < sup.length)

theorem kisclass_any (sup : List Int) (c : Int) (A : Option Addr) (cap : Nat) (w : World) (hl : sup.length ≤ 1048576) :
    Calls Try.prog 81 #[.slice A sup.length cap, .int .i64 c] w fun e w' => e = .returned (.bool (isClsB sup c)) ∧ w = w' := by
  by_cases h0 : 0 ≤ c
  · by_cases h1 : c < sup.length
    · have E := Lib.hid (show isClsB sup c = true from decide_eq_true ⟨h0, h1⟩)
      go_enter Try.func81, Try.ntmps81
      go_wp2_with fail
      go_ret
      rw [E.out]
      exact ⟨by first | rfl | simp [h1], rfl⟩
    · have E := Lib.hid (show isClsB sup c = false from decide_eq_false (by omega))
      go_enter Try.func81, Try.ntmps81
      go_wp2_with fail
      go_ret
      rw [E.out]
      exact ⟨by first | rfl | simp [h1], rfl⟩
  · have E := Lib.hid (show isClsB sup c = false from decide_eq_false (by omega))
    go_enter Try.func81, Try.ntmps81
    go_wp2_with fail
    go_ret
    rw [E.out]
    exact ⟨by first | rfl | simp [h0], rfl⟩

theorem supI_bounds (sup : List Int) (c : Int) : -1 ≤ supI sup c ∧ (0 ≤ c → supI sup c < c) := by
  unfold supI
  split
  · split <;> omega
  · exact ⟨by omega, fun h => by omega⟩
theorem above_sup {sup : List Int} {c : Int} (h0 : 0 ≤ c) (h1 : c < sup.length) : aboveI sup c = c :: aboveI sup (supI sup c) := by
  obtain ⟨s, hs⟩ := super_at h0 h1
  rw [aboveI_step h0 hs]
  unfold supI
  rw [hs]
  dsimp only
  by_cases g : s < c
  · rw [if_pos g]
    by_cases g0 : 0 ≤ s
    · rw [if_pos ⟨g0, g⟩]
    · rw [if_neg (by omega), aboveI_bad (.inl (by omega)), aboveI_bad (.inl (by omega))]
  · rw [if_neg g, if_neg (by omega), aboveI_bad (.inl (by omega))]
theorem class_true {sup : List Int} {c : Int} (h : isClsB sup c = true) : 0 ≤ c ∧ c < sup.length := of_decide_eq_true h
theorem class_false {sup : List Int} {c : Int} (h : ¬ isClsB sup c = true) : c < 0 ∨ (sup.length : Int) ≤ c := by
  unfold isClsB at h
  simp at h
  omega
theorem inB_no {l : List Int} {n : Int} (h : n ∉ l) : inB l n = false := decide_eq_false h

theorem kbelow_any (sup : List Int) (a b : Int) (A : Option Addr) (cap B : Nat) (w : World) (hl : sup.length ≤ 1048576) (hB : B ≤ w.heap.size) (h : Supers w B A sup) :
    Calls Try.prog 77 #[.slice A sup.length cap, .int .i64 a, .int .i64 b] w fun e w' => e = .returned (.bool (inB (aboveI sup a) b)) ∧ Below w.heap.size w w' := by
  have HS := Lib.hid h
  clear h
  by_cases ha : isClsB sup a = true
  · by_cases hb : isClsB sup b = true
    · obtain ⟨a0, a1⟩ := class_true ha
      obtain ⟨b0, b1⟩ := class_true hb
      have HA := Lib.hid ha
      have HB := Lib.hid hb
      clear ha hb
      go_enter Try.func77, Try.ntmps77
      go_wp2_with (first
        | (go_at_call 81; (with_reducible refine (kisclass_any sup a A cap w hl).mono ?_); rintro e w' ⟨he, rfl⟩; rw [HA.out] at he; subst he)
        | (go_at_call 81; (with_reducible refine (kisclass_any sup b A cap w hl).mono ?_); rintro e w' ⟨he, rfl⟩; rw [HB.out] at he; subst he))
      go_loop [1] (fun i => ∃ c : Int, i = .int .i64 c ∧ -1 ≤ c ∧ c < sup.length ∧ inB (aboveI sup a) b = inB (aboveI sup c) b) (fun i => (intOf i + 1).toNat)
      case atStart => exact ⟨a, rfl, by omega, a1, rfl⟩
      case round =>
        obtain ⟨c, rfl, c0, c1, hn⟩ := hrel
        have HN := Lib.hid hn
        clear hn
        by_cases hcb : b < c
        · have R := Lib.hid (show inB (aboveI sup a) b = inB (aboveI sup (supI sup c)) b by
            rw [HN.out, above_sup (by omega) c1]
            unfold inB
            simp only [List.mem_cons]
            rw [decide_eq_decide]
            constructor
            · rintro (g | g)
              · omega
              · exact g
            · exact .inr)
          have hc0 : 0 ≤ c := by omega
          have hs := supI_bounds sup c
          clear HN
          go_wp2_with (go_at_call 82; (with_reducible refine (kabove_any sup c hc0 c1 A cap B w hl HS.out).mono ?_); rintro e w' ⟨rfl, rfl⟩)
          go_round
          case rel => exact ⟨supI sup c, rfl, hs.1, by have := hs.2 hc0; omega, R.out⟩
          case measure => have := hs.2 hc0; simp [intOf]; omega
        · by_cases hc : c = b
          · have R := Lib.hid (show inB (aboveI sup a) b = true by rw [HN.out, hc]; exact inB_iff.mpr (above_self b0 b1))
            clear HN
            go_wp2_with fail
            go_ret
            rw [R.out]
            exact ⟨by first | rfl | simp [hc], Below.refl _ _⟩
          · have R := Lib.hid (show inB (aboveI sup a) b = false by rw [HN.out]; exact inB_no (fun g => by have := above_range g; omega))
            clear HN
            go_wp2_with fail
            go_ret
            rw [R.out]
            exact ⟨by first | rfl | simp [hc], Below.refl _ _⟩
    · have HA := Lib.hid ha
      have HB := Lib.hid (show isClsB sup b = false by simpa using hb)
      have R := Lib.hid (show inB (aboveI sup a) b = false from inB_no (fun g => by have := above_range g; have := class_false hb; omega))
      clear ha hb
      go_enter Try.func77, Try.ntmps77
      go_wp2_with (first
        | (go_at_call 81; (with_reducible refine (kisclass_any sup a A cap w hl).mono ?_); rintro e w' ⟨he, rfl⟩; rw [HA.out] at he; subst he)
        | (go_at_call 81; (with_reducible refine (kisclass_any sup b A cap w hl).mono ?_); rintro e w' ⟨he, rfl⟩; rw [HB.out] at he; subst he))
      go_ret
      rw [R.out]
      exact ⟨rfl, Below.refl _ _⟩
  · have HA := Lib.hid (show isClsB sup a = false by simpa using ha)
    have R := Lib.hid (show inB (aboveI sup a) b = false from inB_no (fun g => by have := above_range g; have := class_false ha; omega))
    clear ha
    go_enter Try.func77, Try.ntmps77
    go_wp2_with (go_at_call 81; (with_reducible refine (kisclass_any sup a A cap w hl).mono ?_); rintro e w' ⟨he, rfl⟩; rw [HA.out] at he; subst he)
    go_ret
    rw [R.out]
    exact ⟨rfl, Below.refl _ _⟩
end Go.Proofs.Ytndacljmcofopaa
