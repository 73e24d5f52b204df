/-
  What the document's own answers for types come to: Good, IsRef, In, Above, Sub, Join.
  Whether one type fits where another is wanted, as plain data, and how much stands above a class. Plain definitions and lemmas; no conditions.
  What classes have, and when all is there that an image names, as plain data.
  A block's cells, one by one. Plain definitions and lemmas; no conditions.
-/
import Derived.Test.YtjjgpcmdoodjnaaM03
import Derived.Test.YtjjgpcmdoodjnaaRows
import Derived.ProofKit
import Derived.OpenShut
import Derived.Outline
import Derived.Test.YtjjgpcmdoodjnaaM01
import Derived.Deep.QuietTactic
import Derived.BigQuiet
import Derived.Deep.Cut
namespace Go.Proofs.Ytjjgpcmdoodjnaa
set_option maxRecDepth 100000
set_option linter.unusedVariables false
set_option linter.unusedSimpArgs false
set_option linter.unusedVariables false
open Go.ChangeShapes Go.WideShapes Go.ChangeAt Go.RowKit

def isRefB (k : Int) : Bool := decide (k = 2 ∨ k = 3 ∨ k = 4)
def goodB (k n c : Int) : Bool := decide ((k = 1 ∨ k = 2) ∧ n = 0 ∨ k = 3 ∧ 0 ≤ n ∧ n < c)

theorem risref_any (k n : Int) (w : World) : Calls Try.prog 44 #[tyV k n] w fun e w' => e = .returned (.bool (isRefB k)) ∧ Below w.heap.size w w' := by
  by_cases h : k = 2 ∨ k = 3 ∨ k = 4
  · have E := Lib.hid (show isRefB k = true from decide_eq_true h)
    rcases h with rfl | rfl | rfl
    all_goals
      go_enter Try.func44, Try.ntmps44
      go_wp2
      go_ret
      refine ⟨?_, ?_⟩
      · rw [E.out]; rfl
      · exact (Below.refl _ _).alloc (Nat.le_refl _) _
  · have E := Lib.hid (show isRefB k = false from decide_eq_false h)
    have h2 : ¬ k = 2 := by omega
    have h3 : ¬ k = 3 := by omega
    have h4 : ¬ k = 4 := by omega
    clear h
    go_enter Try.func44, Try.ntmps44
    go_wp2
    go_ret
    refine ⟨?_, ?_⟩
    · rw [E.out]; simp [h2, h3, h4]
    · exact (Below.refl _ _).alloc (Nat.le_refl _) _

/-- A class, and all above it, the nearest one first. -/
def aboveOf (sup : List Int) (c : Nat) : List Int := match sup[c]? with
  | none => []
  | some s => (c : Int) :: (if h : 0 ≤ s ∧ s < c then aboveOf sup s.toNat else [])
termination_by c
decreasing_by omega
def aboveI (sup : List Int) (c : Int) : List Int := if 0 ≤ c then aboveOf sup c.toNat else []
theorem aboveOf_none {sup : List Int} {c : Nat} (h : sup.length ≤ c) : aboveOf sup c = [] := by
  rw [aboveOf, List.getElem?_eq_none h]
theorem aboveOf_some {sup : List Int} {c : Nat} {s : Int} (h : sup[c]? = some s) : aboveOf sup c = (c : Int) :: (if s < c then aboveI sup s else []) := by
  rw [aboveOf, h]
  dsimp only
  unfold aboveI
  by_cases h1 : s < c
  · by_cases h2 : 0 ≤ s
    · rw [dif_pos ⟨h2, h1⟩, if_pos h1, if_pos h2]
    · rw [dif_neg (fun g => h2 g.1), if_pos h1, if_neg h2]
  · rw [dif_neg (fun g => h1 g.2), if_neg h1]
theorem aboveOf_len (sup : List Int) (c : Nat) : (aboveOf sup c).length ≤ c + 1 := by
  induction c using Nat.strongRecOn with
  | ind c ih =>
    rw [aboveOf]
    split
    · simp
    · rename_i s _
      by_cases h : 0 ≤ s ∧ s < c
      · rw [dif_pos h]
        have := ih s.toNat (by omega)
        simp; omega
      · rw [dif_neg h]; simp

theorem info_int : (Try.prog.info? 3).map (fun i => (i.zero, i.size, i.bytes)) = some (some (.int .i64 0), 1, 8) := by kernel_rfl

/-- A slice of the call's own that holds these numbers. -/
def OwnInts (l : List Int) (w : World) (e : Ending) (w' : World) : Prop :=
  ∃ v, e = .returned v ∧ w'.ownsRow w.heap.size 3 1 v l.length (l.map (Value.int .i64)) ∧ Below w.heap.size w w'

theorem own_snoc64 {B : Nat} {w w1 : World} {e : TypeId} {v v' : Value} {pre : List Int} {b : Int} {o : Obj} {wr : World}
    (hown : wr.ownsRow B e 1 v pre.length (pre.map (Value.int .i64))) (hB : B ≤ wr.heap.size) (hnx : Below B w wr)
    (hown' : w1.ownsRow B e 1 v' (pre.length + 1) (pre.map (Value.int .i64) ++ [.int .i64 b])) (hgrow : (wr.alloc o).grownBy w1 v.ownBlock) :
    w1.ownsRow B e 1 v' (pre ++ [b]).length ((pre ++ [b]).map (Value.int .i64)) ∧ Below B w w1 :=
  ⟨by simpa using hown', (hnx.alloc hB o).grown hgrow (by simp; omega) (fun j hj => (hown.lt j hj).1)⟩

set_option maxRecDepth 1000000 in
set_option maxHeartbeats 1600000 in
theorem rabove_any (sup : List Int) (c : Int) (A : Option Addr) (cap B : Nat) (w : World) (hl : sup.length ≤ 1048576) (hB : B ≤ w.heap.size) (h : Supers w B A sup) :
    Calls Try.prog 43 #[.slice A sup.length cap, .int .i64 c] w (OwnInts (aboveI sup c) w) := by
  obtain ⟨i0, hi, hz0, hz1, hz2⟩ := info_parts info_int
  have HL := Lib.hid h
  clear h
  go_enter Try.func43, Try.ntmps43
  go_wp2
  go_loopw [1, 5] (fun a v wr => ∃ (C : Int) (pre : List Int), a = .int .i64 C ∧ pre ++ aboveI sup C = aboveI sup c ∧ pre.length ≤ 1048576 ∧ (0 ≤ C → C < sup.length → pre.length + C + 1 ≤ sup.length) ∧
      wr.ownsRow w.heap.size 3 1 v pre.length (pre.map (Value.int .i64)) ∧ Below w.heap.size w wr) (fun a _ _ => (intOf a + 1).toNat)
  case atStart =>
    refine ⟨c, [], rfl, rfl, by simp, by simp; omega, ⟨rfl, .inr ⟨w.heap.size, 0, #[], rfl, Nat.le_refl _, heap_alloc_new _ _, Nat.le_refl _, by unfold maxLen; omega, rfl, rfl⟩⟩, (Below.refl _ _).alloc (Nat.le_refl _) _⟩
  case round =>
    obtain ⟨C, pre, rfl, hpre, hp1, hp2, hown, hnx⟩ := hrel
    have HP := Lib.hid hpre
    clear hpre
    by_cases h0 : 0 ≤ C
    · by_cases h1 : C < sup.length
      · obtain ⟨K, rfl⟩ := Int.eq_ofNat_of_zero_le h0
        have hlt : K < sup.length := by omega
        have hs0 := List.getElem?_eq_getElem hlt
        obtain ⟨ad, rfl, hab, hc⟩ := HL.out K _ hs0
        have A1 := Lib.hid (aboveOf_some hs0)
        clear hs0
        generalize sup[K] = s at *
        have hp3 : pre.length + K + 1 ≤ sup.length := by have := hp2 h0 h1; omega
        clear hp2
        have hcr := (hnx.cell (p := ad.add (K * 3)) (by rw [addr_add_block]; omega)).trans hc
        clear hc
        go_wp2_with (at_builtin; refine wpList_append_own _ rfl _ _ 26 rfl w.heap.size 3 i0 (.int .i64 0) 1 8 Try.underlying26 hi hz0 hz1 hz2 rfl (by decide) _ _ _ rfl (hown.alloc _) ⟨_, 0, none⟩ 1 1 [.int .i64 (K : Int)] rfl rfl ?c1 ?c2 ?c3 ?c4 ?c5 ?_)
        case c1 =>
          intro j u hj
          match j, hj with
          | 0, hj => simp at hj; subst hj; simp [Addr.add]
        case c2 => intro u hu; simp at hu; subst hu; rfl
        case c3 => unfold maxLen; omega
        case c4 => omega
        case c5 => have := hnx.size; simp; omega
        intro v' w1 hown' hgrow _
        have hb1 := (hnx.alloc hnx.size _).grown hgrow (by simp; have := hnx.size; omega) (fun j hj => (hown.lt j hj).1)
        have R := own_snoc64 hown hnx.size hnx hown' hgrow
        have hc1 : w1.cell? (ad.add (K * 3)) = some (.int .i64 s) := ((R.2.cell (p := ad.add (K * 3)) (by rw [addr_add_block]; omega)).trans (hnx.cell (p := ad.add (K * 3)) (by rw [addr_add_block]; omega)).symm).trans hcr
        clear hown' hgrow hown hcr hb1
        have AK := Lib.hid (show aboveI sup (K : Int) = (K : Int) :: (if s < K then aboveI sup s else []) by unfold aboveI; rw [if_pos (by omega), Int.toNat_natCast]; exact A1.out)
        clear A1
        by_cases hs : s < K
        · have A2 := Lib.hid (show (pre ++ [(K : Int)]) ++ aboveI sup s = aboveI sup c by rw [← HP.out, AK.out, if_pos hs]; simp)
          clear AK HP
          go_wp2_with fail
          go_roundw
          case rel => exact ⟨s, pre ++ [(K : Int)], rfl, A2.out, by simp; omega, by simp; omega, R.1, R.2⟩
          case measure => simp [intOf]; omega
        · have A2 := Lib.hid (show (pre ++ [(K : Int)]) ++ aboveI sup (-1) = aboveI sup c by rw [← HP.out, AK.out, if_neg hs]; simp [aboveI])
          clear AK HP
          go_wp2_with fail
          go_roundw
          case rel => exact ⟨-1, pre ++ [(K : Int)], rfl, A2.out, by simp; omega, by simp, R.1, R.2⟩
          case measure => simp [intOf]
      · have A2 := Lib.hid (show pre = aboveI sup c by rw [← HP.out]; unfold aboveI; rw [if_pos h0, aboveOf_none (by omega)]; simp)
        clear HP
        go_wp2_with fail
        go_ret
        rw [← A2.out]
        exact ⟨_, rfl, hown, hnx⟩
    · have A2 := Lib.hid (show pre = aboveI sup c by rw [← HP.out]; unfold aboveI; rw [if_neg h0]; simp)
      clear HP
      go_wp2_with fail
      go_ret
      rw [← A2.out]
      exact ⟨_, rfl, hown, hnx⟩
end Go.Proofs.Ytjjgpcmdoodjnaa
namespace Go.Proofs.Ytjjgpcmdoodjnaa
set_option maxRecDepth 100000
set_option linter.unusedVariables false
set_option linter.unusedSimpArgs false
open Go.ChangeShapes Go.WideShapes Go.ChangeAt Go.RowKit
set_option linter.unusedVariables false

def subB (sup : List Int) (k n k' n' : Int) : Bool := if k = 4 then isRefB k' else if k = 3 then decide (k' = 3) && inB (aboveI sup n) n' else decide ((k = 1 ∨ k = 2) ∧ k = k' ∧ n = n')

/-- What stood below a block number stands as it did. -/
theorem below_cells {W w1 : World} (hb : Below W.heap.size W w1) : (∀ b o, b < W.heap.size → w1.cell? ⟨b, o, none⟩ = W.cell? ⟨b, o, none⟩) ∧ (∀ b o, b < W.heap.size → w1.frozen? ⟨b, o, none⟩ = W.frozen? ⟨b, o, none⟩) :=
  ⟨fun b o h => hb.cell (p := ⟨b, o, none⟩) h, fun b o h => hb.frozen (p := ⟨b, o, none⟩) h⟩

theorem aboveI_len (sup : List Int) (n : Int) : (aboveI sup n).length ≤ sup.length := by
  unfold aboveI
  split
  · rcases Nat.lt_or_ge n.toNat sup.length with g | g
    · have := aboveOf_len sup n.toNat; omega
    · rw [aboveOf_none g]; simp
  · simp
end Go.Proofs.Ytjjgpcmdoodjnaa
namespace Go.Proofs.Ytjjgpcmdoodjnaa
set_option maxRecDepth 100000
set_option linter.unusedVariables false
set_option linter.unusedSimpArgs false
open Go.ChangeShapes Go.WideShapes Go.ChangeAt Go.RowKit
set_option linter.unusedVariables false

def supsOf (cl : List Cls) : List Int := cl.map (·.sup)
/-- The fields of the classes of these numbers. -/
def fieldsAt (cl : List Cls) (i : Int) : List (Int × Int) := match cl[i.toNat]? with
  | some c => c.fields
  | none => []
/-- All fields of a class, the highest one's first. -/
def fieldsOf (cl : List Cls) (c : Int) : List (Int × Int) := (aboveI (supsOf cl) c).reverse.flatMap (fieldsAt cl)
theorem supers_of {w : World} {B : Nat} {A : Option Addr} {cl : List Cls} (h : RowOf ClsAt 3 w B A cl) : Supers w B A (supsOf cl) := fun i s hs => by
  unfold supsOf at hs
  rw [List.getElem?_map] at hs
  cases hc : cl[i]? with
  | none => rw [hc] at hs; simp at hs
  | some c =>
    rw [hc] at hs
    simp at hs
    subst hs
    obtain ⟨ad, e, hb, hx⟩ := h i c hc
    exact ⟨ad, e, hb, hx.sup⟩
theorem supsOf_len (cl : List Cls) : (supsOf cl).length = cl.length := List.length_map _
theorem aboveOf_lt (sup : List Int) (c : Nat) : ∀ i ∈ aboveOf sup c, 0 ≤ i ∧ i ≤ c ∧ i < sup.length := by
  induction c using Nat.strongRecOn with
  | ind c ih =>
    intro i hi
    rcases Nat.lt_or_ge c sup.length with g | g
    · rw [aboveOf_some (List.getElem?_eq_getElem g)] at hi
      rcases List.mem_cons.mp hi with rfl | hi
      · omega
      · split at hi
        · rename_i hs
          unfold aboveI at hi
          split at hi
          · rename_i h0
            have := ih (sup[c].toNat) (by omega) i hi
            omega
          · simp at hi
        · simp at hi
    · rw [aboveOf_none g] at hi; simp at hi
theorem aboveI_lt {sup : List Int} {c i : Int} (h : i ∈ aboveI sup c) : 0 ≤ i ∧ i < sup.length := by
  unfold aboveI at h
  split at h
  · have := aboveOf_lt sup c.toNat i h
    omega
  · simp at h
def goodsB (l : List (Int × Int)) (n : Int) : Bool := l.all fun t => goodB t.1 t.2 n
end Go.Proofs.Ytjjgpcmdoodjnaa
namespace Go.Proofs.Ytjjgpcmdoodjnaa
set_option maxRecDepth 100000
set_option linter.unusedVariables false
set_option linter.unusedSimpArgs false
open Go.ChangeShapes Go.WideShapes Go.ChangeAt Go.RowKit

/-- A block's cells, one by one. -/
def Cells (w : World) (N : Nat) (vs : List Value) : Prop := ∀ i v, vs[i]? = some v → w.cell? ⟨N, i, none⟩ = some v
theorem Cells.keep {w w' : World} {N B : Nat} {vs : List Value} (H : Cells w N vs) (hb : Below B w w') (hN : N < B) : Cells w' N vs := fun i v h => (hb.cell (p := ⟨N, i, none⟩) hN).trans (H i v h)
theorem cells_new (w : World) (vs : List Value) (T : TypeId) : Cells (w.alloc (.cells vs.toArray T)) w.heap.size vs := fun i v h => by
  rw [World.cell?_alloc_at _ _ _ _ rfl]
  simpa using h
end Go.Proofs.Ytjjgpcmdoodjnaa
