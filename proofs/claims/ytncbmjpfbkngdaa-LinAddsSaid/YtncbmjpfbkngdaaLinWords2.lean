/-
  The laws of inequalities: sums, by the program and by the document. Plain lemmas; no conditions.
-/
import Derived.Test.YtncbmjpfbkngdaaRefSum
import Derived.Test.YtncbmjpfbkngdaaLinWords
import Derived.Deep.Cut
import Derived.IntWalk
import Derived.RegionTactic
import Derived.ChangeAlike
import Derived.Deep.RegionHeld3
import Derived.Deep.QuietTactic
import Derived.BigQuiet
namespace Go.Proofs.Ytncbmjpfbkngdaa
set_option maxRecDepth 100000
set_option linter.unusedVariables false
set_option linter.unusedSimpArgs false
open Go.ChangeShapes Go.WideShapes Go.ChangeAt Go.RowKit
set_option linter.unusedVariables false
set_option linter.unusedSimpArgs false

theorem lsum_no {list : List Inq} {times : List Int} {vars : Int} {A B : Option Addr} {c d n k : Nat} {w0 w : World} (H1 : Hid (SlcIs IneqAt 2 w0 w0.heap.size A c list)) (H2 : Hid (SlcIs IntAt 1 w0 w0.heap.size B d times)) (HX : Hid (Below w0.heap.size w0 w)) (HN : Hid (list.length = n ∧ times.length = k)) (HF : Hid (fewQ list = true)) (HR : Hid (sumR list times vars = none)) :
    Calls Try.prog 11 #[.slice A n c, .slice B k d, .int .i64 vars] w fun e w' => ∃ A c, e = .returned (.tuple #[.agg #[.slice A 0 c, .int .i64 0], .int .i64 14]) ∧ Below w.heap.size w w' := by
  obtain ⟨rfl, rfl⟩ := HN.out
  exact (lsum_any list times vars A B c d w (lslcUp IneqAt.keeps H1.out HX.out) (lslcUp IntAt.keeps H2.out HX.out) (by have := (fewQ_yes HF.out).1; omega) (fun q hq => by have := (fewQ_yes HF.out).2 q hq; omega)).mono fun e w' ⟨A1, c1, k1, he, hb, hs, hk, _⟩ => ⟨A1, c1, by rw [HR.out] at hk he; subst hk; exact he, hb⟩
theorem lsum_yes {list : List Inq} {times : List Int} {vars : Int} {A B : Option Addr} {c d n k : Nat} {w0 w : World} (H1 : Hid (SlcIs IneqAt 2 w0 w0.heap.size A c list)) (H2 : Hid (SlcIs IntAt 1 w0 w0.heap.size B d times)) (HX : Hid (Below w0.heap.size w0 w)) (HN : Hid (list.length = n ∧ times.length = k)) (HF : Hid (fewQ list = true)) {L : List Int} {x : Int} {nl : Nat} (HR : Hid (sumR list times vars = some (L, x))) (HL : Hid (L.length = nl)) :
    Calls Try.prog 11 #[.slice A n c, .slice B k d, .int .i64 vars] w fun e w' => ∃ A c, e = .returned (.tuple #[.agg #[.slice A nl c, .int .i64 x], .int .i64 0]) ∧ Below w.heap.size w w' ∧ SlcIs IntAt 1 w' w'.heap.size A c L := by
  obtain ⟨rfl, rfl⟩ := HN.out
  obtain rfl := HL.out
  exact (lsum_any list times vars A B c d w (lslcUp IneqAt.keeps H1.out HX.out) (lslcUp IntAt.keeps H2.out HX.out) (by have := (fewQ_yes HF.out).1; omega) (fun q hq => by have := (fewQ_yes HF.out).2 q hq; omega)).mono fun e w' ⟨A1, c1, k1, he, hb, hs, hk, _⟩ => ⟨A1, c1, by rw [HR.out] at hk he; subst hk; exact he, hb, by rw [HR.out] at hs; exact hs⟩
/-- The same, and its numbers lie in new memory. -/
theorem lsum_new {list : List Inq} {times : List Int} {vars : Int} {A B : Option Addr} {c d n k : Nat} {w0 w : World} (H1 : Hid (SlcIs IneqAt 2 w0 w0.heap.size A c list)) (H2 : Hid (SlcIs IntAt 1 w0 w0.heap.size B d times)) (HX : Hid (Below w0.heap.size w0 w)) (HN : Hid (list.length = n ∧ times.length = k)) (HF : Hid (fewQ list = true)) {L : List Int} {x : Int} {nl : Nat} (HR : Hid (sumR list times vars = some (L, x))) (HL : Hid (L.length = nl)) :
    Calls Try.prog 11 #[.slice A n c, .slice B k d, .int .i64 vars] w fun e w' => ∃ A c, e = .returned (.tuple #[.agg #[.slice A nl c, .int .i64 x], .int .i64 0]) ∧ Below w.heap.size w w' ∧ SlcIs IntAt 1 w' w'.heap.size A c L ∧ ∀ ad, A = some ad → w.heap.size ≤ ad.block := by
  obtain ⟨rfl, rfl⟩ := HN.out
  obtain rfl := HL.out
  exact (lsum_any list times vars A B c d w (lslcUp IneqAt.keeps H1.out HX.out) (lslcUp IntAt.keeps H2.out HX.out) (by have := (fewQ_yes HF.out).1; omega) (fun q hq => by have := (fewQ_yes HF.out).2 q hq; omega)).mono fun e w' ⟨A1, c1, k1, he, hb, hs, hk, hn⟩ => ⟨A1, c1, by rw [HR.out] at hk he; subst hk; exact he, hb, by rw [HR.out] at hs; exact hs, hn⟩
theorem rsum_no {list : List Inq} {times : List Int} {vars : Int} {A B : Option Addr} {c d n k : Nat} {w0 w : World} (H1 : Hid (SlcIs IneqAt 2 w0 w0.heap.size A c list)) (H2 : Hid (SlcIs IntAt 1 w0 w0.heap.size B d times)) (HX : Hid (Below w0.heap.size w0 w)) (HN : Hid (list.length = n ∧ times.length = k)) (HF : Hid (fewQ list = true)) (HR : Hid (sumR list times vars = none)) :
    Calls Try.prog 12 #[.slice A n c, .slice B k d, .int .i64 vars] w fun e w' => ∃ A c, e = .returned (.tuple #[.agg #[.slice A 0 c, .int .i64 0], .bool false]) ∧ Below w.heap.size w w' := by
  obtain ⟨rfl, rfl⟩ := HN.out
  exact (rsum_any list times vars A B c d w (lslcUp IneqAt.keeps H1.out HX.out) (lslcUp IntAt.keeps H2.out HX.out) (by have := (fewQ_yes HF.out).1; omega)).mono fun e w' ⟨A1, c1, he, hb, hs⟩ => ⟨A1, c1, by rw [HR.out] at he; exact he, hb⟩
theorem rsum_yes {list : List Inq} {times : List Int} {vars : Int} {A B : Option Addr} {c d n k : Nat} {w0 w : World} (H1 : Hid (SlcIs IneqAt 2 w0 w0.heap.size A c list)) (H2 : Hid (SlcIs IntAt 1 w0 w0.heap.size B d times)) (HX : Hid (Below w0.heap.size w0 w)) (HN : Hid (list.length = n ∧ times.length = k)) (HF : Hid (fewQ list = true)) {L : List Int} {x : Int} {nl : Nat} (HR : Hid (sumR list times vars = some (L, x))) (HL : Hid (L.length = nl)) :
    Calls Try.prog 12 #[.slice A n c, .slice B k d, .int .i64 vars] w fun e w' => ∃ A c, e = .returned (.tuple #[.agg #[.slice A nl c, .int .i64 x], .bool true]) ∧ Below w.heap.size w w' ∧ SlcIs IntAt 1 w' w'.heap.size A c L := by
  obtain ⟨rfl, rfl⟩ := HN.out
  obtain rfl := HL.out
  exact (rsum_any list times vars A B c d w (lslcUp IneqAt.keeps H1.out HX.out) (lslcUp IntAt.keeps H2.out HX.out) (by have := (fewQ_yes HF.out).1; omega)).mono fun e w' ⟨A1, c1, he, hb, hs⟩ => ⟨A1, c1, by rw [HR.out] at he; exact he, hb, by rw [HR.out] at hs; exact hs⟩
def provesOf (S : Option Inq) (q : Inq) : Bool := match S with
  | none => false
  | some p => impliesB p q
theorem proves_eq {list : List Inq} {times W : List Int} {m : Int} {nw : Nat} {S : Option Inq} (h : W.length = nw) (hS : sumR list times (nw : Int) = S) : provesB list times (W, m) = provesOf S (W, m) := by
  subst h
  rw [← hS]
  rfl
theorem lproves_is {list : List Inq} {times W : List Int} {m : Int} {A B C : Option Addr} {c d e n k nw : Nat} {w0 w : World} {r : Bool} (H1 : Hid (SlcIs IneqAt 2 w0 w0.heap.size A c list)) (H2 : Hid (SlcIs IntAt 1 w0 w0.heap.size B d times)) (HX : Hid (Below w0.heap.size w0 w)) (HN : Hid (list.length = n ∧ times.length = k)) (HF : Hid (fewQ list = true)) (HW : Hid (SlcIs IntAt 1 w0 w0.heap.size C e W ∧ W.length = nw)) (HR : Hid (provesB list times (W, m) = r)) (h3 : nw ≤ 1000) :
    Calls Try.prog 14 #[.slice A n c, .slice B k d, .agg #[.slice C nw e, .int .i64 m]] w fun e w' => e = .returned (.bool r) ∧ Below w.heap.size w w' := by
  obtain ⟨rfl, rfl⟩ := HN.out
  obtain ⟨hw, rfl⟩ := HW.out
  have H := lproves_any list times (W, m) A B C c d e w (lslcUp IneqAt.keeps H1.out HX.out) (lslcUp IntAt.keeps H2.out HX.out) (lslcUp IntAt.keeps hw HX.out) (by have := (fewQ_yes HF.out).1; omega) (fun q hq => by have := (fewQ_yes HF.out).2 q hq; omega) h3
  rw [HR.out] at H
  exact H
theorem rsame14_is {L M : List Int} {x y : Int} {A B : Option Addr} {c d n k : Nat} {w : World} {r : Bool} (H1 : Hid (SlcIs IntAt 1 w w.heap.size A c L)) (H2 : Hid (SlcIs IntAt 1 w w.heap.size B d M)) (HN : Hid (L.length = n ∧ M.length = k)) (HR : Hid (sameB (L, x) (M, y) = r)) :
    Calls Try.prog 13 #[.agg #[.slice A n c, .int .i64 x], .agg #[.slice B k d, .int .i64 y]] w fun e w' => e = .returned (.bool r) ∧ Below w.heap.size w w' := by
  obtain ⟨rfl, rfl⟩ := HN.out
  have H := rsame14_any L M x y A B c d w H1.out H2.out
  rw [HR.out] at H
  exact H
theorem same_self (q : Inq) : sameB q q = true := by unfold sameB; simp
end Go.Proofs.Ytncbmjpfbkngdaa
