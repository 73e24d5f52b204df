/-
  The contracts on types, as a walk carries them: from a first world on, in which the classes lie, over whatever has left that one's blocks alone.
-/
import Derived.Test.YtkfhpbedllcecaaKind
namespace Go.Proofs.Ytkfhpbedllcecaa
open Go.ChangeShapes Go.WideShapes Go.ChangeAt Go.RowKit
set_option linter.unusedVariables false

/-- The call leaves the first world's blocks alone, as what went before it did. -/
theorem calls_ctx {P : Program} {f : FuncId} {args : Array Value} {w0 w : World} {r : Ending} (hb : Below w0.heap.size w0 w) (h : Calls P f args w fun e w' => e = r ∧ Below w.heap.size w w') :
    Calls P f args w fun e w' => e = r ∧ Below w0.heap.size w0 w' := h.mono fun _ _ ⟨he, hw⟩ => ⟨he, hb.trans (hw.mono hb.size)⟩

section
variable {sup : List Int} {k n k' n' a b c : Int} {A : Option Addr} {cap B : Nat} {w0 w : World}

theorem kgood_ctx (HC : Hid (Below w0.heap.size w0 w)) : Calls Try.prog 10 #[tyV k n, .int .i64 c] w fun e w' => e = .returned (.bool (goodB k n c)) ∧ Below w0.heap.size w0 w' :=
  calls_ctx HC.out (kgood_any k n c w)
theorem kisref_ctx (HC : Hid (Below w0.heap.size w0 w)) : Calls Try.prog 12 #[tyV k n] w fun e w' => e = .returned (.bool (isRefB k)) ∧ Below w0.heap.size w0 w' :=
  calls_ctx HC.out (kisref_any k n w)
theorem kbelow_ctx (HS : Hid (Supers w0 B A sup)) (HB : Hid (B ≤ w0.heap.size)) (HL : Hid (sup.length ≤ 1048576)) (HC : Hid (Below w0.heap.size w0 w)) :
    Calls Try.prog 18 #[.slice A sup.length cap, .int .i64 a, .int .i64 b] w fun e w' => e = .returned (.bool (inB (aboveI sup a) b)) ∧ Below w0.heap.size w0 w' :=
  calls_ctx HC.out (kbelow_any sup a b A cap B w HL.out (Nat.le_trans HB.out HC.out.size) (HS.out.below_to HC.out HB.out))
theorem ksub_ctx (HS : Hid (Supers w0 B A sup)) (HB : Hid (B ≤ w0.heap.size)) (HL : Hid (sup.length ≤ 1048576)) (HC : Hid (Below w0.heap.size w0 w)) :
    Calls Try.prog 14 #[.slice A sup.length cap, tyV k n, tyV k' n'] w fun e w' => e = .returned (.bool (subB sup k n k' n')) ∧ Below w0.heap.size w0 w' :=
  calls_ctx HC.out (ksub_any sup k n k' n' A cap B w HL.out (Nat.le_trans HB.out HC.out.size) (HS.out.below_to HC.out HB.out))
theorem kjoin_ctx (HS : Hid (Supers w0 B A sup)) (HB : Hid (B ≤ w0.heap.size)) (HL : Hid (sup.length ≤ 1048576)) (HC : Hid (Below w0.heap.size w0 w)) :
    Calls Try.prog 16 #[.slice A sup.length cap, tyV k n, tyV k' n'] w fun e w' => e = .returned (tyV (joinR sup k n k' n').1 (joinR sup k n k' n').2) ∧ Below w0.heap.size w0 w' :=
  calls_ctx HC.out (kjoin_any sup k n k' n' A cap B w HL.out (Nat.le_trans HB.out HC.out.size) (HS.out.below_to HC.out HB.out))
theorem rgood_ctx (HC : Hid (Below w0.heap.size w0 w)) : Calls Try.prog 11 #[tyV k n, .int .i64 c] w fun e w' => e = .returned (.bool (goodB k n c)) ∧ Below w0.heap.size w0 w' :=
  calls_ctx HC.out (rgood_any k n c w)
theorem risref_ctx (HC : Hid (Below w0.heap.size w0 w)) : Calls Try.prog 13 #[tyV k n] w fun e w' => e = .returned (.bool (isRefB k)) ∧ Below w0.heap.size w0 w' :=
  calls_ctx HC.out (risref_any k n w)
theorem rsub_ctx (HS : Hid (Supers w0 B A sup)) (HB : Hid (B ≤ w0.heap.size)) (HL : Hid (sup.length ≤ 1048576)) (HC : Hid (Below w0.heap.size w0 w)) :
    Calls Try.prog 15 #[.slice A sup.length cap, tyV k n, tyV k' n'] w fun e w' => e = .returned (.bool (subB sup k n k' n')) ∧ Below w0.heap.size w0 w' :=
  calls_ctx HC.out (rsub_any sup k n k' n' A cap B w HL.out (Nat.le_trans HB.out HC.out.size) (HS.out.below_to HC.out HB.out))
theorem rjoin_ctx (HS : Hid (Supers w0 B A sup)) (HB : Hid (B ≤ w0.heap.size)) (HL : Hid (sup.length ≤ 1048576)) (HC : Hid (Below w0.heap.size w0 w)) :
    Calls Try.prog 17 #[.slice A sup.length cap, tyV k n, tyV k' n'] w fun e w' => e = .returned (tyV (joinR sup k n k' n').1 (joinR sup k n k' n').2) ∧ Below w0.heap.size w0 w' :=
  calls_ctx HC.out (rjoin_any sup k n k' n' A cap B w HL.out (Nat.le_trans HB.out HC.out.size) (HS.out.below_to HC.out HB.out))
/-- Numbers of the call's own, in a world that comes from the first one. -/
def CtxInts (w0 : World) (l : List Int) (e : Ending) (w' : World) : Prop :=
  ∃ A c, e = .returned (.slice A l.length c) ∧ Below w0.heap.size w0 w' ∧ Lies w' w'.heap.size A (l.map (Value.int .i64))
theorem rabove_ctx (HS : Hid (Supers w0 B A sup)) (HB : Hid (B ≤ w0.heap.size)) (HL : Hid (sup.length ≤ 1048576)) (HC : Hid (Below w0.heap.size w0 w)) :
    Calls Try.prog 20 #[.slice A sup.length cap, .int .i64 c] w (CtxInts w0 (aboveI sup c)) :=
  (rabove_any sup c A cap B w HL.out (Nat.le_trans HB.out HC.out.size) (HS.out.below_to HC.out HB.out)).mono fun _ _ ⟨v, he, ho, hb⟩ => by
    obtain ⟨A', c', rfl, hl⟩ := own_slice ho
    exact ⟨A', c', he, HC.out.trans (hb.mono HC.out.size), hl⟩
end

theorem supers_take {w : World} {B : Nat} {A : Option Addr} {sup : List Int} (h : Supers w B A sup) (k : Nat) : Supers w B A (sup.take k) := fun i s hs => by
  rw [List.getElem?_take] at hs
  split at hs
  · exact h i s hs
  · cases hs

/-- Not too many classes: the slice cut at 40. -/
theorem few_any (sup : List Int) (A : Option Addr) (cap : Nat) (w : World) (hc : sup.length ≤ cap) (hm : cap ≤ 9223372036854775807) :
    Calls Try.prog 8 #[.slice A sup.length cap] w fun e w' => e = .returned (.slice A (sup.take 40).length cap) ∧ w = w' := by
  have hL : (sup.take 40).length = min 40 sup.length := List.length_take
  have HL := Lib.hid hL
  clear hL
  generalize (sup.take 40).length = m at *
  by_cases h : 40 < sup.length
  · obtain rfl : m = 40 := by have := HL.out; omega
    go_enter Try.func8, Try.ntmps8
    go_wp2
    go_ret
    refine ⟨?_, rfl⟩
    rfl
  · obtain rfl : m = sup.length := by have := HL.out; omega
    go_enter Try.func8, Try.ntmps8
    go_wp2
    go_ret
    exact ⟨rfl, rfl⟩
end Go.Proofs.Ytkfhpbedllcecaa
