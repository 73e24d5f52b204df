/-
  slices.Backward of numbers, an iterator from the library: it calls the loop's body with each number and its place, the last one first.
-/
import Derived.Test.YtcehkmnneimdeaaClassUp
import Derived.RangeFuncNested
import Derived.RangeFuncBound
import Derived.RangeFuncCalls
import Derived.RangeFuncBox
import Derived.RangeFuncLeaves
import Derived.Shelf.Abstract
import Derived.Shelf.RegionOpen
import Derived.WalkKit
import Derived.OwnWalkIn
import Derived.TacticsInMore
import Derived.LoopNIn
import Derived.LoopIn
namespace Go.Proofs.Ytcehkmnneimdeaa
set_option maxRecDepth 100000
set_option linter.unusedVariables false
set_option linter.unusedSimpArgs false
open Go.ChangeShapes Go.WideShapes Go.ChangeAt Go.RowKit Go.Shelf

attribute [local go_sem] Oper.semAt_some

/-- The places of a list, the last one first. -/
def downs (U : List Int) : List (Fin U.length) := (List.finRange U.length).reverse
theorem downs_len (U : List Int) : (downs U).length = U.length := by simp [downs]
theorem downs_take (U : List Int) (k : Nat) (h : k < U.length) : (downs U).take (k + 1) = (downs U).take k ++ [⟨U.length - 1 - k, by omega⟩] := by
  have hk : k < (downs U).length := by rw [downs_len]; exact h
  rw [List.take_add_one, List.getElem?_eq_getElem hk]
  simp [downs, List.getElem_reverse]
theorem downs_all (U : List Int) : (downs U).take U.length = downs U := List.take_of_length_le (by rw [downs_len]; omega)
theorem downs_map (U : List Int) : (downs U).map (fun x => U[x]) = U.reverse := by
  unfold downs
  rw [List.map_reverse]
  congr 1
  apply List.ext_getElem
  · simp
  · intro i h1 h2
    simp
def encU (U : List Int) (x : Fin U.length) : Array Value := #[.int .i64 (x.1 : Int), .int .i64 U[x]]

/-- The cells of the blocks from one to another stand as they stood. -/
def Kept (lo N : Nat) (A B : World) : Prop := ∀ q : Addr, lo ≤ q.block → q.block < N → B.cell? q = A.cell? q
/-- Numbers that stand in such blocks. -/
def LiesIn (w : World) (lo N : Nat) (A : Option Addr) (xs : List Value) : Prop := ∀ j u, xs[j]? = some u → ∃ ad, A = some ad ∧ lo ≤ ad.block ∧ ad.block < N ∧ w.cell? (ad.add j) = some u
theorem LiesIn.keep {w w' : World} {lo N : Nat} {A : Option Addr} {xs : List Value} (h : LiesIn w lo N A xs) (hk : Kept lo N w w') : LiesIn w' lo N A xs := fun j u hu => by
  obtain ⟨ad, e, h0, h1, hc⟩ := h j u hu
  exact ⟨ad, e, h0, h1, (hk (ad.add j) (by rw [addr_add_block]; exact h0) (by rw [addr_add_block]; exact h1)).trans hc⟩

set_option maxHeartbeats 2000000 in
theorem back1_in (F : Fence) (n : Nat) (hF : F.fn 31) (hro : F.round = none) (hn : 1 ≤ n) (l Bs lo N : Nat) (A : Option Addr) (cap : Nat) (U : List Int) (hU : U.length ≤ 1048576) {Kp : World → World → Prop} (hKp : ∀ A B, Kp A B → Kept lo N A B) (J Jx : List (Fin U.length) → World → Prop)
    (hY : ∀ pre x W, J pre W → pre.length < U.length → YieldAt F (n - 1) Try.prog l (encU U x) W fun e W' =>
      (e = .returned (.bool true) ∧ J (pre ++ [x]) W' ∧ Kp W W') ∨ (e = .returned (.bool false) ∧ Jx (pre ++ [x]) W'))
    (W : World) (hBs : W.cell? ⟨Bs, 0, none⟩ = some (.slice A U.length cap)) (hBl : lo ≤ Bs) (hBn : Bs < N) (hc : LiesIn W lo N A (U.map (Value.int .i64))) (h0 : J [] W) :
    CallsIn F n Try.prog 31 #[.func (.yield l) #[] #[], .pointer (some ⟨Bs, 0, none⟩)] W fun e W' => (∃ v, e = .returned v) ∧
      ((∃ ys, ys = downs U ∧ J ys W') ∨ (∃ pre, (∃ k, k ≤ U.length ∧ pre = (downs U).take k) ∧ Jx pre W')) := by
  have HC := Lib.hid hc
  have HQ : Hid (∀ wr, Kept lo N W wr → wr.cell? ⟨Bs, 0, none⟩ = some (.slice A U.length cap)) := Lib.hid (fun wr hw => (hw ⟨Bs, 0, none⟩ hBl hBn).trans hBs)
  clear hc
  refine callsIn_of_wp Try.func31 rfl hF ?_ hro
  simp only [Try.ntmps31, List.size_toArray, List.length_cons, List.length_nil, Nat.reduceAdd, Nat.reduceSub, Array.replicate_succ, Array.replicate_zero, List.push_toArray, List.append_toArray, List.nil_append, List.cons_append]
  gi_wp2
  clear hBs
  gi_loopw [3] (fun i wr => ∃ (k : Nat) (z : Int), k ≤ U.length ∧ i = .int .i64 z ∧ z = (U.length : Int) - k - 1 ∧ J ((downs U).take k) wr ∧ Hid (Kept lo N W wr))
    (fun i _ => (intOf i + 1).toNat)
  case atStart => exact ⟨0, _, Nat.zero_le _, rfl, by omega, h0, Lib.hid (fun _ _ _ => rfl)⟩
  case round =>
    obtain ⟨k, z, hk, rfl, hz, hJs, hnx⟩ := hrel
    by_cases hlt : k < U.length
    · have hBs := HQ.out wr hnx.out
      have hjl : U.length - 1 - k < U.length := by omega
      obtain ⟨ad, rfl, hab0, hab, hcx⟩ := (HC.out.keep hnx.out) (U.length - 1 - k) _ (List.getElem?_eq_getElem (by simpa using hjl))
      obtain ⟨fn, tmps, assign, body, hy, hR⟩ := hY _ ⟨U.length - 1 - k, hjl⟩ wr hJs (by rw [List.length_take, downs_len]; omega)
      have HS := Lib.hid (downs_take U k hlt)
      unfold encU at hy
      rw [List.getElem_map] at hcx
      dsimp only [Fin.getElem_fin] at hy
      generalize U[U.length - 1 - k] = u at hcx hy
      obtain ⟨j, hj⟩ : ∃ j, U.length - 1 - k = j := ⟨_, rfl⟩
      simp only [hj] at hcx hy hR HS
      have hjl : j < U.length := by omega
      obtain rfl : z = (j : Int) := by omega
      clear hz
      gi_wp2
      refine hR.mono ?_
      rintro e W3 (⟨rfl, hJ3, hk3⟩ | ⟨rfl, hJx3⟩)
      · gi_wp2
        go_roundw
        case rel => exact ⟨k + 1, (j : Int) - 1, by omega, by go_num, by omega, by rw [HS.out]; exact hJ3, Lib.hid (fun q q0 q1 => (hKp _ _ hk3 q q0 q1).trans (hnx.out q q0 q1))⟩
        case measure => simp [intOf]
      · gi_wp2
        refine bodyPost_ret (results_none rfl _ _ _) rfl ?_
        exact ⟨⟨_, rfl⟩, .inr ⟨_, ⟨k + 1, by omega, HS.out.symm⟩, hJx3⟩⟩
    · obtain rfl : k = U.length := by omega
      obtain rfl : z = -1 := by omega
      clear hz
      gi_wp2
      go_end0
      exact ⟨⟨_, rfl⟩, .inl ⟨_, downs_all U, hJs⟩⟩

theorem back_in (F : Fence) (n : Nat) (hF : F.fn 25) (hro : F.round = none) (A : Option Addr) (len cap : Nat) (w : World) :
    CallsIn F n Try.prog 25 #[.slice A len cap] w fun e w' => e = .returned (.func (.func 31) #[] #[.pointer (some ⟨w.heap.size, 0, none⟩)]) ∧ w' = w.alloc (.cells #[.slice A len cap] 26) := by
  refine callsIn_of_wp Try.func25 rfl hF ?_ hro
  simp only [Try.ntmps25, List.size_toArray, List.length_cons, List.length_nil, Nat.reduceAdd, Nat.reduceSub, Array.replicate_succ, Array.replicate_zero, List.push_toArray, List.append_toArray, List.nil_append, List.cons_append]
  gi_wp2
  go_ret
  exact ⟨rfl, rfl⟩

theorem back_stops (F : Fence) (n : Nat) (hF : F.fn 31) (hro : F.round = none) (hn : 1 ≤ n) (Bs lo N : Nat) (A : Option Addr) (cap : Nat) (U : List Int) (hU : U.length ≤ 1048576) {Kp : World → World → Prop} (hKp : ∀ A B, Kp A B → Kept lo N A B) (w : World) (hBl : lo ≤ Bs) (hBs : Bs < N) (hn₀ : N ≤ w.heap.size)
    (hc : w.cell? ⟨Bs, 0, none⟩ = some (.slice A U.length cap)) (hI : LiesIn w lo N A (U.map (Value.int .i64))) :
    SeqStopsK F n Try.prog 31 #[.pointer (some ⟨Bs, 0, none⟩)] (encU U) Kp (fun ys => ys = downs U)
      (fun pre => ∃ k, k ≤ U.length ∧ pre = (downs U).take k) U.length w := fun l J Jx W hW _ _ hY h0 =>
  back1_in F n hF hro hn l Bs lo N A cap U hU hKp J Jx hY W ((hW.cell (p := ⟨Bs, 0, none⟩) (Nat.lt_of_lt_of_le hBs hn₀)).trans hc) hBl hBs (hI.keep fun q _ q1 => hW.cell (Nat.lt_of_lt_of_le q1 hn₀)) h0
end Go.Proofs.Ytcehkmnneimdeaa
