/-
  What stands above a class, by the program's own words (above, wayUp): the nearest one, and all of them.
  slices.Backward of numbers, an iterator from the library: it calls the loop's body with each number and its place, the last one first.
  A region that draws its order, in a round of a range over a function: it may be walked as it is walked anywhere else, if it defers nothing. Plain lemmas; the conditions stand in each.
  The program's own class.Fields: it answers all fields of a class, those of the highest one above it first.
  The method in a slot of a class (Slot), and how many cells an object takes (Size), by the program and by the document.
-/
import Derived.Test.YtgpmdhdooglkfaaM04
import Derived.Test.YtgpmdhdooglkfaaM03
import Derived.RangeFuncNested
import Derived.RangeFuncBound
import Derived.RangeFuncCalls
import Derived.RangeFuncBox
import Derived.RangeFuncLeaves
import Derived.Shelf.Abstract
import Derived.Shelf.RegionOpen
import Derived.WalkKit
import Derived.OwnWalkIn
import Derived.TacticsInMore
import Derived.LoopNIn
import Derived.LoopIn
import Derived.OrdersHeld
import Derived.Deep.RegionHeld3
namespace Go.Proofs.Ytgpmdhdooglkfaa
set_option maxRecDepth 100000
set_option linter.unusedVariables false
set_option linter.unusedSimpArgs false
open Go.ChangeShapes Go.WideShapes Go.ChangeAt Go.RowKit

theorem sup_in {sup : List Int} {c s : Int} (h0 : 0 ≤ c) (hs : sup[c.toNat]? = some s) : (¬ s = c ∧ inB (aboveI sup c) s = true) ↔ (0 ≤ s ∧ s < c) := by
  have h1 : c < sup.length := by
    rcases Nat.lt_or_ge c.toNat sup.length with g | g
    · omega
    · rw [List.getElem?_eq_none g] at hs; cases hs
  rw [inB_iff]
  constructor
  · rintro ⟨hn, hm⟩
    have := above_range hm
    omega
  · rintro ⟨g0, g1⟩
    refine ⟨by omega, ?_⟩
    rw [aboveI_step h0 hs, if_pos g1]
    exact List.mem_cons_of_mem _ (above_self g0 (by omega))
theorem supI_eq {sup : List Int} {c s : Int} (hs : sup[c.toNat]? = some s) : supI sup c = if 0 ≤ s ∧ s < c then s else -1 := by
  unfold supI; rw [hs]

theorem cabove_any (sup : List Int) (c : Int) (h0 : 0 ≤ c) (h1 : c < sup.length) (A : Option Addr) (cap B : Nat) (w : World) (hl : sup.length ≤ 1048576) (hB : B ≤ w.heap.size) (h : Supers w B A sup) :
    Calls Try.prog 102 #[.slice A sup.length cap, .int .i64 c] w fun e w' => e = .returned (.int .i64 (supI sup c)) ∧ Below w.heap.size w w' := by
  obtain ⟨K, rfl⟩ := Int.eq_ofNat_of_zero_le h0
  have hlt : K < sup.length := by omega
  have hs0 := List.getElem?_eq_getElem hlt
  have HS := Lib.hid h
  obtain ⟨ad, rfl, hab, hc⟩ := h K _ hs0
  have E1 := Lib.hid (supI_eq (sup := sup) (c := (K : Int)) (s := sup[K]) (by rw [Int.toNat_natCast]; exact hs0))
  have E2 := Lib.hid (sup_in (sup := sup) (c := (K : Int)) (s := sup[K]) h0 (by rw [Int.toNat_natCast]; exact hs0))
  clear hs0 h
  generalize sup[K] = s at *
  by_cases g : s = (K : Int)
  · have E := Lib.hid (show supI sup (K : Int) = -1 by rw [E1.out, if_neg (by omega)])
    clear E1 E2
    subst g
    go_enter Try.func102, Try.ntmps102
    go_wp2_with fail
    go_ret
    rw [E.out]
    exact ⟨rfl, Below.refl _ _⟩
  · have hne : ((s : Int) != (K : Int)) = true := by simpa using g
    obtain ⟨r, hr⟩ : ∃ r, inB (aboveI sup (K : Int)) s = r := ⟨_, rfl⟩
    have R := Lib.hid hr
    have E := Lib.hid (show supI sup (K : Int) = if r = true then s else -1 by
      rw [E1.out, ← hr]
      by_cases q : 0 ≤ s ∧ s < (K : Int)
      · rw [if_pos q, if_pos (E2.out.mpr q).2]
      · rw [if_neg q, if_neg (fun x => q (E2.out.mp ⟨g, x⟩))])
    clear E1 E2 hr g
    cases r
    all_goals
      go_enter Try.func102, Try.ntmps102
      go_wp2_with (go_at_call 65; (with_reducible refine (kbelow_any sup (K : Int) s (some ad) cap B w hl hB HS.out).mono ?_); rintro e w' ⟨he, hb⟩; rw [R.out] at he; subst he)
      go_ret
      rw [E.out]
      exact ⟨by simp, hb⟩

theorem cabove_is {sup : List Int} {c : Int} {n : Nat} (HN : Hid (sup.length = n)) (h0 : 0 ≤ c) (h1 : c < sup.length) (A : Option Addr) (cap B : Nat) (w : World) (hl : sup.length ≤ 1048576) (hB : B ≤ w.heap.size) (h : Supers w B A sup) :
    Calls Try.prog 102 #[.slice A n cap, .int .i64 c] w fun e w' => e = .returned (.int .i64 (supI sup c)) ∧ Below w.heap.size w w' := by
  obtain rfl := HN.out
  exact cabove_any sup c h0 h1 A cap B w hl hB h

set_option maxHeartbeats 1600000 in
theorem wayup_any (cl : List Cls) (c : Int) (A : Option Addr) (cap : Nat) (w : World) (hn : cl.length ≤ 1048576) (h : SlcIs ClsAt 3 w w.heap.size A cap cl) :
    Calls Try.prog 97 #[.slice A cl.length cap, .int .i64 c] w (OwnInts (aboveI (supsOf cl) c) w) := by
  obtain ⟨i0, hi, hz0, hz1, hz2⟩ := info_parts info_int
  have HC := Lib.hid h
  have HS := Lib.hid (supers_of h.row)
  clear h
  by_cases hk : 0 ≤ c ∧ c < cl.length
  · obtain ⟨k0, k1⟩ := hk
    obtain ⟨K, rfl⟩ := Int.eq_ofNat_of_zero_le k0
    have k1' : K < cl.length := by omega
    have hlen : (supsOf cl).length = cl.length := supsOf_len cl
    obtain ⟨sup, hsup⟩ : ∃ sup, supsOf cl = sup := ⟨_, rfl⟩
    rw [hsup] at hlen HS ⊢
    have HLN := Lib.hid hlen
    have hsl : sup.length ≤ 1048576 := by omega
    have hkl : (K : Int) < sup.length := by omega
    clear hsup
    go_enter Try.func97, Try.ntmps97
    clear hlen
    go_wp2_with (go_at_call 101; (with_reducible refine (isclass_yes cl K k1' A cap w HC.out).mono ?_); rintro e w1 ⟨rfl, hb⟩; have HB1 := Lib.hid hb; clear hb)
    go_loopw [1, 5] (fun a v wr => ∃ (C : Int) (pre : List Int), a = .int .i64 C ∧ -1 ≤ C ∧ C < sup.length ∧ Hid (pre ++ aboveI sup C = aboveI sup (K : Int)) ∧ pre.length + C + 1 ≤ sup.length ∧
        Hid (wr.ownsRow w.heap.size 3 1 v pre.length (pre.map (Value.int .i64))) ∧ Hid (Below w.heap.size w wr)) (fun a _ _ => (intOf a + 1).toNat)
    case atStart => exact ⟨K, [], rfl, by omega, hkl, Lib.hid rfl, by simp; omega, Lib.hid (World.ownsRow_nil _ _ _ _), HB1⟩
    case round =>
      obtain ⟨C, pre, rfl, c0, c1, HP, hp, HO, HX⟩ := hrel
      by_cases hC : C = -1
      · subst hC
        go_wp2_with fail
        go_ret
        refine ⟨_, rfl, ?_, HX.out⟩
        have e : pre = aboveI sup (K : Int) := by rw [← HP.out, aboveI_bad (.inl (by omega))]; simp
        rw [← e]
        exact HO.out
      · have hC0 : 0 ≤ C := by omega
        have hCn : (C != -1) = true := by simpa using hC
        have HST := Lib.hid (above_sup hC0 c1)
        have HBD := Lib.hid (supI_bounds sup C)
        have hsz := HX.out.size
        go_wp2_with (at_builtin; refine wpList_append_own _ rfl _ _ 26 rfl w.heap.size 3 i0 (.int .i64 0) 1 8 Try.underlying26 hi hz0 hz1 hz2 rfl (by decide) _ _ _ rfl (HO.out.alloc _) ⟨_, 0, none⟩ 1 1 [.int .i64 C] rfl rfl ?c1 ?c2 ?c3 ?c4 ?c5 ?_)
        case c1 =>
          intro j u hj
          match j, hj with
          | 0, hj => simp at hj; subst hj; simp [Addr.add]
        case c2 => intro u hu; simp at hu; subst hu; rfl
        case c3 => unfold maxLen; omega
        case c4 => omega
        case c5 => simp; omega
        intro v' w2 hown' hgrow _
        have hR := own_snoc64 HO.out hsz HX.out hown' hgrow
        have HO2 := Lib.hid hR.1
        have HX2 := Lib.hid hR.2
        clear hown' hgrow hR
        go_wp2_with (go_at_call 102; (with_reducible refine (cabove_is HLN hC0 c1 A cap w.heap.size _ hsl HX2.out.size (HS.out.below_to HX2.out (Nat.le_refl _))).mono ?_); rintro e w3 ⟨rfl, hb⟩; have HB3 := Lib.hid hb; clear hb)
        go_roundw
        case rel =>
          have hbd := HBD.out
          have := hbd.2 hC0
          exact ⟨supI sup C, pre ++ [C], rfl, hbd.1, by omega, Lib.hid (by rw [← HP.out, HST.out]; simp), by simp; omega, Lib.hid (own_below HO2.out HB3.out (own_block_lt HO2.out)), Lib.hid (HX2.out.trans (HB3.out.mono HX2.out.size))⟩
        case measure => have := HBD.out.2 hC0; have := HBD.out.1; simp [intOf]; omega
  · have hk' : c < 0 ∨ (cl.length : Int) ≤ c := by omega
    have E := Lib.hid (show aboveI (supsOf cl) c = [] from aboveI_bad (by rw [supsOf_len]; exact hk'))
    clear hk
    rw [E.out]
    go_enter Try.func97, Try.ntmps97
    go_wp2_with (go_at_call 101; (with_reducible refine (isclass_no cl c hk' A cap w HC.out).mono ?_); rintro e w1 ⟨rfl, hb⟩; have HB1 := Lib.hid hb; clear hb)
    go_ret
    exact ⟨_, rfl, World.ownsRow_nil _ _ _ _, HB1.out⟩
end Go.Proofs.Ytgpmdhdooglkfaa
namespace Go.Proofs.Ytgpmdhdooglkfaa
set_option maxRecDepth 100000
set_option linter.unusedVariables false
set_option linter.unusedSimpArgs false
open Go.ChangeShapes Go.WideShapes Go.ChangeAt Go.RowKit Go.Shelf

attribute [local go_sem] Oper.semAt_some

/-- The places of a list, the last one first. -/
def downs (U : List Int) : List (Fin U.length) := (List.finRange U.length).reverse
theorem downs_len (U : List Int) : (downs U).length = U.length := by simp [downs]
theorem downs_take (U : List Int) (k : Nat) (h : k < U.length) : (downs U).take (k + 1) = (downs U).take k ++ [⟨U.length - 1 - k, by omega⟩] := by
  have hk : k < (downs U).length := by rw [downs_len]; exact h
  rw [List.take_add_one, List.getElem?_eq_getElem hk]
  simp [downs, List.getElem_reverse]
theorem downs_all (U : List Int) : (downs U).take U.length = downs U := List.take_of_length_le (by rw [downs_len]; omega)
theorem downs_map (U : List Int) : (downs U).map (fun x => U[x]) = U.reverse := by
  unfold downs
  rw [List.map_reverse]
  congr 1
  apply List.ext_getElem
  · simp
  · intro i h1 h2
    simp
def encU (U : List Int) (x : Fin U.length) : Array Value := #[.int .i64 (x.1 : Int), .int .i64 U[x]]

/-- The cells of the blocks from one to another stand as they stood. -/
def Kept (lo N : Nat) (A B : World) : Prop := ∀ q : Addr, lo ≤ q.block → q.block < N → B.cell? q = A.cell? q
/-- Numbers that stand in such blocks. -/
def LiesIn (w : World) (lo N : Nat) (A : Option Addr) (xs : List Value) : Prop := ∀ j u, xs[j]? = some u → ∃ ad, A = some ad ∧ lo ≤ ad.block ∧ ad.block < N ∧ w.cell? (ad.add j) = some u
theorem LiesIn.keep {w w' : World} {lo N : Nat} {A : Option Addr} {xs : List Value} (h : LiesIn w lo N A xs) (hk : Kept lo N w w') : LiesIn w' lo N A xs := fun j u hu => by
  obtain ⟨ad, e, h0, h1, hc⟩ := h j u hu
  exact ⟨ad, e, h0, h1, (hk (ad.add j) (by rw [addr_add_block]; exact h0) (by rw [addr_add_block]; exact h1)).trans hc⟩

set_option maxHeartbeats 2000000 in
theorem back1_in (F : Fence) (n : Nat) (hF : F.fn 100) (hro : F.round = none) (hn : 1 ≤ n) (l Bs lo N : Nat) (A : Option Addr) (cap : Nat) (U : List Int) (hU : U.length ≤ 1048576) {Kp : World → World → Prop} (hKp : ∀ A B, Kp A B → Kept lo N A B) (J Jx : List (Fin U.length) → World → Prop)
    (hY : ∀ pre x W, J pre W → pre.length < U.length → YieldAt F (n - 1) Try.prog l (encU U x) W fun e W' =>
      (e = .returned (.bool true) ∧ J (pre ++ [x]) W' ∧ Kp W W') ∨ (e = .returned (.bool false) ∧ Jx (pre ++ [x]) W'))
    (W : World) (hBs : W.cell? ⟨Bs, 0, none⟩ = some (.slice A U.length cap)) (hBl : lo ≤ Bs) (hBn : Bs < N) (hc : LiesIn W lo N A (U.map (Value.int .i64))) (h0 : J [] W) :
    CallsIn F n Try.prog 100 #[.func (.yield l) #[] #[], .pointer (some ⟨Bs, 0, none⟩)] W fun e W' => (∃ v, e = .returned v) ∧
      ((∃ ys, ys = downs U ∧ J ys W') ∨ (∃ pre, (∃ k, k ≤ U.length ∧ pre = (downs U).take k) ∧ Jx pre W')) := by
  have HC := Lib.hid hc
  have HQ : Hid (∀ wr, Kept lo N W wr → wr.cell? ⟨Bs, 0, none⟩ = some (.slice A U.length cap)) := Lib.hid (fun wr hw => (hw ⟨Bs, 0, none⟩ hBl hBn).trans hBs)
  clear hc
  refine callsIn_of_wp Try.func100 rfl hF ?_ hro
  simp only [Try.ntmps100, List.size_toArray, List.length_cons, List.length_nil, Nat.reduceAdd, Nat.reduceSub, Array.replicate_succ, Array.replicate_zero, List.push_toArray, List.append_toArray, List.nil_append, List.cons_append]
  gi_wp2
  clear hBs
  gi_loopw [3] (fun i wr => ∃ (k : Nat) (z : Int), k ≤ U.length ∧ i = .int .i64 z ∧ z = (U.length : Int) - k - 1 ∧ J ((downs U).take k) wr ∧ Hid (Kept lo N W wr))
    (fun i _ => (intOf i + 1).toNat)
  case atStart => exact ⟨0, _, Nat.zero_le _, rfl, by omega, h0, Lib.hid (fun _ _ _ => rfl)⟩
  case round =>
    obtain ⟨k, z, hk, rfl, hz, hJs, hnx⟩ := hrel
    by_cases hlt : k < U.length
    · have hBs := HQ.out wr hnx.out
      have hjl : U.length - 1 - k < U.length := by omega
      obtain ⟨ad, rfl, hab0, hab, hcx⟩ := (HC.out.keep hnx.out) (U.length - 1 - k) _ (List.getElem?_eq_getElem (by simpa using hjl))
      obtain ⟨fn, tmps, assign, body, hy, hR⟩ := hY _ ⟨U.length - 1 - k, hjl⟩ wr hJs (by rw [List.length_take, downs_len]; omega)
      have HS := Lib.hid (downs_take U k hlt)
      unfold encU at hy
      rw [List.getElem_map] at hcx
      dsimp only [Fin.getElem_fin] at hy
      generalize U[U.length - 1 - k] = u at hcx hy
      obtain ⟨j, hj⟩ : ∃ j, U.length - 1 - k = j := ⟨_, rfl⟩
      simp only [hj] at hcx hy hR HS
      have hjl : j < U.length := by omega
      obtain rfl : z = (j : Int) := by omega
      clear hz
      gi_wp2
      refine hR.mono ?_
      rintro e W3 (⟨rfl, hJ3, hk3⟩ | ⟨rfl, hJx3⟩)
      · gi_wp2
        go_roundw
        case rel => exact ⟨k + 1, (j : Int) - 1, by omega, by go_num, by omega, by rw [HS.out]; exact hJ3, Lib.hid (fun q q0 q1 => (hKp _ _ hk3 q q0 q1).trans (hnx.out q q0 q1))⟩
        case measure => simp [intOf]
      · gi_wp2
        refine bodyPost_ret (results_none rfl _ _ _) rfl ?_
        exact ⟨⟨_, rfl⟩, .inr ⟨_, ⟨k + 1, by omega, HS.out.symm⟩, hJx3⟩⟩
    · obtain rfl : k = U.length := by omega
      obtain rfl : z = -1 := by omega
      clear hz
      gi_wp2
      go_end0
      exact ⟨⟨_, rfl⟩, .inl ⟨_, downs_all U, hJs⟩⟩

theorem back_in (F : Fence) (n : Nat) (hF : F.fn 96) (hro : F.round = none) (A : Option Addr) (len cap : Nat) (w : World) :
    CallsIn F n Try.prog 96 #[.slice A len cap] w fun e w' => e = .returned (.func (.func 100) #[] #[.pointer (some ⟨w.heap.size, 0, none⟩)]) ∧ w' = w.alloc (.cells #[.slice A len cap] 26) := by
  refine callsIn_of_wp Try.func96 rfl hF ?_ hro
  simp only [Try.ntmps96, List.size_toArray, List.length_cons, List.length_nil, Nat.reduceAdd, Nat.reduceSub, Array.replicate_succ, Array.replicate_zero, List.push_toArray, List.append_toArray, List.nil_append, List.cons_append]
  gi_wp2
  go_ret
  exact ⟨rfl, rfl⟩

theorem back_stops (F : Fence) (n : Nat) (hF : F.fn 100) (hro : F.round = none) (hn : 1 ≤ n) (Bs lo N : Nat) (A : Option Addr) (cap : Nat) (U : List Int) (hU : U.length ≤ 1048576) {Kp : World → World → Prop} (hKp : ∀ A B, Kp A B → Kept lo N A B) (w : World) (hBl : lo ≤ Bs) (hBs : Bs < N) (hn₀ : N ≤ w.heap.size)
    (hc : w.cell? ⟨Bs, 0, none⟩ = some (.slice A U.length cap)) (hI : LiesIn w lo N A (U.map (Value.int .i64))) :
    SeqStopsK F n Try.prog 100 #[.pointer (some ⟨Bs, 0, none⟩)] (encU U) Kp (fun ys => ys = downs U)
      (fun pre => ∃ k, k ≤ U.length ∧ pre = (downs U).take k) U.length w := fun l J Jx W hW _ _ hY h0 =>
  back1_in F n hF hro hn l Bs lo N A cap U hU hKp J Jx hY W ((hW.cell (p := ⟨Bs, 0, none⟩) (Nat.lt_of_lt_of_le hBs hn₀)).trans hc) hBl hBs (hI.keep fun q _ q1 => hW.cell (Nat.lt_of_lt_of_le q1 hn₀)) h0
end Go.Proofs.Ytgpmdhdooglkfaa
namespace Go.Proofs.Ytgpmdhdooglkfaa
set_option maxRecDepth 100000
set_option linter.unusedVariables false
set_option linter.unusedSimpArgs false

/-- The post at a normal end alone. -/
def Calmly (Q : Exit → Act → World → Prop) : Exit → Act → World → Prop
  | .normal, a, w => Q .normal a w
  | _, _, _ => False
theorem Calmly.normal {Q : Exit → Act → World → Prop} {a : Act} {w : World} (h : Q .normal a w) : Calmly Q .normal a w := h
theorem oper_round {l n : Nat} {P : Program} {o : Oper} {a : Act} {w : World} {K K' : Act → World → Prop} {Q : Exit → Act → World → Prop} (hnd : ∀ c, o.op ≠ .defer c) (hk : ∀ a w, K a w → K' a w)
    (h : o.wp P a w K (Calmly Q)) : o.wpIn (Fence.wide.inRound l) n P a w K' Q := by
  unfold Oper.wp at h
  unfold Oper.wpIn
  refine ⟨fun _ _ => trivial, ?_⟩
  rw [Oper.semAt_eq _ _ _ hnd]
  generalize (execOp a.eval o).run P w = r at h
  cases r with
  | ok x w' =>
    cases x <;> simp only [Oper.upon, Oper.uponIn] at h ⊢
    case value v => exact hk _ _ h
    case skip => exact hk _ _ h
    case defer d => exact hk _ _ h
    case enter f args =>
      refine ⟨fun h0 => (by cases h0), CallsIn.inRound l (callsIn_wide.2 (h.mono fun e w'' he => ?_))⟩
      cases e with
      | returned v => exact hk _ _ he
      | panicked chain => exact (he : False).elim
      | outgrown => obtain ⟨_, _, hf⟩ := he; exact (hf : False).elim
    case row row args =>
      refine ⟨fun h0 => (by cases h0), fun c cs _ => ?_⟩
      obtain ⟨v, w2, hv, hs⟩ := h c cs
      exact ⟨v, w2, hk _ _ hv, stepsIn_wide.2 hs⟩
  | halt x w' =>
    cases x <;> simp only [Oper.upon, Oper.uponIn] at h ⊢
    all_goals exact (h : False).elim
theorem ops_round {l n : Nat} {P : Program} {ops : Array Oper} {Q : Exit → Act → World → Prop} (hnd : ∀ (i : Nat) o, ops[i]? = some o → ∀ c, o.op ≠ .defer c) : ∀ (is : List Nat) (a : Act) (w : World), wpOps P ops (Calmly Q) is a w → wpOpsIn (Fence.wide.inRound l) n P ops Q is a w
  | [], a, w, h => h
  | i :: rest, a, w, h => by
    simp only [wpOps] at h
    simp only [wpOpsIn]
    cases ho : ops[i]? with
    | none => simp only [ho] at h ⊢; exact ops_round hnd rest a w h
    | some o =>
      simp only [ho] at h ⊢
      by_cases hw : Region.wanted o (yielded ops a.tmps) = true
      · rw [if_pos hw] at h ⊢
        rcases h with h | ⟨_, _, _, h⟩
        · exact oper_round (hnd i o ho) (fun a w => ops_round hnd rest a w) h
        · exact (h : False).elim
      · rw [if_neg hw] at h ⊢
        exact ⟨fun _ _ => trivial, ops_round hnd rest _ _ h⟩
theorem wpIn_round_held {l n : Nat} {P : Program} {id : Nat} {ops : Array Oper} {Q : Exit → Act → World → Prop} {S : World → Prop} {a : Act} {w : World} (hm : P.follows .mixedOrders = true) (hnd : ops.all (fun o => match o.op with | .defer _ => false | _ => true) = true) (hS : S w.drew)
    (h : S w.drew → wpAnyH P .any ops (Calmly Q) S ops.size (Array.replicate ops.size false) a w.drew) : (Code.region id ops true).wpIn (Fence.wide.inRound l) n P Q a w :=
  wpIn_region_draw fun t => ops_round (fun i o ho c hc => by
    have hx := (Array.all_eq_true.mp hnd) i (by rcases Nat.lt_or_ge i ops.size with g | g; exact g; rw [Array.getElem?_eq_none g] at ho; cases ho)
    rw [Array.getElem?_eq_some_iff] at ho
    obtain ⟨_, ho⟩ := ho
    rw [ho, hc] at hx
    cases hx) _ _ _ (by
      simp only [Region.schedule, hm, Bool.true_or, if_true]
      exact wpAny_sound ops.size t _ a _ (wpAny_of_held _ _ _ _ (h hS)))
end Go.Proofs.Ytgpmdhdooglkfaa
namespace Go.Proofs.Ytgpmdhdooglkfaa
set_option maxRecDepth 100000
set_option linter.unusedVariables false
set_option linter.unusedSimpArgs false
open Go.ChangeShapes Go.WideShapes Go.ChangeAt Go.RowKit Go.Shelf

attribute [local go_sem] Oper.semAt_some

theorem own_liesin {w : World} {base e n c : Nat} {A : Option Addr} {xs : List Value} (h : w.ownsRow base e 1 (.slice A n c) n xs) : LiesIn w base w.heap.size A xs := fun j u hu => by
  obtain ⟨ad, e, hb, hc⟩ := Lies.of_own h j u hu
  refine ⟨ad, e, ?_, hb, hc⟩
  rcases h.2 with ⟨h0, _⟩ | ⟨g, cap, cur, hv, hg, _⟩
  · injection h0 with h0; rw [h0] at e; cases e
  · injection hv with hv; rw [hv] at e; injection e with e; rw [← e]; exact hg

theorem wayup_is {cl : List Cls} {c : Int} {U : List Int} {A : Option Addr} {cap : Nat} {w : World} (hn : cl.length ≤ 1048576) (HU : Hid (aboveI (supsOf cl) c = U)) (h : SlcIs ClsAt 3 w w.heap.size A cap cl) :
    Calls Try.prog 97 #[.slice A cl.length cap, .int .i64 c] w (OwnInts U w) := by
  have H := wayup_any cl c A cap w hn h
  rw [HU.out] at H
  exact H
/-- All blocks below one stand as they stood, but for one. -/
def KeptBut (N g : Nat) (A B : World) : Prop := A.heap.size ≤ B.heap.size ∧ ∀ b, b < N → b ≠ g → B.heap[b]? = A.heap[b]?
theorem KeptBut.refl (N g : Nat) (A : World) : KeptBut N g A A := ⟨Nat.le_refl _, fun _ _ _ => rfl⟩
theorem KeptBut.trans {N g : Nat} {A B C : World} (h : KeptBut N g A B) (h' : KeptBut N g B C) : KeptBut N g A C := ⟨Nat.le_trans h.1 h'.1, fun b b0 b1 => (h'.2 b b0 b1).trans (h.2 b b0 b1)⟩
theorem KeptBut.cell {N g : Nat} {A B : World} (h : KeptBut N g A B) {p : Addr} (h0 : p.block < N) (h1 : p.block ≠ g) : B.cell? p = A.cell? p := by
  unfold World.cell?
  rw [h.2 _ h0 h1]
theorem KeptBut.kept {N g : Nat} {A B : World} (h : KeptBut N g A B) : Kept (g + 1) N A B := fun q q0 q1 => h.cell q1 (by omega)
theorem KeptBut.putObj {N g : Nat} {A : World} {l : Nat} {o : Obj} (hl : N ≤ l) : KeptBut N g A (A.putObj l o) :=
  ⟨by simp, fun b b0 _ => World.putObj_heap_other (by omega)⟩
theorem KeptBut.grown {N g : Nat} {A B C : World} {row : Option Nat} (h : KeptBut N g A B) (hg : B.grownBy C row) (hN : N ≤ B.heap.size) (hr : ∀ r, row = some r → N ≤ r ∨ r = g) : KeptBut N g A C :=
  ⟨Nat.le_trans h.1 hg.size, fun b b0 b1 => (hg.block b (by omega) (fun e => by rcases hr b e.symm with x | x <;> omega)).trans (h.2 b b0 b1)⟩
theorem KeptBut.box {N g : Nat} {A B : World} (h : KeptBut N g A B) {k : Nat} {hd : Hnd} {m : Img} (H : ImgBox A k hd m) (h0 : k < N) (h1 : k ≠ g) : ImgBox B k hd m := by
  obtain ⟨q0, q1, q2, q3, q4, q5, q6⟩ := H
  have c : ∀ i, B.cell? ⟨k, i, none⟩ = A.cell? ⟨k, i, none⟩ := fun i => h.cell (p := ⟨k, i, none⟩) h0 h1
  exact ⟨(c 0).trans q0, (c 1).trans q1, (c 2).trans q2, (c 3).trans q3, (c 4).trans q4, (c 5).trans q5, (c 6).trans q6⟩
theorem ownFrom_kept {β : Type} {B N g : Nat} {A : World} (hN : N ≤ B) (hA : N ≤ A.heap.size) : OwnFrom B (fun (_ : β) W => KeptBut N g A W) := fun s X Y row hs hg hr =>
  hs.grown hg (Nat.le_trans hA hs.1) (fun r e => .inl (Nat.le_trans hN (hr r e).1))
/-- The fields of the classes at these places of a list. -/
def fieldsUp (cl : List Cls) (U : List Int) (pre : List (Fin U.length)) : List (Int × Int) := (pre.map (fun x => U[x])).flatMap (fieldsAt cl)
theorem fieldsUp_snoc (cl : List Cls) (U : List Int) (pre : List (Fin U.length)) (x : Fin U.length) : fieldsUp cl U (pre ++ [x]) = fieldsUp cl U pre ++ fieldsAt cl U[x] := by simp [fieldsUp]
theorem fieldsUp_all (cl : List Cls) (U : List Int) : fieldsUp cl U (downs U) = U.reverse.flatMap (fieldsAt cl) := by unfold fieldsUp; rw [downs_map]

theorem own_far {w : World} {B e size n : Nat} {v : Value} {xs : List Value} (h : w.ownsRow B e size v n xs) : ∀ r, v.ownBlock = some r → B ≤ r := fun r hr => by
  rcases h.2 with ⟨rfl, _⟩ | ⟨g, cap, cur, rfl, hg, _⟩
  · simp [Value.ownBlock] at hr
  · have : g = r := by simpa [Value.ownBlock] using hr
    omega
theorem kept_store {N g : Nat} {A B : World} (h : KeptBut N g A B) (v : Value) : KeptBut N g A (B.setCell ⟨g, 0, none⟩ v) :=
  ⟨by have := (KeepsWalks.setCell B ⟨g, 0, none⟩ v).size; exact Nat.le_trans h.1 this, fun b b0 b1 => (Below.heap_setCell _ _ _ b b1).trans (h.2 b b0 b1)⟩
theorem own_cells {w : World} {B e size n : Nat} {v : Value} {xs : List Value} (h : w.ownsRow B e size v n xs) : ∀ j o, v.ownBlock = some j → w.heap[j]? = some o → o.isCells = true := fun j o hj ho => by
  rcases h.2 with ⟨rfl, _⟩ | ⟨g, cap, cur, rfl, hg, hh, _⟩
  · simp [Value.ownBlock] at hj
  · obtain rfl : g = j := by simpa [Value.ownBlock] using hj
    rw [hh] at ho; cases ho; rfl
theorem own_slc {w : World} {B e size n : Nat} {v : Value} {xs : List Value} (h : w.ownsRow B e size v n xs) : ∃ A c, v = .slice A n c := by
  rcases ownK_slice h with ⟨rfl, rfl⟩ | ⟨g, c, rfl, _⟩
  · exact ⟨_, _, rfl⟩
  · exact ⟨_, _, rfl⟩

set_option maxHeartbeats 3200000 in
theorem cfields_any (m : Img) (c : Int) (h : Hnd) (w : World) (H : ImgIn w w.heap.size h m) (hn : m.classes.length ≤ 1000) (hf : ∀ x ∈ m.classes, x.fields.length ≤ 1000) :
    Calls Try.prog 93 #[imgV h m, .int .i64 c] w (OwnTypes (fieldsOf m.classes c) w) := by
  obtain ⟨i0, hi, hz0, hz1, hz2⟩ := info_partsK info_type
  have HW := Lib.hid (((Below.refl w.heap.size w).alloc (Nat.le_refl _) (imgO h m)).alloc (by simp) (.cells #[.slice none 0 0] 23))
  have HSZ := Lib.hid (show ((w.alloc (imgO h m)).alloc (.cells #[.slice none 0 0] 23)).heap.size = w.heap.size + 1 + 1 by simp)
  have HIM := Lib.hid (H.now HW.out)
  have HBX := Lib.hid ((img_box w h m).keep ((Below.refl _ (w.alloc (imgO h m))).alloc (Nat.le_refl _) (.cells #[.slice none 0 0] 23)) (by simp))
  have HAL := Lib.hid (show Go.Boxed ((w.alloc (imgO h m)).alloc (.cells #[.slice none 0 0] 23)) (w.heap.size + 1) 23 (.slice none 0 0) from by
    have := Go.Boxed.new (w.alloc (imgO h m)) 23 (.slice none 0 0)
    rw [World.size_alloc] at this
    exact this)
  have HI0 := Lib.hid H
  have HI0 := Lib.hid H
  have HI0 := Lib.hid H
  have HF := Lib.hid hf
  have HFO := Lib.hid (show fieldsOf m.classes c = (aboveI (supsOf m.classes) c).reverse.flatMap (fieldsAt m.classes) from rfl)
  have hsl : (supsOf m.classes).length = m.classes.length := supsOf_len _
  obtain ⟨U, hU⟩ : ∃ U, aboveI (supsOf m.classes) c = U := ⟨_, rfl⟩
  have hUl : U.length ≤ 1000 := by rw [← hU]; have := aboveI_len (supsOf m.classes) c; omega
  have HUm : Hid (∀ i ∈ U, 0 ≤ i ∧ i < m.classes.length) := Lib.hid (by rw [← hU]; intro i hi; have := aboveI_lt hi; omega)
  have HU := Lib.hid hU
  rw [hU] at HFO
  clear hsl hU H hf
  refine (callsIn_wide (n := 4)).1 ?_
  refine callsIn_of_wp_marks Try.func93 rfl trivial ?_ rfl
  simp only [Try.ntmps93, List.size_toArray, List.length_cons, List.length_nil, Nat.reduceAdd, Nat.reduceSub, Array.replicate_succ, Array.replicate_zero, List.push_toArray, List.append_toArray, List.nil_append, List.cons_append]
  gi_wp2_with (first
    | (refine ⟨trivial, ?_⟩; gi_at_call 97; refine (callsIn_wide.2 (wayup_is (by omega) HU HIM.out.classes)).mono ?_; rintro e w3 ⟨v3, rfl, ho, hb⟩; obtain ⟨A3, c3, rfl, hl3, g1, g2⟩ := own_ints ho; have HB3 := Lib.hid hb; have HO3 := Lib.hid (own_liesin ho); clear hb ho hl3)
    | (refine ⟨trivial, ?_⟩; gi_at_call 96; refine (back_in Fence.wide _ trivial rfl _ _ _ _).mono ?_; rintro e w' ⟨rfl, rfl⟩))
  generalize (w.alloc (imgO h m)).alloc (.cells #[.slice none 0 0] 23) = w2 at *
  obtain ⟨N, hN⟩ : ∃ N, N = w3.heap.size := ⟨_, rfl⟩
  have hs3 := HB3.out.size
  have hs2 := HSZ.out
  rw [← hN] at HO3 hs3
  rw [hs2] at HO3
  have hbB : Below w2.heap.size w2 (w3.alloc (.cells #[.slice A3 U.length c3] 26)) := HB3.out.trans ((Below.refl _ w3).alloc (by omega) _)
  have HBB := Lib.hid hbB
  have hbox := HBX.out.keep hbB (by omega)
  have hall := (hbB.block (w.heap.size + 1) (by omega)).trans HAL.out
  have hcl := HIM.out.now hbB
  refine wpIn_rangeFunc_ownG rfl (by omega) (gf := 100) (lb := #[.pointer (some ⟨w3.heap.size, 0, none⟩)]) rfl trivial (enters_of Try.func100 (by kernel_rfl) rfl)
    (back_stops Fence.wide 3 trivial rfl (by omega) w3.heap.size (w.heap.size + 1 + 1) (N + 1) A3 c3 U (by omega) (Kp := KeptBut (N + 1) (w.heap.size + 1)) (fun _ _ hk => hk.kept) (w3.alloc (.cells #[.slice A3 U.length c3] 26)) (by omega) (by omega) (by simp; omega)
      (by rw [World.cell?_alloc_at _ _ _ _ rfl]; rfl) (fun j u hu => by
        obtain ⟨ad, e, a0, a1, hc⟩ := HO3.out j u hu
        exact ⟨ad, e, a0, by omega, (World.cell?_alloc_lt w3 _ _ (by rw [addr_add_block]; omega)).trans hc⟩))
    (fun a b => a.trans b) (fun W l o o' hl _ _ _ => KeptBut.putObj (by simp at hl; omega)) (Below.refl _ _) (fun _ => rfl)
    (fun pre W => (∃ v, Go.Boxed W (w.heap.size + 1) 23 v ∧ W.ownsRow (N + 1) 39 2 v (fieldsUp m.classes U pre).length (tysV (fieldsUp m.classes U pre)) ∧ True) ∧ KeptBut (N + 1) (w.heap.size + 1) (w3.alloc (.cells #[.slice A3 U.length c3] 26)) W ∧ Below w.heap.size w W)
    (fun _ _ _ => False)
    (OwnFrom.and (Own.from (holdsRow_own (N + 1) (w.heap.size + 1) 23 39 2 (fun pre => (fieldsUp m.classes U pre).length) (fun pre => tysV (fieldsUp m.classes U pre)) (fun _ _ => True)) _) (OwnFrom.and (ownFrom_kept (by simp; omega) (by simp; omega)) (ownFrom_below (Nat.le_refl _) (by simp; omega))))
    (fun _ _ _ _ _ hs _ _ => hs)
    ⟨⟨_, hall, World.ownsRow_nil _ _ _ _, trivial⟩, KeptBut.refl _ _ _, HW.out.trans (hbB.mono (by omega))⟩
    (fun x => { tmps := #[imgV h m, .int .i64 c, .pointer (some ⟨w.heap.size, 0, none⟩), undef, .slice none 0 0, .pointer (some ⟨w.heap.size + 1, 0, none⟩), undef, .int .i64 U[x],
      .pointer (some ⟨w.heap.size, 0, none⟩), .slice h.A0 m.classes.length h.c0, .int .i64 c, .slice A3 U.length c3, .func (.func 100) #[] #[.pointer (some ⟨w3.heap.size, 0, none⟩)],
      .int .i64 (x.1 : Int), .int .i64 U[x], undef, undef, undef, undef, undef, undef, undef, undef, undef], defers := [] }) ?assign ?body ?done ?stop
  case assign =>
    intro l x W K hK
    unfold encU
    gi_wp2
    exact hK
  case body =>
    rintro l pre x W ⟨⟨v, hv, hrow, -⟩, hkb, hB⟩ hlt
    have HSN := Lib.hid (fieldsUp_snoc m.classes U pre x)
    have hsum := fields_sum HF.out (pre.map (fun x => U[x]))
    rw [List.length_map] at hsum
    obtain ⟨u0, u1⟩ := HUm.out U[x] (List.getElem_mem x.2)
    generalize U[x] = u at *
    obtain ⟨j, rfl⟩ := Int.eq_ofNat_of_zero_le u0
    have hjl : j < m.classes.length := by omega
    have hfx := HF.out _ (List.getElem_mem hjl)
    have HFA := Lib.hid (fieldsAt_get hjl)
    obtain ⟨ad, e0, hab, hcx⟩ := (HI0.out.below_to hB (Nat.le_refl _)).classes.row.at_ hjl
    generalize m.classes[j] = y at *
    obtain ⟨s0, ⟨A1, k1, s1, hs1⟩, _⟩ := hcx
    have hmx : Try.prog.follows .mixedOrders = true := by kernel_rfl
    obtain ⟨q0, q1, q2, q3, q4, q5, q6⟩ := hkb.box hbox (by omega) (by omega)
    clear q1 q2 q3 q4 q5 q6 s0
    rw [e0] at q0
    obtain ⟨L, hL⟩ : ∃ L, fieldsUp m.classes U pre = L := ⟨_, rfl⟩
    rw [hL] at hrow HSN
    have hLl : L.length ≤ 1000000 := by rw [← hL]; unfold fieldsUp; omega
    have HO := Lib.hid hrow
    obtain ⟨Av, cv, rfl, _, _⟩ := own_types hrow
    clear hrow hL hsum
    have hc := hv.cell
    have hfr := hv.frozen
    have HV := Lib.hid hv
    have HKB := Lib.hid hkb
    have HB := Lib.hid hB
    have HS1 : Hid (∀ W', Below w.heap.size W W' → W'.cell? (off_ (ad.add (j * 3)) 1) = some (.slice A1 y.fields.length k1)) := Lib.hid (fun W' hW => (hW.cell (p := off_ (ad.add (j * 3)) 1) (by show (ad.add _).block < _; rw [addr_add_block]; exact hab)).trans s1)
    have HTL := Lib.hid (tys_lie hs1.row)
    have hs2' := hs1.le
    have hs3' := hs1.cap
    have hNW : N + 1 ≤ W.heap.size := by have := hkb.1; simp at this; omega
    clear hv hkb hB hs1
    gi_wp2
    have HTLd : Hid (Lies W.drew w.heap.size A1 (tysV y.fields)) := HTL
    have HOd : Hid (W.drew.ownsRow (N + 1) 39 2 (.slice Av L.length cv) L.length (tysV L)) := HO
    have HVd : Hid (Go.Boxed W.drew (w.heap.size + 1) 23 (.slice Av L.length cv)) := HV
    have HKd : Hid (KeptBut (N + 1) (w.heap.size + 1) W W.drew) := Lib.hid ⟨Nat.le_refl _, fun _ _ _ => rfl⟩
    have HBd : Hid (Below w.heap.size W W.drew) := Lib.hid (Below.refl w.heap.size W).drew
    refine wpIn_round_held hmx (by kernel_rfl) (S := fun w' => w'.cell? ⟨w.heap.size, 0, none⟩ = some (.slice (some ad) m.classes.length h.c0) ∧ w'.cell? (off_ (ad.add (j * 3)) 1) = some (.slice A1 y.fields.length k1)) ⟨q0, s1⟩ (fun hHeld => ?_)
    refine wpAnyH_take (i := 1) (oi := _) (v := ?_) rfl (by kernel_rfl) (by kernel_rfl) (by kernel_rfl) (fun _ _ _ h => h) (Or.inl ⟨by rfl, ?_⟩) (by assumption) ?_
    rotate_left
    · (intro w hSw; (try dsimp only at hSw); go_simp <;> with_reducible rfl)
    try simp only [List.getElem_toArray, List.getElem_cons_succ, List.getElem_cons_zero, Act.put, List.setIfInBounds_toArray, List.set_cons_zero, List.set_cons_succ]
    refine wpAnyH_take (i := 3) (oi := _) (v := ?_) rfl (by kernel_rfl) (by kernel_rfl) (by kernel_rfl) (fun _ _ _ h => h) (Or.inl ⟨by rfl, ?_⟩) (by assumption) ?_
    rotate_left
    · (intro w hSw; (try dsimp only at hSw); go_simp <;> with_reducible rfl)
    try simp only [List.getElem_toArray, List.getElem_cons_succ, List.getElem_cons_zero, Act.put, List.setIfInBounds_toArray, List.set_cons_zero, List.set_cons_succ]
    refine wpAnyH_take (i := 2) (oi := _) (v := ?_) rfl (by kernel_rfl) (by kernel_rfl) (by kernel_rfl) (fun _ _ _ h => h) (Or.inl ⟨by rfl, ?_⟩) (by assumption) ?_
    rotate_left
    · (intro w hSw; (try dsimp only at hSw); go_simp <;> with_reducible rfl)
    try simp only [List.getElem_toArray, List.getElem_cons_succ, List.getElem_cons_zero, Act.put, List.setIfInBounds_toArray, List.set_cons_zero, List.set_cons_succ]
    refine wpAnyH_take (i := 4) (oi := _) (v := ?_) rfl (by kernel_rfl) (by kernel_rfl) (by kernel_rfl) (fun _ _ _ h => h) (Or.inl ⟨by rfl, ?_⟩) (by assumption) ?_
    rotate_left
    · (intro w hSw; (try dsimp only at hSw); go_simp <;> with_reducible rfl)
    try simp only [List.getElem_toArray, List.getElem_cons_succ, List.getElem_cons_zero, Act.put, List.setIfInBounds_toArray, List.set_cons_zero, List.set_cons_succ]
    refine wpAnyH_take (i := 5) (oi := _) (v := ?_) rfl (by kernel_rfl) (by kernel_rfl) (by kernel_rfl) (fun _ _ _ h => h) (Or.inl ⟨by rfl, ?_⟩) (by assumption) ?_
    rotate_left
    · (intro w hSw; (try dsimp only at hSw); go_simp <;> with_reducible rfl)
    try simp only [List.getElem_toArray, List.getElem_cons_succ, List.getElem_cons_zero, Act.put, List.setIfInBounds_toArray, List.set_cons_zero, List.set_cons_succ]
    refine wpAnyH_take (i := 6) (oi := _) (v := ?_) rfl (by kernel_rfl) (by kernel_rfl) (by kernel_rfl) (fun _ _ _ h => h) (Or.inl ⟨by rfl, ?_⟩) (by assumption) ?_
    rotate_left
    · (intro w hSw; (try dsimp only at hSw); go_simp <;> with_reducible rfl)
    try simp only [List.getElem_toArray, List.getElem_cons_succ, List.getElem_cons_zero, Act.put, List.setIfInBounds_toArray, List.set_cons_zero, List.set_cons_succ]
    refine wpAnyH_ready (rs := [0]) (by kernel_rfl) (by simp) ?_
    refine AllReadyH.cons (o := _) rfl (fun K hK => ?_) AllReadyH.nil
    go_simp
    refine hK.out _ _ ⟨q0, s1⟩ (fun hHeld => ?_)
    clear hK K
    try simp only [List.getElem_toArray, List.getElem_cons_succ, List.getElem_cons_zero, Act.put, List.setIfInBounds_toArray, List.set_cons_zero, List.set_cons_succ]
    refine wpAnyH_ready (rs := [7]) (by kernel_rfl) (by simp) ?_
    refine AllReadyH.cons (o := _) rfl (fun K hK => ?_) AllReadyH.nil
    (refine step_appK rfl _ _ 23 rfl (N + 1) 39 i0 (.agg #[.int .i64 0, .int .i64 0]) 2 16 Try.underlying23 hi hz0 hz1 hz2 rfl (by decide) _ L.length (tysV L) rfl HOd.out A1 y.fields.length k1 _ (tysV y.fields) (tysV_len _) rfl HTLd.out (tysV_one _) (by unfold maxLen; omega) (by omega) hNW ?_; intro v6 w6 hown hgrow; have hrw := own_far HOd.out; have hV6 := HVd.out.kept hgrow (HVd.out.not_row (by decide) HOd.out); have HK6 := Lib.hid (HKd.out.grown hgrow hNW (fun r e => .inl (hrw r e))); have HB6 := Lib.hid (HBd.out.grown hgrow (by show w.heap.size ≤ W.heap.size; omega) (fun r e => by have := hrw r e; omega)); obtain ⟨A6, c6, rfl⟩ := own_slc hown; have HO6 := Lib.hid hown; have HV6 := Lib.hid hV6; have HN6 := Lib.hid (KeepsOthers.of_grownBy hgrow (own_cells HOd.out)); clear hown hgrow hV6 hrw; have hc6 := HV6.out.cell; have hf6 := HV6.out.frozen; have HK8 := Lib.hid (kept_store HK6.out (.slice A6 (L.length + y.fields.length) c6)); have HB8 := Lib.hid (HB6.out.setCell (p := ⟨w.heap.size + 1, 0, none⟩) (by show w.heap.size ≤ w.heap.size + 1; omega) (.slice A6 (L.length + y.fields.length) c6)))
    refine hK.out _ _ ⟨(HK6.out.cell (p := ⟨w.heap.size, 0, none⟩) (by show w.heap.size < N + 1; omega) (by show w.heap.size ≠ w.heap.size + 1; omega)).trans q0, HS1.out _ HB6.out⟩ (fun hHeld => ?_)
    clear hK K
    try simp only [List.getElem_toArray, List.getElem_cons_succ, List.getElem_cons_zero, Act.put, List.setIfInBounds_toArray, List.set_cons_zero, List.set_cons_succ]
    refine wpAnyH_ready (rs := [8]) (by kernel_rfl) (by simp) ?_
    refine AllReadyH.cons (o := _) rfl (fun K hK => ?_) AllReadyH.nil
    go_simp
    refine hK.out _ _ ⟨(HK8.out.cell (p := ⟨w.heap.size, 0, none⟩) (by show w.heap.size < N + 1; omega) (by show w.heap.size ≠ w.heap.size + 1; omega)).trans q0, HS1.out _ HB8.out⟩ (fun hHeld => ?_)
    clear hK K
    try simp only [List.getElem_toArray, List.getElem_cons_succ, List.getElem_cons_zero, Act.put, List.setIfInBounds_toArray, List.set_cons_zero, List.set_cons_succ]
    refine wpAnyH_done (by kernel_rfl) ?_ _
    refine Calmly.normal ?_
    gi_wp2
    have hrow9 := HO6.out.kept (grownBy_setCell' w6 (w.heap.size + 1) (.slice A6 (L.length + y.fields.length) c6)) (.inr (HV6.out.not_row (by decide) HO6.out).symm)
    refine ⟨(((KeepsOthers.drew W).trans HN6.out).trans (KeepsOthers.setCell _ _ _)).from _, HK8.out, ⟨_, HV6.out.set _, ?_, trivial⟩, HKB.out.trans HK8.out, HB.out.trans HB8.out⟩
    rw [HSN.out, HFA.out]
    unfold tysV at hrow9 ⊢
    rw [List.flatMap_append, List.length_append]
    exact hrow9
  case done =>
    rintro D ys W hD rfl ⟨⟨v, hv, hrow, -⟩, hkb, hB⟩ hK
    have hc := hv.cell
    gi_wp2
    refine ⟨by simp, .inl ⟨_, _, rfl, run_takeDeferred hK, ?_⟩⟩
    rw [fieldsUp_all, ← HFO.out] at hrow
    exact ⟨_, results_tmp rfl _ _ _, v, rfl, own_lower (ownsRow_putObj hrow _ hK rfl) (by omega), hB.trans (belowK_b (w := w) (Nat.le_refl _) W D _ _ (by simp at hD; omega) hK rfl rfl)⟩
  case stop =>
    rintro D c pre W _ _ h _
    exact h.elim
end Go.Proofs.Ytgpmdhdooglkfaa
namespace Go.Proofs.Ytgpmdhdooglkfaa
set_option maxRecDepth 100000
set_option linter.unusedVariables false
set_option linter.unusedSimpArgs false
open Go.ChangeShapes Go.WideShapes Go.ChangeAt Go.RowKit

theorem cslot_any (m : Img) (c n : Int) (h : Hnd) (w : World) (H : ImgIn w w.heap.size h m) :
    Calls Try.prog 94 #[imgV h m, .int .i64 c, .int .i64 n] w (SlotOut (slotOf m.classes c n) w) := by
  have HW := Lib.hid ((Below.refl w.heap.size w).alloc (Nat.le_refl _) (imgO h m))
  have HIM := Lib.hid (H.now HW.out)
  have HBX := Lib.hid (img_box w h m)
  have hle := H.classes.le
  have hcap := H.classes.cap
  have hn63 : m.classes.length ≤ 9223372036854775807 := by omega
  clear H hle hcap
  by_cases hc : 0 ≤ c ∧ c < m.classes.length
  · obtain ⟨c0, c1⟩ := hc
    obtain ⟨i, rfl⟩ := Int.eq_ofNat_of_zero_le c0
    have hi : i < m.classes.length := by omega
    obtain ⟨ad, e0, hab, s0, ⟨A1, k1, s1, hs1⟩, ⟨A2, k2, s2, hs2⟩, _⟩ := HIM.out.classes.row.at_ hi
    have HE := Lib.hid e0
    clear e0
    have l1 := hs2.le
    have l2 := hs2.cap
    have hs63 : m.classes[i].slots.length ≤ 9223372036854775807 := by omega
    have HSL := Lib.hid hs2
    clear hs1 hs2
    by_cases hnn : 0 ≤ n ∧ n < m.classes[i].slots.length
    · obtain ⟨n0, n1⟩ := hnn
      obtain ⟨j, rfl⟩ := Int.eq_ofNat_of_zero_le n0
      have hj : j < m.classes[i].slots.length := by omega
      rw [slotOf_yes hi hj]
      obtain ⟨ad2, rfl, hab2, z0⟩ := HSL.out.row.at_ hj
      clear HSL
      rw [Nat.mul_one] at z0
      generalize m.classes[i].slots[j] = f at *
      generalize m.classes[i] = x at *
      go_enter Try.func94, Try.ntmps94
      go_upto_region 1 with fail
      generalize w.alloc (imgO h m) = w1 at *
      obtain ⟨q0, q1, q2, q3, q4, q5, q6⟩ := HBX.out
      rw [HE.out] at q0
      have HZ : Hid (∀ W, Below w1.heap.size w1 W → W.cell? (ad2.add j) = some (.int .i64 f)) := Lib.hid (fun W hW => (hW.cell (p := ad2.add j) (by rw [addr_add_block]; exact hab2)).trans z0)
      go_upto_region 2 with (go_at_call 98; (with_reducible refine (atcls_yes i m.classes.length h.c0 ad _ _ _ _ _ _ _ w1 hi hn63 hab s0 s1 s2).mono ?_); rintro e w2 ⟨rfl, hb⟩; have HB2 := Lib.hid hb; clear hb)
      have z2 := HZ.out _ (HB2.out.alloc HB2.out.size (.cells #[.int .i64 x.sup, .slice A1 x.fields.length k1, .slice (some ad2) x.slots.length k2] 88))
      go_wp2_with (go_at_call 99; (with_reducible refine (atint_yes j x.slots.length k2 ad2 f _ hj hs63 z2).mono ?_); rintro e w3 ⟨rfl, rfl⟩)
      go_ret2
      exact ⟨rfl, HW.out.trans ((HB2.out.alloc HB2.out.size _).mono HW.out.size)⟩
    · rw [slotOf_slot hi (by omega)]
      have hno : n < 0 ∨ (m.classes[i].slots.length : Int) ≤ n := by omega
      clear hnn HSL
      generalize m.classes[i] = x at *
      go_enter Try.func94, Try.ntmps94
      go_upto_region 1 with fail
      generalize w.alloc (imgO h m) = w1 at *
      obtain ⟨q0, q1, q2, q3, q4, q5, q6⟩ := HBX.out
      rw [HE.out] at q0
      go_upto_region 2 with (go_at_call 98; (with_reducible refine (atcls_yes i m.classes.length h.c0 ad _ _ _ _ _ _ _ w1 hi hn63 hab s0 s1 s2).mono ?_); rintro e w2 ⟨rfl, hb⟩; have HB2 := Lib.hid hb; clear hb)
      go_wp2_with (go_at_call 99; (with_reducible refine (atint_no n x.slots.length k2 A2 _ hs63 hno).mono ?_); rintro e w3 ⟨rfl, hb⟩; have HB3 := Lib.hid hb; clear hb)
      go_ret2
      exact ⟨rfl, HW.out.trans (((HB2.out.alloc HB2.out.size _).trans (HB3.out.mono (HB2.out.alloc HB2.out.size _).size)).mono HW.out.size)⟩
  · have hno : c < 0 ∨ (m.classes.length : Int) ≤ c := by omega
    rw [slotOf_class hno]
    have hz : n < 0 ∨ ((0 : Nat) : Int) ≤ n := by omega
    clear hc
    go_enter Try.func94, Try.ntmps94
    go_upto_region 1 with fail
    generalize w.alloc (imgO h m) = w1 at *
    obtain ⟨q0, q1, q2, q3, q4, q5, q6⟩ := HBX.out
    go_upto_region 2 with (go_at_call 98; (with_reducible refine (atcls_no c m.classes.length h.c0 h.A0 w1 hn63 hno).mono ?_); rintro e w2 ⟨rfl, hb⟩; have HB2 := Lib.hid hb; clear hb)
    go_wp2_with (go_at_call 99; (with_reducible refine (atint_no n 0 0 none _ (by omega) hz).mono ?_); rintro e w3 ⟨rfl, hb⟩; have HB3 := Lib.hid hb; clear hb)
    go_ret2
    exact ⟨rfl, HW.out.trans (((HB2.out.alloc HB2.out.size _).trans (HB3.out.mono (HB2.out.alloc HB2.out.size _).size)).mono HW.out.size)⟩
theorem cslot_is {m : Img} {h : Hnd} {w0 w : World} {c n : Int} {o : Option Int} (HI : Hid (ImgIn w0 w0.heap.size h m)) (HX : Hid (Below w0.heap.size w0 w)) (HO : Hid (slotOf m.classes c n = o)) :
    Calls Try.prog 94 #[imgV h m, .int .i64 c, .int .i64 n] w (SlotOut o w) := by
  have H := cslot_any m c n h w (HI.out.now HX.out)
  rw [HO.out] at H
  exact H
end Go.Proofs.Ytgpmdhdooglkfaa
