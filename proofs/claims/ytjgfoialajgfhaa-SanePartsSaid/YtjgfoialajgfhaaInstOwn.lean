/-
  What the program's own parts of inst come to: Args, cut (of a list of two just made), upTo, Good.
-/
import Derived.Test.YtjgfoialajgfhaaRefInstr
import Derived.Deep.QuietTactic
import Derived.BigQuiet
namespace Go.Proofs.Ytjgfoialajgfhaa
set_option maxRecDepth 100000
set_option linter.unusedVariables false
set_option linter.unusedSimpArgs false
open Go.ChangeShapes Go.WideShapes Go.ChangeAt Go.RowKit
set_option linter.unusedVariables false

set_option maxHeartbeats 1600000 in
theorem oargs_same (op : Int) (w : World) : Calls Try.prog 56 #[.int .i64 op] w fun e w' => e = .returned (.int .i64 (argsI op)) ∧ w = w' := by
  obtain ⟨n, hn⟩ : ∃ n, argsI op = n := ⟨_, rfl⟩
  have H := Lib.hid hn
  rw [hn]
  clear hn
  go_enter Try.func56, Try.ntmps56
  go_wp2
  all_goals
    go_ret
    refine ⟨ret_int ?_, rfl⟩
    rw [← H.out]
    clear H
    try simp only [beq_iff_eq, beq_eq_false_iff_ne, ne_eq] at *
    unfold argsI ones
    simp
    omega

/-- Two cells just made, as lists. -/
theorem two_lie {w w' : World} {x y : Value} {T : TypeId} (hb : Below (w.alloc (.cells #[x, y] T)).heap.size (w.alloc (.cells #[x, y] T)) w') :
    Lies w' w'.heap.size (some ⟨w.heap.size, 0, none⟩) [x, y] ∧ Lies w' w'.heap.size (some ⟨w.heap.size, 0, none⟩) [x] ∧ Lies w' w'.heap.size (some ⟨w.heap.size, 1, none⟩) [y] := by
  have hs : w.heap.size < (w.alloc (.cells #[x, y] T)).heap.size := by simp
  have hs' := hb.size
  have c0 : w'.cell? ⟨w.heap.size, 0, none⟩ = some x := (hb.cell hs).trans (by rw [World.cell?_alloc_at _ _ _ _ rfl]; rfl)
  have c1 : w'.cell? ⟨w.heap.size, 1, none⟩ = some y := (hb.cell hs).trans (by rw [World.cell?_alloc_at _ _ _ _ rfl]; rfl)
  refine ⟨?_, ?_, ?_⟩
  · intro j u hj
    refine ⟨_, rfl, (by show w.heap.size < _; omega), ?_⟩
    match j, hj with
    | 0, hj => simp at hj; subst hj; exact c0
    | 1, hj => simp at hj; subst hj; exact c1
  · intro j u hj
    refine ⟨_, rfl, (by show w.heap.size < _; omega), ?_⟩
    match j, hj with
    | 0, hj => simp at hj; subst hj; exact c0
  · intro j u hj
    refine ⟨_, rfl, (by show w.heap.size < _; omega), ?_⟩
    match j, hj with
    | 0, hj => simp at hj; subst hj; exact c1

/-- A list of two, cut behind n: nothing is made. -/
def CutOut (N n c : Nat) (w : World) (e : Ending) (w' : World) : Prop :=
  e = .returned (.tuple #[.slice (some ⟨N, 0, none⟩) n 2, .slice (some ⟨N, c, none⟩) (2 - n) (2 - n)]) ∧ Below w.heap.size w w'
theorem cut_two (op : Int) (N : Nat) (w : World) (h : argsI op = 2) : Calls Try.prog 57 #[.int .i64 op, .slice (some ⟨N, 0, none⟩) 2 2] w (CutOut N 2 0 w) := by
  have H := Lib.hid h
  clear h
  go_enter Try.func57, Try.ntmps57
  go_wp2_with (go_at_call 56; (with_reducible refine (oargs_same _ _).mono ?_); rintro e w1 ⟨rfl, rfl⟩; rw [H.out])
  go_quiet (skip)
  go_wp2
  go_ret2
  exact ⟨rfl, below_drewN' (Below.refl _ _) _⟩
theorem cut_one (op : Int) (N : Nat) (w : World) (h : argsI op = 1) : Calls Try.prog 57 #[.int .i64 op, .slice (some ⟨N, 0, none⟩) 2 2] w (CutOut N 1 1 w) := by
  have H := Lib.hid h
  clear h
  go_enter Try.func57, Try.ntmps57
  go_wp2_with (go_at_call 56; (with_reducible refine (oargs_same _ _).mono ?_); rintro e w1 ⟨rfl, rfl⟩; rw [H.out])
  go_quiet (skip)
  go_wp2
  go_ret2
  exact ⟨rfl, below_drewN' (Below.refl _ _) _⟩
theorem cut_none (op : Int) (N : Nat) (w : World) (h : argsI op ≤ 0) : Calls Try.prog 57 #[.int .i64 op, .slice (some ⟨N, 0, none⟩) 2 2] w (CutOut N 0 0 w) := by
  have hr := args_range op
  rcases (show argsI op = -1 ∨ argsI op = 0 by omega) with hn | hn
  all_goals
    have H := Lib.hid hn
    clear hn h hr
    go_enter Try.func57, Try.ntmps57
    go_wp2_with (go_at_call 56; (with_reducible refine (oargs_same _ _).mono ?_); rintro e w1 ⟨rfl, rfl⟩; rw [H.out])
    go_quiet (skip)
    go_wp2
    go_ret2
    exact ⟨rfl, below_drewN' (Below.refl _ _) _⟩

/-- Are all numbers from 0 to an end? -/
def upB (e : Int) (l : List Int) : Bool := decide (∀ x ∈ l, 0 ≤ x ∧ x ≤ e)
theorem upto_any (en : Int) (l : List Int) (n : Nat) (A : Option Addr) (cap B : Nat) (w : World) (hn : l.length = n) (hl : n ≤ 2) (h : Lies w B A (l.map (Value.int .i64))) :
    Calls Try.prog 58 #[.int .i64 en, .slice A n cap] w fun e w' => e = .returned (.bool (upB en l)) ∧ w = w' := by
  subst hn
  have HL := Lib.hid h
  clear h
  go_enter Try.func58, Try.ntmps58
  go_wp2
  go_loop [9] (fun i => ∃ k : Nat, k ≤ l.length ∧ i = .int .i64 k ∧ Hid (upB en l = upB en (l.drop k))) (fun i => l.length - (intOf i).toNat)
  case atStart => exact ⟨0, by omega, rfl, Lib.hid rfl⟩
  case round =>
    obtain ⟨k, hk, rfl, HN⟩ := hrel
    by_cases hlt : k < l.length
    · obtain ⟨ad, rfl, _, hc⟩ := HL.out.at_ (k := k) (by simpa using hlt)
      have E1 := Lib.hid (List.drop_eq_getElem_cons hlt)
      simp only [List.getElem_map] at hc
      generalize l[k] = b at *
      have HS : Hid (upB en l = (decide (0 ≤ b ∧ b ≤ en) && upB en (l.drop (k + 1)))) := Lib.hid (by
        rw [HN.out, E1.out]; unfold upB; rw [Bool.eq_iff_iff]; simp)
      clear HN E1
      by_cases hb : 0 ≤ b
      · by_cases hb' : b ≤ en
        · go_wp2_with fail
          go_round
          case rel => exact ⟨k + 1, by omega, by go_num, Lib.hid (by rw [HS.out, decide_eq_true (show 0 ≤ b ∧ b ≤ en from ⟨hb, hb'⟩)]; rfl)⟩
          case measure => simp [intOf]; omega
        · have HF : Hid (upB en l = false) := Lib.hid (by rw [HS.out, decide_eq_false (show ¬ (0 ≤ b ∧ b ≤ en) by omega)]; rfl)
          clear HS
          go_wp2_with fail
          go_ret
          refine ⟨?_, rfl⟩
          rw [HF.out]
          rfl
      · have HF : Hid (upB en l = false) := Lib.hid (by rw [HS.out, decide_eq_false (show ¬ (0 ≤ b ∧ b ≤ en) by omega)]; rfl)
        clear HS
        go_wp2_with fail
        go_ret
        refine ⟨?_, rfl⟩
        rw [HF.out]
        rfl
    · have R := Lib.hid (show upB en l = true by rw [HN.out, List.drop_eq_nil_of_le (by omega)]; rfl)
      clear HN
      go_wp2_with fail
      go_ret
      refine ⟨?_, rfl⟩
      rw [R.out]
      rfl

section
variable {w0 w : World} {a b en : Int} {T : TypeId} {N : Nat}
theorem upto_two (hN : w0.heap.size = N) (HB : Hid (Below (w0.alloc (.cells #[.int .i64 a, .int .i64 b] T)).heap.size (w0.alloc (.cells #[.int .i64 a, .int .i64 b] T)) w)) :
    Calls Try.prog 58 #[.int .i64 en, .slice (some ⟨N, 0, none⟩) 2 2] w fun e w' => e = .returned (.bool (upB en [a, b])) ∧ w = w' := by
  subst hN
  exact upto_any en [a, b] 2 _ _ _ w rfl (Nat.le_refl _) (two_lie HB.out).1
theorem upto_fst (hN : w0.heap.size = N) (HB : Hid (Below (w0.alloc (.cells #[.int .i64 a, .int .i64 b] T)).heap.size (w0.alloc (.cells #[.int .i64 a, .int .i64 b] T)) w)) :
    Calls Try.prog 58 #[.int .i64 en, .slice (some ⟨N, 0, none⟩) 1 2] w fun e w' => e = .returned (.bool (upB en [a])) ∧ w = w' := by
  subst hN
  exact upto_any en [a] 1 _ _ _ w rfl (by omega) (two_lie HB.out).2.1
theorem upto_snd (hN : w0.heap.size = N) (HB : Hid (Below (w0.alloc (.cells #[.int .i64 a, .int .i64 b] T)).heap.size (w0.alloc (.cells #[.int .i64 a, .int .i64 b] T)) w)) :
    Calls Try.prog 58 #[.int .i64 en, .slice (some ⟨N, 1, none⟩) 1 1] w fun e w' => e = .returned (.bool (upB en [b])) ∧ w = w' := by
  subst hN
  exact upto_any en [b] 1 _ _ _ w rfl (by omega) (two_lie HB.out).2.2
theorem upto_no (A : Option Addr) (c : Nat) : Calls Try.prog 58 #[.int .i64 en, .slice A 0 c] w fun e w' => e = .returned (.bool true) ∧ w = w' :=
  upto_any en [] 0 A c 0 w rfl (by omega) Lies.nil
end

set_option maxHeartbeats 800000 in
theorem igood_any (op a b : Int) (w : World) : Calls Try.prog 43 #[insV op a b] w fun e w' => e = .returned (.bool (instrB op a b)) ∧ Below w.heap.size w w' := by
  have hr := args_range op
  rcases (show argsI op = -1 ∨ argsI op = 0 ∨ argsI op = 1 ∨ argsI op = 2 by omega) with hn | hn | hn | hn
  · have H := Lib.hid hn
    have E := Lib.hid (show instrB op a b = false by unfold instrB; rw [hn]; simp)
    rw [E.out]
    clear hn hr
    go_enter Try.func43, Try.ntmps43
    go_wp2_with (go_at_call 56; (with_reducible refine (oargs_same _ _).mono ?_); rintro e w1 ⟨rfl, rfl⟩; rw [H.out])
    go_ret
    exact ⟨rfl, (Below.refl _ _).alloc (Nat.le_refl _) _⟩
  · have H := Lib.hid hn
    have HZ := Lib.hid (show argsI op ≤ 0 by omega)
    have E := Lib.hid (show instrB op a b = upB 0 [a, b] by unfold instrB upB; rw [hn, decide_eq_decide]; simp; omega)
    rw [E.out]
    clear hn hr
    go_enter Try.func43, Try.ntmps43
    go_wp2_with (first
      | (go_at_call 56; (with_reducible refine (oargs_same _ _).mono ?_); rintro e w1 ⟨rfl, rfl⟩; rw [H.out])
      | (go_at_call 57; (with_reducible refine (cut_none _ _ _ HZ.out).mono ?_); rintro e w2 ⟨rfl, hb⟩; have HB := Lib.hid hb; clear hb)
      | (go_at_call 58; (with_reducible refine (upto_no _ _).mono ?_); rintro e w3 ⟨rfl, rfl⟩)
      | (go_at_call 58; (with_reducible refine (upto_two (by simp) HB).mono ?_); rintro e w3 ⟨rfl, rfl⟩))
    all_goals
      go_ret
      exact ⟨rfl, (((Below.refl _ _).alloc (Nat.le_refl _) _).alloc (by simp) _).trans (HB.out.mono (by simp; omega))⟩
  · have H := Lib.hid hn
    have E := Lib.hid (show instrB op a b = (upB 255 [a] && upB 0 [b]) by unfold instrB upB; rw [hn, Bool.eq_iff_iff]; simp; omega)
    rw [E.out]
    clear hn hr
    go_enter Try.func43, Try.ntmps43
    go_wp2_with (first
      | (go_at_call 56; (with_reducible refine (oargs_same _ _).mono ?_); rintro e w1 ⟨rfl, rfl⟩; rw [H.out])
      | (go_at_call 57; (with_reducible refine (cut_one _ _ _ H.out).mono ?_); rintro e w2 ⟨rfl, hb⟩; have HB := Lib.hid hb; clear hb)
      | (go_at_call 58; (with_reducible refine (upto_fst (by simp) HB).mono ?_); rintro e w3 ⟨rfl, rfl⟩)
      | (go_at_call 58; (with_reducible refine (upto_snd (by simp) HB).mono ?_); rintro e w3 ⟨rfl, rfl⟩))
    all_goals
      go_ret
      refine ⟨ret_bool ?_, (((Below.refl _ _).alloc (Nat.le_refl _) _).alloc (by simp) _).trans (HB.out.mono (by simp; omega))⟩
      simp_all
  · have H := Lib.hid hn
    have E := Lib.hid (show instrB op a b = upB 255 [a, b] by unfold instrB upB; rw [hn, decide_eq_decide]; simp; omega)
    rw [E.out]
    clear hn hr
    go_enter Try.func43, Try.ntmps43
    go_wp2_with (first
      | (go_at_call 56; (with_reducible refine (oargs_same _ _).mono ?_); rintro e w1 ⟨rfl, rfl⟩; rw [H.out])
      | (go_at_call 57; (with_reducible refine (cut_two _ _ _ H.out).mono ?_); rintro e w2 ⟨rfl, hb⟩; have HB := Lib.hid hb; clear hb)
      | (go_at_call 58; (with_reducible refine (upto_no _ _).mono ?_); rintro e w3 ⟨rfl, rfl⟩)
      | (go_at_call 58; (with_reducible refine (upto_two (by simp) HB).mono ?_); rintro e w3 ⟨rfl, rfl⟩))
    all_goals
      go_ret
      refine ⟨ret_bool ?_, (((Below.refl _ _).alloc (Nat.le_refl _) _).alloc (by simp) _).trans (HB.out.mono (by simp; omega))⟩
      simp_all
end Go.Proofs.Ytjgfoialajgfhaa
