/-
  Small inequalities: what holds of small numbers, and what they prove. Plain definitions and lemmas; no conditions.
-/
import Derived.Test.YtncbmjpfbkngdaaLinMath2
import Derived.Test.YtncbmjpfbkngdaaLinC
namespace Go.Proofs.Ytncbmjpfbkngdaa
set_option maxRecDepth 100000
set_option linter.unusedVariables false
set_option linter.unusedSimpArgs false
open Go.ChangeShapes Go.WideShapes Go.ChangeAt Go.RowKit
set_option linter.unusedVariables false

/-- Is an inequality of so many variables, its numbers not beyond these? -/
def smallB (n : Nat) (M C : Int) (q : Inq) : Bool := decide (q.1.length = n) && (decide (q.2 ≤ M) && (decide (-M ≤ q.2) && q.1.all fun c => decide (c ≤ C) && decide (-C ≤ c)))
theorem smallB_yes {n : Nat} {M C : Int} {q : Inq} (h : smallB n M C q = true) : q.1.length = n ∧ q.2 ≤ M ∧ -M ≤ q.2 ∧ ∀ c ∈ q.1, c ≤ C ∧ -C ≤ c := by
  unfold smallB at h
  simp only [Bool.and_eq_true, decide_eq_true_eq, List.all_eq_true] at h
  exact h
theorem small_holds {n : Nat} {q : Inq} {x : List Int} (hx : x.length = n) (hn : n ≤ 20) (hq : smallB n 1099511627776 1048576 q = true) (hs : ∀ y ∈ x, y.natAbs ≤ 32768) : holdsR q x = some (decide (dotI q.1 x ≤ q.2)) := by
  obtain ⟨h1, _, _, h4⟩ := smallB_yes hq
  have hd : dotR q.1 x = some (dotI q.1 x) := dotR_small (P := 1048576) (Q := 32768) (by decide) (by decide) (by decide) (fun c hc => by have := h4 c hc; omega) hs (by rw [h1]; omega)
  unfold holdsR
  rw [if_pos (by omega), hd]
  rfl
theorem small_proves {list : List Inq} {t x : List Int} {n : Nat} {W : Inq} (hl : list.length ≤ 20) (hx : x.length = n) (hn : n ≤ 20) (hq : ∀ q ∈ list, smallB n 1099511627776 1048576 q = true ∧ dotI q.1 x ≤ q.2) (hs : ∀ y ∈ x, y.natAbs ≤ 32768) (ht : ∀ y ∈ t, 0 ≤ y ∧ y ≤ 255) (hw : W.1.length = n) (hp : provesB list t W = true) : holdsR W x = some true := by
  unfold provesB at hp
  cases hS : sumR list t (W.1.length : Int) with
  | none => rw [hS] at hp; cases hp
  | some q =>
    rw [hS] at hp
    have hi : impliesB q W = true := hp
    unfold impliesB at hi
    simp only [Bool.and_eq_true, decide_eq_true_eq] at hi
    obtain ⟨L, y⟩ := q
    obtain ⟨e1, e2⟩ := hi
    have e1 : L = W.1 := e1
    have e2 : y ≤ W.2 := e2
    obtain ⟨h1, h2, h3, h4, h5⟩ := sum_parts hS
    have hab : ∀ c ∈ W.1, c.natAbs ≤ 5347737600 := fun c hc => by
      rw [← e1, h4] at hc
      unfold colsI at hc
      obtain ⟨v, hv, rfl⟩ := List.mem_map.mp hc
      rw [List.mem_range] at hv
      have := dotI_abs (P := 1048576) (Q := 255) (colR list v) t (fun z hz => by
        unfold colR at hz
        obtain ⟨q, hqm, rfl⟩ := List.mem_map.mp hz
        have hq1 := smallB_yes (hq q hqm).1
        rw [List.getElem?_eq_getElem (by omega)]
        have := hq1.2.2.2 _ (List.getElem_mem (show v < q.1.length by omega))
        show (q.1[v]).natAbs ≤ _
        omega) (fun z hz => by have := ht z hz; omega)
      have hcl : (colR list v).length = list.length := by unfold colR; simp
      rw [hcl] at this
      omega
    have hd : dotR W.1 x = some (dotI W.1 x) := dotR_small (P := 5347737600) (Q := 32768) (by decide) (by decide) (by decide) hab hs (by omega)
    have hle : dotI L x ≤ y := sum_sound hS (fun q hqm => (hq q hqm).2)
    unfold holdsR
    rw [if_pos (by omega), hd]
    show some (decide (dotI W.1 x ≤ W.2)) = some true
    rw [← e1, decide_eq_true (by omega)]
end Go.Proofs.Ytncbmjpfbkngdaa
