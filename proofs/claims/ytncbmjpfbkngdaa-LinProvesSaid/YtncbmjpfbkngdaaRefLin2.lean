/-
  Which inequalities the statements speak of (few).
-/
import Derived.Test.YtncbmjpfbkngdaaLinUp
import Derived.Test.YtncbmjpfbkngdaaInqSame
import Derived.Outline
import Derived.Deep.Cut
import Derived.IntWalk
import Derived.RegionTactic
import Derived.ChangeAlike
import Derived.Deep.RegionHeld3
import Derived.Deep.QuietTactic
import Derived.BigQuiet
namespace Go.Proofs.Ytncbmjpfbkngdaa
set_option maxRecDepth 100000
set_option linter.unusedVariables false
set_option linter.unusedSimpArgs false
open Go.ChangeShapes Go.WideShapes Go.ChangeAt Go.RowKit
set_option linter.unusedVariables false
set_option linter.unusedSimpArgs false

/-- Not too many, nor too long ones. -/
def fewQ (l : List Inq) : Bool := decide (l.length ≤ 40) && l.all fun q => decide (q.1.length ≤ 100)
theorem fewQ_yes {l : List Inq} (h : fewQ l = true) : l.length ≤ 40 ∧ ∀ q ∈ l, q.1.length ≤ 100 := by
  unfold fewQ at h
  rw [Bool.and_eq_true, decide_eq_true_eq, List.all_eq_true] at h
  exact ⟨h.1, fun q hq => of_decide_eq_true (h.2 q hq)⟩
theorem few14_any (l : List Inq) (A : Option Addr) (c : Nat) (w : World) (h : SlcIs IneqAt 2 w w.heap.size A c l) :
    Calls Try.prog 9 #[.slice A l.length c] w fun e w' => e = .returned (.bool (fewQ l)) ∧ w = w' := by
  have HM := Lib.hid h
  have h1 := h.le
  have h2 := h.cap
  clear h
  obtain ⟨b, hb⟩ : ∃ b, fewQ l = b := ⟨_, rfl⟩
  rw [hb]
  have HB := Lib.hid hb
  clear hb
  by_cases hl : (l.length : Int) > 40
  · have HF : Hid (b = false) := Lib.hid (by rw [← HB.out]; unfold fewQ; rw [decide_eq_false (by omega), Bool.false_and])
    go_enter Try.func9, Try.ntmps9
    go_wp2_with fail
    go_ret
    exact ⟨by rw [HF.out]; rfl, rfl⟩
  have HE : Hid (b = l.all fun q => decide (q.1.length ≤ 100)) := Lib.hid (by rw [← HB.out]; unfold fewQ; rw [decide_eq_true (by omega), Bool.true_and])
  go_enter Try.func9, Try.ntmps9
  go_wp2_with fail
  go_loopw [3] (fun i wr => ∃ k : Nat, k ≤ l.length ∧ i = .int .i64 k ∧ Hid (∀ q ∈ l.take k, decide (q.1.length ≤ 100) = true) ∧ wr = w) (fun i _ => l.length - (intOf i).toNat)
  case atStart => exact ⟨0, Nat.zero_le _, rfl, Lib.hid (by simp), by first | rfl | trivial⟩
  case round =>
    obtain ⟨k, hk, rfl, HA, hwr⟩ := hrel
    have hwr := hwr.symm
    subst hwr
    by_cases hkl : k < l.length
    · obtain ⟨ad, rfl, hab, ⟨A1, c1, s0, hs⟩, s1⟩ := HM.out.row.at_ hkl
      have HT : Hid (decide (l[k].1.length ≤ 100) = true → ∀ q ∈ l.take (k + 1), decide (q.1.length ≤ 100) = true) := Lib.hid (fun g => by
        intro q hq
        rw [List.take_add_one, List.getElem?_eq_getElem hkl] at hq
        rcases List.mem_append.mp hq with z | z
        · exact HA.out q z
        · simp at z; subst z; exact g)
      have HF : Hid (¬ l[k].1.length ≤ 100 → b = false) := Lib.hid (fun g => by
        rw [HE.out, Bool.eq_false_iff]
        intro z
        exact g (of_decide_eq_true (List.all_eq_true.mp z _ (List.getElem_mem hkl))))
      have hc1 := hs.cap
      have hc2 := hs.le
      generalize l[k] = q at *
      clear hs s1
      by_cases hg : (q.1.length : Int) > 100
      · have HF2 := Lib.hid (HF.out (by omega))
        go_wp2_with fail
        go_ret
        exact ⟨by rw [HF2.out]; rfl, rfl⟩
      · have HT2 := Lib.hid (HT.out (decide_eq_true (by omega)))
        go_wp2_with fail
        go_roundw
        case rel => exact ⟨k + 1, by omega, by go_num, HT2, by first | rfl | trivial⟩
        case measure => simp [intOf]; omega
    · have hki : ¬ (k : Int) < (l.length : Int) := by omega
      have HF : Hid (b = true) := Lib.hid (by rw [HE.out]; exact List.all_eq_true.mpr (fun q hq => HA.out q (by rw [List.take_of_length_le (by omega)]; exact hq)))
      go_wp2_with fail
      go_ret
      exact ⟨by rw [HF.out]; rfl, rfl⟩
theorem few14_is {l : List Inq} {A : Option Addr} {c n : Nat} {w : World} {r : Bool} (H : Hid (SlcIs IneqAt 2 w w.heap.size A c l)) (HN : Hid (l.length = n)) (HR : Hid (fewQ l = r)) :
    Calls Try.prog 9 #[.slice A n c] w fun e w' => e = .returned (.bool r) ∧ w = w' := by
  obtain rfl := HN.out
  have h := few14_any l A c w H.out
  rw [HR.out] at h
  exact h
end Go.Proofs.Ytncbmjpfbkngdaa
