/-
  What the document's own answer for a number among some (In) comes to.
-/
import Derived.Test.YtmjoollhkjgohaaWords
import Derived.Test.YtmjoollhkjgohaaRows
import Derived.ProofKit
import Derived.OpenShut
import Derived.Outline
namespace Go.Proofs.Ytmjoollhkjgohaa
set_option maxRecDepth 100000
set_option linter.unusedVariables false
set_option linter.unusedSimpArgs false
set_option linter.unusedVariables false
open Go.ChangeShapes Go.WideShapes Go.ChangeAt Go.RowKit

/-- Is a number one of some? -/
def inB (l : List Int) (n : Int) : Bool := decide (n ∈ l)
theorem inB_nil (n : Int) : inB [] n = false := rfl

theorem rin_any (l : List Int) (n : Int) (A : Option Addr) (cap B : Nat) (w : World) (hl : l.length ≤ 9223372036854775807) (h : Lies w B A (l.map (Value.int .i64))) :
    Calls Try.prog 17 #[.slice A l.length cap, .int .i64 n] w fun e w' => e = .returned (.bool (inB l n)) ∧ w = w' := by
  have HL := Lib.hid h
  clear h
  go_enter Try.func17, Try.ntmps17
  go_wp2
  go_loop [5] (fun i => ∃ k : Nat, k ≤ l.length ∧ i = .int .i64 k ∧ inB l n = inB (l.drop k) n) (fun i => l.length - (intOf i).toNat)
  case atStart => exact ⟨0, by omega, rfl, rfl⟩
  case round =>
    obtain ⟨k, hk, rfl, hn⟩ := hrel
    have HN := Lib.hid hn
    clear hn
    by_cases hlt : k < l.length
    · obtain ⟨ad, rfl, _, hc⟩ := HL.out.at_ (k := k) (by simpa using hlt)
      have E1 := Lib.hid (List.drop_eq_getElem_cons hlt)
      simp only [List.getElem_map] at hc
      generalize l[k] = b at *
      by_cases hb : b = n
      · subst hb
        have R := Lib.hid (show inB l b = true by rw [HN.out, E1.out]; simp [inB])
        clear HN E1
        go_wp2_with fail
        go_ret
        refine ⟨?_, rfl⟩
        rw [R.out]
        rfl
      · have R := Lib.hid (show inB l n = inB (l.drop (k + 1)) n by
          rw [HN.out, E1.out]; unfold inB; simp only [List.mem_cons]; rw [decide_eq_decide]; constructor
          · rintro (h | h)
            · exact absurd h.symm hb
            · exact h
          · exact .inr)
        clear HN E1
        go_wp2_with fail
        go_round
        case rel => exact ⟨k + 1, by omega, by go_num, R.out⟩
        case measure => simp [intOf]; omega
    · have R := Lib.hid (show inB l n = false by rw [HN.out, List.drop_eq_nil_of_le (by omega)]; rfl)
      clear HN
      go_wp2_with fail
      go_ret
      refine ⟨?_, rfl⟩
      rw [R.out]
      rfl
/-- The call leaves the first world's blocks alone, as what went before it did. -/
theorem calls_ctx {P : Program} {f : FuncId} {args : Array Value} {w0 w : World} {r : Ending} (hb : Below w0.heap.size w0 w) (h : Calls P f args w fun e w' => e = r ∧ Below w.heap.size w w') :
    Calls P f args w fun e w' => e = r ∧ Below w0.heap.size w0 w' := h.mono fun _ _ ⟨he, hw⟩ => ⟨he, hb.trans (hw.mono hb.size)⟩
end Go.Proofs.Ytmjoollhkjgohaa
