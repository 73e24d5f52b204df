/-
  Words for bytes as strings: what a conversion of a slice of bytes comes to, sums of such strings, when two are the same. Plain facts; no conditions but that bytes are bytes.
-/
import Derived.Test.YtikljohgdgibnaaWords
import Derived.Test.YtikljohgdgibnaaRows
import Derived.ProofKit
import Derived.OpenShut
import Derived.Laws.BytesArg
namespace Go.Proofs.Ytikljohgdgibnaa
set_option maxRecDepth 100000
open Go.ChangeShapes Go.WideShapes Go.ChangeAt Go.RowKit
set_option linter.unusedVariables false

/-- Bytes as a string. -/
theorem conv_lies {P : Program} {w : World} {B : Nat} {A : Option Addr} {l : List Int} {cap : Nat} {src dst e : TypeId} (hs : P.underlying src = some (.slice e)) (he : P.underlying e = some (.int .u8)) (hd : P.underlying dst = some .string)
    (h : Lies w B A (l.map (Value.int .u8))) : (convert src dst (.slice A l.length cap)).run P w = .ok (.string (strOfNums l)) w := by
  rcases A with _ | ad
  · have hl : l = [] := by
      cases l with
      | nil => rfl
      | cons b r =>
        obtain ⟨ad, e, _⟩ := h 0 (.int .u8 b) rfl
        cases e
    subst hl
    rw [run_convert_bytes_nil w src e hs he _ _ dst hd]
    rfl
  · obtain ⟨g, off, spot⟩ := ad
    by_cases hl : l = []
    · subst hl
      rw [run_convert_bytes_string w src dst e _ _ _ hs he hd]
      exact (run_bytesToString (P := P) w ⟨g, off, spot⟩ 0 cap [] (run_loadCells_list (P := P) w _ [] (fun j v hj => by simp at hj))).trans rfl
    · have hpos : 0 < l.length := List.length_pos_iff.mpr hl
      have hspot : spot = none := by
        obtain ⟨ad, e, _, hc⟩ := h.at_ (k := 0) (by simpa using hpos)
        injection e with e
        subst e
        simpa [Addr.add] using World.cell?_spot hc
      subst hspot
      refine run_convert_bytes_arg w src e hs he g off l.length cap l rfl (fun i hi => ?_) dst hd
      obtain ⟨ad, e, _, hc⟩ := h.at_ (k := i) (by simpa using hi)
      injection e with e
      subst e
      have e : (Addr.add ⟨g, off, none⟩ i) = ⟨g, off + i, none⟩ := by
        unfold Addr.add; split
        · rename_i h0; subst h0; rfl
        · rfl
      rw [← e, hc]
      simp [List.getD, List.getElem?_eq_getElem hi]

theorem strOf_toList (l : List Int) : (strOfNums l).toList = l.map fun n => UInt8.ofNat n.toNat := by
  rw [ByteArray.toList_eq, strOfNums_data]
theorem nums_inj {l m : List Int} (hl : ∀ b ∈ l, 0 ≤ b ∧ b ≤ 255) (hm : ∀ b ∈ m, 0 ≤ b ∧ b ≤ 255) (h : (l.map fun n => UInt8.ofNat n.toNat) = m.map fun n => UInt8.ofNat n.toNat) : l = m := by
  induction l generalizing m with
  | nil =>
    cases m with
    | nil => rfl
    | cons b r => simp at h
  | cons a r ih =>
    cases m with
    | nil => simp at h
    | cons b s =>
      simp only [List.map_cons, List.cons.injEq] at h
      obtain ⟨a0, a1⟩ := hl a List.mem_cons_self
      obtain ⟨b0, b1⟩ := hm b List.mem_cons_self
      have e : a = b := by
        have := congrArg UInt8.toNat h.1
        simp at this
        omega
      rw [e, ih (fun c hc => hl c (List.mem_cons_of_mem _ hc)) (fun c hc => hm c (List.mem_cons_of_mem _ hc)) h.2]
/-- Two strings of bytes are one just if the bytes are. -/
theorem str_eq {l m : List Int} (hl : ∀ b ∈ l, 0 ≤ b ∧ b ≤ 255) (hm : ∀ b ∈ m, 0 ≤ b ∧ b ≤ 255) : ((strOfNums l).toList == (strOfNums m).toList) = decide (l = m) := by
  by_cases h : l = m
  · subst h; simp
  · rw [decide_eq_false h, beq_eq_false_iff_ne, strOf_toList, strOf_toList]
    exact fun g => h (nums_inj hl hm g)

theorem str_append (l m : List Int) : strOfNums l ++ strOfNums m = strOfNums (l ++ m) := by
  simp only [strOfNums, List.map_append]
  exact ByteArray.mk_append_mk _ _
theorem str_add (P : Program) (w : World) {l m : List Int} (h : l.length + m.length ≤ 1000) : (Op.stringOp .add (strOfNums l) (strOfNums m)).run P w = .ok (.string (strOfNums (l ++ m))) w := by
  have e := run_string_add_sum (P := P) (w := w) (strOfNums l) (strOfNums m) (by rw [strOfNums_size, strOfNums_size]; omega)
  rw [str_append] at e
  exact e
/-- The conversions of three slices of bytes. -/
theorem conv_u8 {w : World} {B : Nat} {A : Option Addr} {l : List Int} {cap : Nat} (h : Lies w B A (l.map (Value.int .u8))) : (convert 31 9 (.slice A l.length cap)).run Try.prog w = .ok (.string (strOfNums l)) w :=
  conv_lies Try.underlying31 Try.underlying5 Try.underlying9 h

end Go.Proofs.Ytikljohgdgibnaa
