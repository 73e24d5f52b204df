/-
  What the program's own counter of fields (counter, and the function that it makes) comes to.
-/
import Derived.Test.YtjgfoialajgfhaaSaneLeaf
namespace Go.Proofs.Ytjgfoialajgfhaa
set_option maxRecDepth 100000
set_option linter.unusedVariables false
set_option linter.unusedSimpArgs false
open Go.ChangeShapes Go.WideShapes Go.ChangeAt Go.RowKit
set_option linter.unusedVariables false
set_option linter.unusedSimpArgs false

/-- The counter by value. -/
abbrev cntV (N : Nat) : Value := .func (.func 47) #[] #[.pointer (some ⟨N, 0, none⟩)]
theorem scounter_any (n : Nat) (A : Option Addr) (cap : Nat) (w : World) :
    Calls Try.prog 32 #[.slice A n cap] w fun e w' => e = .returned (cntV w.heap.size) ∧ w' = w.alloc (.cells #[.slice A n cap] 22) := by
  go_enter Try.func32, Try.ntmps32
  go_wp2
  go_ret
  exact ⟨rfl, rfl⟩

theorem fields_neg (cl : List Cls) {c : Int} (h : c < 0) : fieldsOf cl c = [] := by
  unfold fieldsOf aboveI
  rw [if_neg (by omega)]
  rfl
theorem fields_step {cl : List Cls} {i : Nat} {c : Cls} (h : cl[i]? = some c) (hs : c.sup < (i : Int)) : fieldsOf cl (i : Int) = fieldsOf cl c.sup ++ c.fields := by
  have e : (supsOf cl)[i]? = some c.sup := by unfold supsOf; rw [List.getElem?_map, h]; rfl
  unfold fieldsOf
  rw [show aboveI (supsOf cl) (i : Int) = (i : Int) :: aboveI (supsOf cl) c.sup by
    unfold aboveI
    rw [if_pos (by omega), Int.toNat_natCast, aboveOf_some e, if_pos hs]
    rfl]
  rw [List.reverse_cons, List.flatMap_append]
  congr 1
  simp [fieldsAt, h]
theorem fields_max {cl : List Cls} (h : ∀ c ∈ cl, c.fields.length ≤ 1000) (hn : cl.length ≤ 1000) (c : Int) : (fieldsOf cl c).length ≤ 1000000 := by
  unfold fieldsOf
  have h1 := fields_sum h (aboveI (supsOf cl) c).reverse
  have h2 := aboveI_len (supsOf cl) c
  rw [supsOf_len] at h2
  rw [List.length_reverse] at h1
  omega

set_option maxHeartbeats 1600000 in
theorem scount_any (cl : List Cls) (c : Int) (N : Nat) (A : Option Addr) (cap B : Nat) (w : World) (hB : B ≤ w.heap.size) (h : SlcIs ClsAt 3 w B A cap cl) (hp : w.cell? ⟨N, 0, none⟩ = some (.slice A cl.length cap))
    (hs : supsB cl = true) (hf : ∀ x ∈ cl, x.fields.length ≤ 1000) (hn : cl.length ≤ 1000) (h1 : c < cl.length) :
    Calls Try.prog 47 #[.int .i64 c, .pointer (some ⟨N, 0, none⟩)] w fun e w' => e = .returned (.int .i64 ((fieldsOf cl c).length : Int)) ∧ w = w' := by
  have hlc := h.le
  have hcm := h.cap
  have HL := Lib.hid h
  have HB := Lib.hid hB
  have HS := Lib.hid hs
  have HF := Lib.hid (fields_max hf hn)
  obtain ⟨s, hs'⟩ : ∃ s, (fieldsOf cl c).length = s := ⟨_, rfl⟩
  have hs1 : s ≤ 1000000 := by rw [← hs']; exact HF.out c
  rw [hs']
  have E := Lib.hid hs'
  clear h hB hs hf hs'
  go_enter Try.func47, Try.ntmps47
  go_wp2
  go_loop [0, 4] (fun v u => ∃ (d : Int) (j : Nat), v = .int .i64 d ∧ u = .int .i64 (j : Int) ∧ d < cl.length ∧ j ≤ s ∧ Hid (j + (fieldsOf cl d).length = s)) (fun v _ => (intOf v + 1).toNat)
  case atStart => exact ⟨c, 0, rfl, rfl, h1, by omega, Lib.hid (by rw [Nat.zero_add]; exact E.out)⟩
  case round =>
    obtain ⟨d, j, rfl, rfl, hd, hj, HJ⟩ := hrel
    by_cases h0 : 0 ≤ d
    · obtain ⟨n, rfl⟩ := Int.eq_ofNat_of_zero_le h0
      have hnl : n < cl.length := by omega
      obtain ⟨ad, rfl, hab, hc⟩ := HL.out.row.at_ hnl
      have HG := Lib.hid (List.getElem?_eq_getElem hnl)
      have HST := Lib.hid (fields_step HG.out (sups_at HS.out HG.out))
      have hsu := sups_at HS.out HG.out
      generalize cl[n] = x at *
      obtain ⟨s0, ⟨A1, k1, s1', hs1'⟩, ⟨A2, k2, s2, hs2⟩, sr⟩ := hc
      have hfl : j + x.fields.length ≤ s := by
        have := HJ.out
        rw [HST.out, List.length_append] at this
        omega
      have HJ2 : Hid ((j + x.fields.length) + (fieldsOf cl x.sup).length = s) := Lib.hid (by
        have := HJ.out
        rw [HST.out, List.length_append] at this
        omega)
      clear hs1' hs2 HJ
      go_wp2_with fail
      go_round
      case rel => exact ⟨x.sup, j + x.fields.length, rfl, by go_num, by omega, hfl, HJ2⟩
      case measure => simp [intOf]; omega
    · have e : j = s := by
        have := HJ.out
        rw [fields_neg cl (by omega)] at this
        simpa using this
      subst e
      go_wp2_with fail
      go_ret
      exact ⟨rfl, rfl⟩
end Go.Proofs.Ytjgfoialajgfhaa
