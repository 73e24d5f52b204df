/-
  The statements on no reader (BitsNone) and on how short numbers are (BitsShort), walked: each answers true at any arguments.
-/
import Derived.Test.YtoabaanpfhlloaaBitsAwake
import Derived.Laws.BytesArg
namespace Go.Proofs.Ytoabaanpfhlloaa
open Go.ChangeShapes Go.WideShapes Go.ChangeAt Go.RowKit
set_option linter.unusedVariables false

theorem next_k3 : nextOf [200] = (0, 0) := by decide
theorem get_k3 (most : Int) : getR [200] false most = (0, [200], true) := by
  unfold getR; rw [next_k3]; rfl
theorem get_bad (rest : List Int) (most : Int) : getR rest true most = (0, rest, true) := by
  unfold getR; rw [if_neg (by simp)]

section
variable {w : World} {N B : Nat} {most : Int}
theorem bget_k3 (HR : Hid (Rd w N [200] false)) (HB : Hid (B ≤ N)) : Calls Try.prog 16 #[.pointer (some ⟨N, 0, none⟩), .int .i64 most] w (GetOut .i64 N B 0 [200] true w) := by
  have h := bget_any N B [200] false most w (by decide) (by decide) HB.out HR.out
  rw [get_k3] at h
  exact h
theorem blong_k3 (HR : Hid (Rd w N [200] true)) (HB : Hid (B ≤ N)) : Calls Try.prog 15 #[.pointer (some ⟨N, 0, none⟩)] w (GetOut .i32 N B 0 [200] true w) := by
  have h := breadlong_any N B [200] true w (by decide) (by decide) HB.out HR.out
  rw [get_bad, zag_zero] at h
  exact h
theorem bend_k3 (HR : Hid (Rd w N [200] true)) : Calls Try.prog 18 #[.pointer (some ⟨N, 0, none⟩)] w fun e w' => e = .returned (.bool false) ∧ Below w.heap.size w w' := bend_any N [200] true w HR.out
theorem bbad_k3 (HR : Hid (Rd w N [200] true)) : Calls Try.prog 17 #[.pointer (some ⟨N, 0, none⟩)] w fun e w' => e = .returned (.bool true) ∧ Below w.heap.size w w' := bbad_any N [200] true w HR.out
end

theorem bitsNone_walk (most : Int) (w : World) : Calls Try.prog 6 #[.int .i64 most] w fun e w' => e = .returned (.bool true) ∧ Below w.heap.size w w' := by
  go_enter Try.func6, Try.ntmps6
  go_wp2_with fail
  have hl : Lies (w.alloc (.cells #[.int .u8 200] 5)) (w.heap.size + 1) (some ⟨w.heap.size, 0, none⟩) ([200].map (Value.int .u8)) := by
    intro j u hj
    match j, hj with
    | 0, hj => cases hj; exact ⟨_, rfl, by simp, by simp [Addr.add]⟩
  refine (bnew_any [200] _ 1 (w.heap.size + 1) _ (by decide) (by decide) (fun h => by cases h) (by simp) hl).mono ?_
  rintro e w3 ⟨N, rfl, hN, hr3, hb3⟩
  have HR := Lib.hid hr3
  have HB3 := Lib.hid (((Below.refl w.heap.size w).alloc (Nat.le_refl _) _).trans (hb3.mono (by simp)))
  have HBN : Hid (w.heap.size ≤ N) := Lib.hid (by simp at hN; omega)
  clear hl hr3 hb3 hN
  go_wp2_with (first
    | (go_at_call 16; (with_reducible refine (bget_k3 HR HBN).mono ?_); rintro e w4 ⟨rfl, hr, hb⟩; have HR4 := Lib.hid hr; have HB4 := Lib.hid (HB3.out.trans hb); clear hr hb)
    | (go_at_call 15; (with_reducible refine (blong_k3 HR4 HBN).mono ?_); rintro e w5 ⟨rfl, hr, hb⟩; have HR5 := Lib.hid hr; have HB5 := Lib.hid (HB4.out.trans hb); clear hr hb)
    | (go_at_call 8; (with_reducible refine (bawake_any _).mono ?_); rintro e w6 ⟨rfl, hb⟩; have HR6 := Lib.hid (HR5.out.keep hb); have HB6 := Lib.hid (HB5.out.trans (hb.mono HB5.out.size)); clear hb)
    | (go_at_call 16; (with_reducible refine (bget_nil _ _).mono ?_); rintro e w7 ⟨rfl, hb⟩; have HR7 := Lib.hid (HR6.out.keep hb); have HB7 := Lib.hid (HB6.out.trans (hb.mono HB6.out.size)); clear hb)
    | (go_at_call 15; (with_reducible refine (blong_nil _).mono ?_); rintro e w8 ⟨rfl, hb⟩; have HR8 := Lib.hid (HR7.out.keep hb); have HB8 := Lib.hid (HB7.out.trans (hb.mono HB7.out.size)); clear hb)
    | (go_at_call 18; (with_reducible refine (bend_nil _).mono ?_); rintro e w9 ⟨rfl, hb⟩; have HR9 := Lib.hid (HR8.out.keep hb); have HB9 := Lib.hid (HB8.out.trans (hb.mono HB8.out.size)); clear hb)
    | (go_at_call 17; (with_reducible refine (bbad_nil _).mono ?_); rintro e w10 ⟨rfl, hb⟩; have HR10 := Lib.hid (HR9.out.keep hb); have HB10 := Lib.hid (HB9.out.trans (hb.mono HB9.out.size)); clear hb)
    | (go_at_call 17; (with_reducible refine (bbad_k3 HR10).mono ?_); rintro e w11 ⟨rfl, hb⟩; have HR11 := Lib.hid (HR10.out.keep hb); have HB11 := Lib.hid (HB10.out.trans (hb.mono HB10.out.size)); clear hb)
    | (go_at_call 18; (with_reducible refine (bend_k3 HR11).mono ?_); rintro e w12 ⟨rfl, hb⟩; have HB12 := Lib.hid (HB11.out.trans (hb.mono HB11.out.size)); clear hb))
  go_ret
  exact ⟨rfl, HB12.out⟩

/-- Bytes as a string. -/
theorem conv_lies {P : Program} {w : World} {B : Nat} {A : Option Addr} {l : List Int} {cap : Nat} {src dst e : TypeId} (hs : P.underlying src = some (.slice e)) (he : P.underlying e = some (.int .u8)) (hd : P.underlying dst = some .string)
    (h : Lies w B A (l.map (Value.int .u8))) : (convert src dst (.slice A l.length cap)).run P w = .ok (.string (strOfNums l)) w := by
  rcases A with _ | ad
  · have hl : l = [] := by
      cases l with
      | nil => rfl
      | cons b r =>
        obtain ⟨ad, e, _⟩ := h 0 (.int .u8 b) rfl
        cases e
    subst hl
    rw [run_convert_bytes_nil w src e hs he _ _ dst hd]
    rfl
  · obtain ⟨g, off, spot⟩ := ad
    by_cases hl : l = []
    · subst hl
      rw [run_convert_bytes_string w src dst e _ _ _ hs he hd]
      exact (run_bytesToString (P := P) w ⟨g, off, spot⟩ 0 cap [] (run_loadCells_list (P := P) w _ [] (fun j v hj => by simp at hj))).trans rfl
    · have hpos : 0 < l.length := List.length_pos_iff.mpr hl
      have hspot : spot = none := by
        obtain ⟨ad, e, _, hc⟩ := h.at_ (k := 0) (by simpa using hpos)
        injection e with e
        subst e
        simpa [Addr.add] using World.cell?_spot hc
      subst hspot
      refine run_convert_bytes_arg w src e hs he g off l.length cap l rfl (fun i hi => ?_) dst hd
      obtain ⟨ad, e, _, hc⟩ := h.at_ (k := i) (by simpa using hi)
      injection e with e
      subst e
      have e : (Addr.add ⟨g, off, none⟩ i) = ⟨g, off + i, none⟩ := by
        unfold Addr.add; split
        · rename_i h0; subst h0; rfl
        · rfl
      rw [← e, hc]
      simp [List.getD, List.getElem?_eq_getElem hi]

theorem strOf_toList (l : List Int) : (strOfNums l).toList = l.map fun n => UInt8.ofNat n.toNat := by
  rw [ByteArray.toList_eq, strOfNums_data]
theorem nums_inj {l m : List Int} (hl : ∀ b ∈ l, 0 ≤ b ∧ b ≤ 255) (hm : ∀ b ∈ m, 0 ≤ b ∧ b ≤ 255) (h : (l.map fun n => UInt8.ofNat n.toNat) = m.map fun n => UInt8.ofNat n.toNat) : l = m := by
  induction l generalizing m with
  | nil =>
    cases m with
    | nil => rfl
    | cons b r => simp at h
  | cons a r ih =>
    cases m with
    | nil => simp at h
    | cons b s =>
      simp only [List.map_cons, List.cons.injEq] at h
      obtain ⟨a0, a1⟩ := hl a List.mem_cons_self
      obtain ⟨b0, b1⟩ := hm b List.mem_cons_self
      have e : a = b := by
        have := congrArg UInt8.toNat h.1
        simp at this
        omega
      rw [e, ih (fun c hc => hl c (List.mem_cons_of_mem _ hc)) (fun c hc => hm c (List.mem_cons_of_mem _ hc)) h.2]
/-- Two strings of bytes are one just if the bytes are. -/
theorem str_eq {l m : List Int} (hl : ∀ b ∈ l, 0 ≤ b ∧ b ≤ 255) (hm : ∀ b ∈ m, 0 ≤ b ∧ b ≤ 255) : ((strOfNums l).toList == (strOfNums m).toList) = decide (l = m) := by
  by_cases h : l = m
  · subst h; simp
  · rw [decide_eq_false h, beq_eq_false_iff_ne, strOf_toList, strOf_toList]
    exact fun g => h (nums_inj hl hm g)

/-- How many bytes a number has, counted as the statement counts. -/
theorem bytesOf_halves {n : Nat} (h : 128 ≤ n) : (bytesOf n).length = (bytesOf (n / 128)).length + 1 := by
  rw [bytesOf_great h]; rfl

set_option maxRecDepth 100000 in
set_option maxHeartbeats 1600000 in
theorem short_eq (a : Int) (Y : List Int) (a0 : 0 ≤ a) (a1 : a ≤ 4294967295) (hY : bytesOf a.toNat = Y) (w : World) :
    Calls Try.prog 7 #[.int .u32 a, .int .u32 a] w fun e w' => e = .returned (.bool true) ∧ Below w.heap.size w w' := by
  obtain ⟨X, hX⟩ : ∃ X, bytesOf a.toNat = X := ⟨_, rfl⟩
  obtain rfl : X = Y := hX.symm.trans hY
  have HXN := Lib.hid hX
  have HYN := Lib.hid hY
  have hL9 : X.length ≤ 9 := by rw [← hX]; exact bytesOf_len9 (by omega)
  have hP : 0 < X.length := by rw [← hX]; exact bytesOf_pos _
  have hPY : 0 < X.length := hP
  have HI : Hid (∀ i (h : i < X.length), (128 ≤ X[i] ↔ i + 1 < X.length)) := by subst hX; exact Lib.hid (bytesOf_high a.toNat)
  have HR : Hid (∀ x ∈ X, 0 ≤ x ∧ x ≤ 255) := by subst hX; exact Lib.hid (bytesOf_range a.toNat)
  clear hX hY
  go_enter Try.func7, Try.ntmps7
  go_wp2_with fail
  refine (bput_any [] (.slice none 0 0) a w.heap.size w (by omega) (by decide) (Nat.le_refl _) (World.ownsRow_nil _ _ _ _)).mono ?_
  rintro e w1 ⟨v1, rfl, ho1, hb1⟩
  rw [List.nil_append, HXN.out] at ho1
  have HO1 := Lib.hid ho1
  have HB1 := Lib.hid hb1
  clear ho1 hb1
  go_wp2_with fail
  refine (bput_any [] (.slice none 0 0) a w1.heap.size w1 (by omega) (by decide) (Nat.le_refl _) (World.ownsRow_nil _ _ _ _)).mono ?_
  rintro e w2 ⟨v2, rfl, ho2, hb2⟩
  rw [List.nil_append, HYN.out] at ho2
  have ho1 := own_below HO1.out hb2 (own_block_lt HO1.out)
  obtain ⟨g1, c1, rfl, hc1, hm1, hg1, hgl1, hl1⟩ := own_bytes ho1 hP
  obtain ⟨g2, c2, rfl, hc2, hm2, hg2, hgl2, hl2⟩ := own_bytes ho2 hPY
  have K1 := conv_lies (P := Try.prog) (src := 22) (dst := 9) (cap := c1) Try.underlying22 Try.underlying5 Try.underlying9 hl1
  have K2 := conv_lies (P := Try.prog) (src := 22) (dst := 9) (cap := c2) Try.underlying22 Try.underlying5 Try.underlying9 hl2
  have HL1 := Lib.hid hl1
  have HB2 := Lib.hid (HB1.out.trans (hb2.mono HB1.out.size))
  clear ho1 ho2 hl1 hl2 hb2 HO1 HB1
  go_wp2_with fail
  go_loop [7, 8] (fun s n => ∃ S m : Nat, s = .int .i64 S ∧ n = .int .i64 m ∧ S ≤ 9 ∧ m ≤ 4294967295 ∧ S + (bytesOf m).length = X.length + 1) (fun _ n => (intOf n).toNat)
  case atStart => exact ⟨1, a.toNat, rfl, by show Value.int .i64 a = _; congr 1; omega, by omega, by omega, by rw [HXN.out]; omega⟩
  case round =>
    obtain ⟨S, m, rfl, rfl, hS, hm, hsum⟩ := hrel
    have HS := Lib.hid hsum
    clear hsum
    by_cases hlt : 128 ≤ m
    · have R := Lib.hid (show S + 1 + (bytesOf (m / 128)).length = X.length + 1 by have := HS.out; have := bytesOf_halves hlt; omega)
      have hS' : S + 1 ≤ 9 := by have := R.out; have := bytesOf_pos (m / 128); omega
      clear HS
      go_wp2_with fail
      go_round
      case rel => exact ⟨S + 1, m / 128, by simp, by simp, by omega, by omega, R.out⟩
      case measure => simp [intOf]; omega
    · have hSX : S = X.length := by have := HS.out; rw [bytesOf_small (by omega)] at this; simp at this; omega
      clear HS
      subst hSX
      go_wp2_with fail
      go_loop [9] (fun i => ∃ k : Nat, k ≤ X.length ∧ i = .int .i64 k) (fun i => X.length - (intOf i).toNat)
      case atStart => exact ⟨0, by omega, rfl⟩
      case round =>
        obtain ⟨k, hk, rfl⟩ := hrel
        by_cases hkl : k < X.length
        · have hcell := lies_cell HL1.out k (by simpa using hkl)
          have hiff := HI.out k hkl
          obtain ⟨r0, r1⟩ := HR.out X[k] (List.getElem_mem hkl)
          simp only [List.getElem_map] at hcell
          generalize X[k] = x at *
          have hcs : (128 ≤ x ∧ k + 1 < X.length) ∨ (x < 128 ∧ k + 1 = X.length) := by omega
          clear hiff
          rcases hcs with ⟨h1, h2⟩ | ⟨h1, h2⟩
          · have d2 : decide ((k : Int) < (X.length : Int) - 1) = true := decide_eq_true (by omega)
            go_wp2_with fail
            go_round
            case rel => exact ⟨k + 1, by omega, by go_num⟩
            case measure => simp [intOf]; omega
          · have d1 : decide (128 ≤ x) = false := decide_eq_false (by omega)
            have d2 : decide ((k : Int) < (X.length : Int) - 1) = false := decide_eq_false (by omega)
            go_wp2_with fail
            go_round
            case rel => exact ⟨k + 1, by omega, by go_num⟩
            case measure => simp [intOf]; omega
        · go_wp2_with (go_at_call 8; (with_reducible refine (bawake_any _).mono ?_); rintro e w6 ⟨rfl, hb⟩; have HB6 := Lib.hid (HB2.out.trans (hb.mono HB2.out.size)); clear hb)
          go_ret
          exact ⟨rfl, HB6.out⟩

set_option maxRecDepth 100000 in
set_option maxHeartbeats 1600000 in
theorem short_ne (a b : Int) (Y : List Int) (a0 : 0 ≤ a) (a1 : a ≤ 4294967295) (b0 : 0 ≤ b) (b1 : b ≤ 4294967295) (hY : bytesOf b.toNat = Y) (hne : ¬ a = b) (hE : ((strOfNums (bytesOf a.toNat)).toList == (strOfNums Y).toList) = false) (w : World) :
    Calls Try.prog 7 #[.int .u32 a, .int .u32 b] w fun e w' => e = .returned (.bool true) ∧ Below w.heap.size w w' := by
  obtain ⟨X, hX⟩ : ∃ X, bytesOf a.toNat = X := ⟨_, rfl⟩
  rw [hX] at hE
  have HXN := Lib.hid hX
  have HYN := Lib.hid hY
  have hL9 : X.length ≤ 9 := by rw [← hX]; exact bytesOf_len9 (by omega)
  have hP : 0 < X.length := by rw [← hX]; exact bytesOf_pos _
  have hPY : 0 < Y.length := by rw [← hY]; exact bytesOf_pos _
  have HI : Hid (∀ i (h : i < X.length), (128 ≤ X[i] ↔ i + 1 < X.length)) := by subst hX; exact Lib.hid (bytesOf_high a.toNat)
  have HR : Hid (∀ x ∈ X, 0 ≤ x ∧ x ≤ 255) := by subst hX; exact Lib.hid (bytesOf_range a.toNat)
  clear hX hY
  go_enter Try.func7, Try.ntmps7
  go_wp2_with fail
  refine (bput_any [] (.slice none 0 0) a w.heap.size w (by omega) (by decide) (Nat.le_refl _) (World.ownsRow_nil _ _ _ _)).mono ?_
  rintro e w1 ⟨v1, rfl, ho1, hb1⟩
  rw [List.nil_append, HXN.out] at ho1
  have HO1 := Lib.hid ho1
  have HB1 := Lib.hid hb1
  clear ho1 hb1
  go_wp2_with fail
  refine (bput_any [] (.slice none 0 0) b w1.heap.size w1 (by omega) (by decide) (Nat.le_refl _) (World.ownsRow_nil _ _ _ _)).mono ?_
  rintro e w2 ⟨v2, rfl, ho2, hb2⟩
  rw [List.nil_append, HYN.out] at ho2
  have ho1 := own_below HO1.out hb2 (own_block_lt HO1.out)
  obtain ⟨g1, c1, rfl, hc1, hm1, hg1, hgl1, hl1⟩ := own_bytes ho1 hP
  obtain ⟨g2, c2, rfl, hc2, hm2, hg2, hgl2, hl2⟩ := own_bytes ho2 hPY
  have K1 := conv_lies (P := Try.prog) (src := 22) (dst := 9) (cap := c1) Try.underlying22 Try.underlying5 Try.underlying9 hl1
  have K2 := conv_lies (P := Try.prog) (src := 22) (dst := 9) (cap := c2) Try.underlying22 Try.underlying5 Try.underlying9 hl2
  have HL1 := Lib.hid hl1
  have HB2 := Lib.hid (HB1.out.trans (hb2.mono HB1.out.size))
  clear ho1 ho2 hl1 hl2 hb2 HO1 HB1
  go_wp2_with fail
  go_loop [7, 8] (fun s n => ∃ S m : Nat, s = .int .i64 S ∧ n = .int .i64 m ∧ S ≤ 9 ∧ m ≤ 4294967295 ∧ S + (bytesOf m).length = X.length + 1) (fun _ n => (intOf n).toNat)
  case atStart => exact ⟨1, a.toNat, rfl, by show Value.int .i64 a = _; congr 1; omega, by omega, by omega, by rw [HXN.out]; omega⟩
  case round =>
    obtain ⟨S, m, rfl, rfl, hS, hm, hsum⟩ := hrel
    have HS := Lib.hid hsum
    clear hsum
    by_cases hlt : 128 ≤ m
    · have R := Lib.hid (show S + 1 + (bytesOf (m / 128)).length = X.length + 1 by have := HS.out; have := bytesOf_halves hlt; omega)
      have hS' : S + 1 ≤ 9 := by have := R.out; have := bytesOf_pos (m / 128); omega
      clear HS
      go_wp2_with fail
      go_round
      case rel => exact ⟨S + 1, m / 128, by simp, by simp, by omega, by omega, R.out⟩
      case measure => simp [intOf]; omega
    · have hSX : S = X.length := by have := HS.out; rw [bytesOf_small (by omega)] at this; simp at this; omega
      clear HS
      subst hSX
      go_wp2_with fail
      go_loop [9] (fun i => ∃ k : Nat, k ≤ X.length ∧ i = .int .i64 k) (fun i => X.length - (intOf i).toNat)
      case atStart => exact ⟨0, by omega, rfl⟩
      case round =>
        obtain ⟨k, hk, rfl⟩ := hrel
        by_cases hkl : k < X.length
        · have hcell := lies_cell HL1.out k (by simpa using hkl)
          have hiff := HI.out k hkl
          obtain ⟨r0, r1⟩ := HR.out X[k] (List.getElem_mem hkl)
          simp only [List.getElem_map] at hcell
          generalize X[k] = x at *
          have hcs : (128 ≤ x ∧ k + 1 < X.length) ∨ (x < 128 ∧ k + 1 = X.length) := by omega
          clear hiff
          rcases hcs with ⟨h1, h2⟩ | ⟨h1, h2⟩
          · have d2 : decide ((k : Int) < (X.length : Int) - 1) = true := decide_eq_true (by omega)
            go_wp2_with fail
            go_round
            case rel => exact ⟨k + 1, by omega, by go_num⟩
            case measure => simp [intOf]; omega
          · have d1 : decide (128 ≤ x) = false := decide_eq_false (by omega)
            have d2 : decide ((k : Int) < (X.length : Int) - 1) = false := decide_eq_false (by omega)
            go_wp2_with fail
            go_round
            case rel => exact ⟨k + 1, by omega, by go_num⟩
            case measure => simp [intOf]; omega
        · go_wp2_with (go_at_call 8; (with_reducible refine (bawake_any _).mono ?_); rintro e w6 ⟨rfl, hb⟩; have HB6 := Lib.hid (HB2.out.trans (hb.mono HB2.out.size)); clear hb)
          go_ret
          exact ⟨rfl, HB6.out⟩

theorem bitsShort_walk (a b : Int) (a0 : 0 ≤ a) (a1 : a ≤ 4294967295) (b0 : 0 ≤ b) (b1 : b ≤ 4294967295) (w : World) :
    Calls Try.prog 7 #[.int .u32 a, .int .u32 b] w fun e w' => e = .returned (.bool true) ∧ Below w.heap.size w w' := by
  have hab : a = b ∨ (¬ a = b ∧ ((strOfNums (bytesOf a.toNat)).toList == (strOfNums (bytesOf b.toNat)).toList) = false) := by
    by_cases h : a = b
    · exact .inl h
    · refine .inr ⟨h, ?_⟩
      rw [str_eq (bytesOf_range _) (bytesOf_range _), decide_eq_false]
      intro g
      have := bytesOf_inj (by omega) (by omega) g
      omega
  rcases hab with rfl | ⟨hne, hE⟩
  · obtain ⟨Y, hY⟩ : ∃ Y, bytesOf a.toNat = Y := ⟨_, rfl⟩
    exact short_eq a Y a0 a1 hY w
  · obtain ⟨Y, hY⟩ : ∃ Y, bytesOf b.toNat = Y := ⟨_, rfl⟩
    rw [hY] at hE
    exact short_ne a b Y a0 a1 b0 b1 hY hne hE w
end Go.Proofs.Ytoabaanpfhlloaa
