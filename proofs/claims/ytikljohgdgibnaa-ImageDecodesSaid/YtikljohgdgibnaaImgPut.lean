/-
  What the program's own image.Encode is made of: lists, types, classes, methods put behind bytes.
-/
import Derived.Test.YtikljohgdgibnaaImgDec
import Derived.Test.YtikljohgdgibnaaBitsLong
import Derived.Test.YtikljohgdgibnaaInst
import Derived.Test.YtikljohgdgibnaaBoxed
namespace Go.Proofs.Ytikljohgdgibnaa
set_option maxRecDepth 100000
open Go.ChangeShapes Go.WideShapes Go.ChangeAt Go.RowKit
set_option linter.unusedVariables false

theorem bput_nil (n : Int) (w : World) (hn : n ≤ 9223372036854775807) : Calls Try.prog 67 #[.slice none 0 0, .int .i64 n] w (PutOut w.heap.size (bytesOf n.toNat) w) := by
  have h := bput_lies [] none 0 n w.heap.size w hn (by simp) (Nat.le_refl _) (fun _ => rfl) Lies.nil
  simpa using h
theorem own_nil (w : World) (B : Nat) : w.ownsRow B 5 1 (.slice none 0 0) ([] : List Int).length (([] : List Int).map (Value.int .u8)) := World.ownsRow_nil _ _ _ _
theorem ilong_nil (n : Int) (w : World) (h : OkL n) : Calls Try.prog 63 #[.slice none 0 0, .int .i32 n] w (PutOut w.heap.size (encL n) w) := by
  have h := blong_any [] (.slice none 0 0) n w.heap.size w h.1 h.2 (by simp) (Nat.le_refl _) (own_nil _ _)
  simpa [encL] using h
theorem iinst_nil (i : Int × Int × Int) (w : World) (h : instrB i.1 i.2.1 i.2.2 = true) : Calls Try.prog 87 #[.slice none 0 0, insV i.1 i.2.1 i.2.2] w (PutOut w.heap.size (encI1 i) w) := by
  obtain ⟨a0, a1, b0, b1, c0, c1⟩ := instr_bounds h
  have h := iput_any [] (.slice none 0 0) i.1 i.2.1 i.2.2 w.heap.size w (by omega) (by omega) (by omega) (by simp) (Nat.le_refl _) (own_nil _ _)
  simpa [encI1] using h

/-- A type behind bytes that lie anywhere. -/
theorem iptype_any (Y : List Int) (A : Option Addr) (cap B : Nat) (t : Int × Int) (w : World) (h0 : t.1 ≤ 9223372036854775807) (h1 : t.2 ≤ 9223372036854775807) (hY : Y.length ≤ 100000) (hB : B ≤ w.heap.size)
    (hA : A = none → cap = 0) (h : Lies w w.heap.size A (Y.map (Value.int .u8))) :
    Calls Try.prog 61 #[.slice A Y.length cap, tyV t.1 t.2] w (PutOut B (Y ++ encT t) w) := by
  obtain ⟨k, n⟩ := t
  dsimp only at h0 h1 ⊢
  have hW : Below w.heap.size w (w.alloc (.cells #[.int .i64 k, .int .i64 n] 42)) := (Below.refl _ _).alloc (Nat.le_refl _) _
  have HW := Lib.hid hW
  have HL := Lib.hid ((h.below_to hW (Nat.le_refl _)).more hW.size)
  have HA := Lib.hid hA
  have HB := Lib.hid (Nat.le_trans hB hW.size)
  have HBw := Lib.hid hB
  have l9 := bytesOf_len9 (n := k.toNat) (by omega)
  have C1 : Hid (∀ w', Below (w.alloc (.cells #[.int .i64 k, .int .i64 n] 42)).heap.size (w.alloc (.cells #[.int .i64 k, .int .i64 n] 42)) w' → w'.cell? ⟨w.heap.size, 0, none⟩ = some (.int .i64 k) ∧ w'.cell? ⟨w.heap.size, 1, none⟩ = some (.int .i64 n)) :=
    Lib.hid fun w' hb => ⟨(hb.cell (p := ⟨w.heap.size, 0, none⟩) (by simp)).trans (by rw [World.cell?_alloc_at _ _ _ _ rfl]; rfl), (hb.cell (p := ⟨w.heap.size, 1, none⟩) (by simp)).trans (by rw [World.cell?_alloc_at _ _ _ _ rfl]; rfl)⟩
  clear hW h hA hB
  by_cases h3 : k = 3
  · subst h3
    obtain ⟨X, hX⟩ : ∃ X, Y ++ bytesOf (3 : Int).toNat = X := ⟨_, rfl⟩
    have hXl : X.length ≤ 100009 := by rw [← hX, List.length_append]; omega
    have HX := Lib.hid hX
    clear hX
    have E := Lib.hid (show encT (3, n) = bytesOf (3 : Int).toNat ++ bytesOf n.toNat from if_pos rfl)
    go_enter Try.func61, Try.ntmps61
    go_wp2_with (first
      | (go_at_call 67; (with_reducible refine (bput_lies Y A cap 3 _ _ (by omega) (by omega) (Nat.le_refl _) HA.out HL.out).mono ?_); rintro e w1 ⟨v1, rfl, ho, hb⟩; rw [HX.out] at ho; obtain ⟨q0, q1⟩ := C1.out _ hb; obtain ⟨A1, c1, rfl, hL1, hA1⟩ := own_slice_nil ho; have HL1 := Lib.hid hL1; have HA1 := Lib.hid hA1; have HB1 := Lib.hid hb; clear ho hb hL1 hA1)
      | (go_at_call 67; (with_reducible refine (bput_lies X A1 c1 n _ _ (by omega) (by omega) (Nat.le_refl _) HA1.out HL1.out).mono ?_); rintro e w2 ⟨v2, rfl, ho, hb⟩; have HO2 := Lib.hid ho; have HB2 := Lib.hid hb; clear ho hb))
    go_ret
    have hb2 := HB1.out.trans (HB2.out.mono HB1.out.size)
    refine ⟨v2, rfl, ?_, (HW.out.trans (hb2.mono HW.out.size)).mono HBw.out⟩
    rw [E.out, ← List.append_assoc, HX.out]
    exact own_lower HO2.out (Nat.le_trans HB.out HB1.out.size)
  · have h3' : (k == 3) = false := by simpa using h3
    have E := Lib.hid (show encT (k, n) = bytesOf k.toNat from if_neg h3)
    clear h3
    go_enter Try.func61, Try.ntmps61
    go_wp2_with (go_at_call 67; (with_reducible refine (bput_lies Y A cap k _ _ (by omega) (by omega) (Nat.le_refl _) HA.out HL.out).mono ?_); rintro e w1 ⟨v1, rfl, ho, hb⟩; obtain ⟨q0, q1⟩ := C1.out _ hb; have HO1 := Lib.hid ho; have HB1 := Lib.hid hb; clear ho hb)
    go_ret
    refine ⟨v1, rfl, ?_, (HW.out.trans (HB1.out.mono HW.out.size)).mono HBw.out⟩
    rw [E.out]
    exact own_lower HO1.out HB.out
theorem iptype_nil (t : Int × Int) (w : World) (h0 : t.1 ≤ 9223372036854775807) (h1 : t.2 ≤ 9223372036854775807) : Calls Try.prog 61 #[.slice none 0 0, tyV t.1 t.2] w (PutOut w.heap.size (encT t) w) := by
  have h := iptype_any [] none 0 w.heap.size t w h0 h1 (by simp) (Nat.le_refl _) (fun _ => rfl) Lies.nil
  simpa using h

set_option maxHeartbeats 3200000 in
theorem plTypes_any (Y : List Int) (v : Value) (l : List (Int × Int)) (A : Option Addr) (cap B B1 : Nat) (w : World) (hY : Y.length ≤ 60000) (hl : l.length ≤ 1000) (hC : 18 * l.length ≤ 40000) (hv : ∀ t ∈ l, t.1 ≤ 9223372036854775807 ∧ t.2 ≤ 9223372036854775807) (hB1 : B1 ≤ B) (hB : B ≤ w.heap.size) (h : SlcIs TyAt 2 w B1 A cap l) (ho : w.ownsRow B 5 1 v Y.length (Y.map (Value.int .u8))) :
    Calls Try.prog 60 #[v, .slice A l.length cap, .func (.func 61) #[] #[]] w (PutOut B (Y ++ (bytesOf l.length ++ l.flatMap encT)) w) := by
  obtain ⟨i0, hi, hz0, hz1, hz2⟩ := info_parts info_u8
  have hlc := h.le
  have hcm := h.cap
  have HL := Lib.hid h
  have HV := Lib.hid hv
  have HO := Lib.hid ho
  have hBw := Lib.hid hB
  have HB1 := Lib.hid hB1
  have hlen : ∀ k, ((l.take k).flatMap encT).length ≤ 40000 := fun k => Nat.le_trans (flat_len (c := 18) _ fun x hx => by
    have hx := hv x (List.mem_of_mem_take hx)
    exact encT_len hx.1 hx.2) (Nat.le_trans (Nat.mul_le_mul_left 18 (show (l.take k).length ≤ l.length by rw [List.length_take]; omega)) hC)
  have HLEN := Lib.hid hlen
  have l9 := bytesOf_len9 (n := (l.length : Int).toNat) (by omega)
  have l9p := bytesOf_pos (l.length : Int).toNat
  obtain ⟨Z0, hZ0⟩ : ∃ Z, bytesOf (l.length : Int).toNat = Z := ⟨_, rfl⟩
  rw [hZ0] at l9 l9p
  have E0 := Lib.hid hZ0
  have E : Hid (bytesOf l.length = Z0) := Lib.hid (by rw [← hZ0, Int.toNat_natCast])
  rw [E.out]
  clear h hv ho hB1 hZ0 hlen hB
  go_enter Try.func60, Try.ntmps60
  go_wp2_with (first
    | (go_at_call 67; (with_reducible refine (bput_nil (l.length : Int) _ (by omega)).mono ?_); rintro e w1 ⟨v1, rfl, ho1, hb1⟩; rw [E0.out] at ho1; obtain ⟨A1, c1, rfl, hL1, hA1⟩ := own_slice_nil ho1; have HL1 := Lib.hid hL1; have HA1 := Lib.hid hA1; have HX1 := Lib.hid (hb1.mono hBw.out); have HO1 := Lib.hid (own_below HO.out hb1 (own_block_lt HO.out)); clear ho1 hb1 hL1 hA1)
    | (at_builtin; refine append_lies rfl _ _ 31 rfl B 5 i0 (.int .u8 0) 1 Try.underlying31 hi hz0 hz1 hz2 rfl _ _ _ rfl HO1.out A1 _ c1 _ (Z0.map (Value.int .u8)) (by simp) rfl HA1.out HL1.out (u8_one _) (by unfold maxLen; omega) (by omega) (Nat.le_trans hBw.out HX1.out.size) ?_; intro v6 w6 hown hgrow; obtain ⟨ho6, hb6⟩ := app_more HX1.out HO1.out (Nat.le_trans hBw.out HX1.out.size) hown hgrow; rw [← List.length_append] at ho6; have HO6 := Lib.hid ho6; have HX6 := Lib.hid hb6; clear hown hgrow ho6 hb6))
  clear HO HO1 HX1
  go_loopw [0, 16] (fun v i wr => ∃ k : Nat, k ≤ l.length ∧ i = .int .i64 k ∧ Hid (wr.ownsRow B 5 1 v (Y ++ Z0 ++ (l.take k).flatMap encT).length ((Y ++ Z0 ++ (l.take k).flatMap encT).map (Value.int .u8))) ∧ Hid (Below B w wr)) (fun _ i _ => l.length - (intOf i).toNat)
  case atStart => exact ⟨0, by omega, rfl, by simpa using HO6, HX6⟩
  case round =>
    clear HO6 HX6
    obtain ⟨k, hk, rfl, HO, HX⟩ := hrel
    by_cases hlt : k < l.length
    · obtain ⟨ad, rfl, hab, q0, q1⟩ := (HL.out.below_to TyAt.keeps HX.out HB1.out).row.at_ hlt
      have T1 := Lib.hid (flat_take encT hlt)
      have M1 := Lib.hid (HV.out _ (List.getElem_mem hlt))
      have hlk := HLEN.out k
      have hlk1 := HLEN.out (k + 1)
      generalize l[k] = x at *
      obtain ⟨T, hT⟩ : ∃ T, (l.take k).flatMap encT = T := ⟨_, rfl⟩
      have HT := Lib.hid hT
      rw [hT] at hlk HO
      obtain ⟨Z2, hZ2⟩ : ∃ Z, encT x = Z := ⟨_, rfl⟩
      have EZ := Lib.hid hZ2
      rw [T1.out, hT, hZ2, List.length_append] at hlk1
      clear hT hZ2
      have X1 : (Y ++ Z0 ++ T).length ≤ 200000 := by simp only [List.length_append]; omega
      have HOa := Lib.hid (HO.out.alloc (.cells #[.int .i64 x.1, .int .i64 x.2] 42))
      have HXa := Lib.hid (HX.out.alloc (Nat.le_trans hBw.out HX.out.size) (.cells #[.int .i64 x.1, .int .i64 x.2] 42))
      go_wp2_with (first
        | (go_at_call 61; (with_reducible refine (iptype_nil x _ M1.out.1 M1.out.2).mono ?_); rintro e w2 ⟨v2, rfl, ho, hb⟩; rw [EZ.out] at ho; obtain ⟨A2, k2, rfl, hL2, hA2⟩ := own_slice_nil ho; have HL2 := Lib.hid hL2; have HA2 := Lib.hid hA2; have HO2 := Lib.hid (own_below HOa.out hb (own_block_lt HOa.out)); have HX2 := Lib.hid (HXa.out.trans (hb.mono (Nat.le_trans hBw.out HXa.out.size))); clear ho hb hL2 hA2)
        | (at_builtin; refine append_lies rfl _ _ 31 rfl B 5 i0 (.int .u8 0) 1 Try.underlying31 hi hz0 hz1 hz2 rfl _ _ _ rfl HO2.out A2 _ k2 _ (Z2.map (Value.int .u8)) (by simp) rfl HA2.out HL2.out (u8_one _) (by unfold maxLen; omega) (by omega) (Nat.le_trans hBw.out HX2.out.size) ?_; intro v3 w3 hown hgrow; obtain ⟨ho, hb⟩ := app_more HX2.out HO2.out (Nat.le_trans hBw.out HX2.out.size) hown hgrow; rw [← List.length_append] at ho; have HO3 := Lib.hid ho; have HX3 := Lib.hid hb; clear hown hgrow ho hb))
      go_roundw
      case rel => exact ⟨k + 1, by omega, by go_num, by rw [T1.out, EZ.out, HT.out, ← List.append_assoc]; exact HO3, HX3⟩
      case measure => simp [intOf]; omega
    · have T1 := Lib.hid (show (l.take k).flatMap encT = l.flatMap encT by rw [List.take_of_length_le (by omega)])
      rw [T1.out] at HO
      go_wp2_with fail
      go_ret
      exact ⟨_, rfl, by rw [← List.append_assoc]; exact HO.out, HX.out⟩
theorem plTypes_is {Y Z : List Int} {v : Value} {l : List (Int × Int)} {A : Option Addr} {cap B1 : Nat} {w0 w : World} (HO : Hid (w.ownsRow w0.heap.size 5 1 v Y.length (Y.map (Value.int .u8)))) (HS : Hid (SlcIs TyAt 2 w0 B1 A cap l)) (HB1 : Hid (B1 ≤ w0.heap.size)) (HX : Hid (Below w0.heap.size w0 w))
    (HY : Hid (Y.length ≤ 60000)) (HC : Hid (l.length ≤ 1000 ∧ 18 * l.length ≤ 40000)) (HV : Hid (∀ t ∈ l, t.1 ≤ 9223372036854775807 ∧ t.2 ≤ 9223372036854775807)) (E : Hid (bytesOf l.length ++ l.flatMap encT = Z)) :
    Calls Try.prog 60 #[v, .slice A l.length cap, .func (.func 61) #[] #[]] w (PutOut w0.heap.size (Y ++ Z) w) := by
  have h := plTypes_any Y v l A cap w0.heap.size B1 w HY.out HC.out.1 HC.out.2 HV.out HB1.out HX.out.size (HS.out.below_to TyAt.keeps HX.out HB1.out) HO.out
  rw [E.out] at h
  exact h

set_option maxHeartbeats 3200000 in
theorem plNums_any (Y : List Int) (v : Value) (l : List Int) (A : Option Addr) (cap B B1 : Nat) (w : World) (hY : Y.length ≤ 60000) (hl : l.length ≤ 1000) (hC : 9 * l.length ≤ 40000) (hv : ∀ t ∈ l, t ≤ 9223372036854775807) (hB1 : B1 ≤ B) (hB : B ≤ w.heap.size) (h : SlcIs IntAt 1 w B1 A cap l) (ho : w.ownsRow B 5 1 v Y.length (Y.map (Value.int .u8))) :
    Calls Try.prog 66 #[v, .slice A l.length cap, .func (.func 67) #[] #[]] w (PutOut B (Y ++ (bytesOf l.length ++ l.flatMap bytesN)) w) := by
  obtain ⟨i0, hi, hz0, hz1, hz2⟩ := info_parts info_u8
  have hlc := h.le
  have hcm := h.cap
  have HL := Lib.hid h
  have HV := Lib.hid hv
  have HO := Lib.hid ho
  have hBw := Lib.hid hB
  have HB1 := Lib.hid hB1
  have hlen : ∀ k, ((l.take k).flatMap bytesN).length ≤ 40000 := fun k => Nat.le_trans (flat_len (c := 9) _ fun x hx => by
    have hx := hv x (List.mem_of_mem_take hx)
    exact bytesOf_len9 (by omega)) (Nat.le_trans (Nat.mul_le_mul_left 9 (show (l.take k).length ≤ l.length by rw [List.length_take]; omega)) hC)
  have HLEN := Lib.hid hlen
  have l9 := bytesOf_len9 (n := (l.length : Int).toNat) (by omega)
  have l9p := bytesOf_pos (l.length : Int).toNat
  obtain ⟨Z0, hZ0⟩ : ∃ Z, bytesOf (l.length : Int).toNat = Z := ⟨_, rfl⟩
  rw [hZ0] at l9 l9p
  have E0 := Lib.hid hZ0
  have E : Hid (bytesOf l.length = Z0) := Lib.hid (by rw [← hZ0, Int.toNat_natCast])
  rw [E.out]
  clear h hv ho hB1 hZ0 hlen hB
  go_enter Try.func66, Try.ntmps66
  go_wp2_with (first
    | (go_at_call 67; (with_reducible refine (bput_nil (l.length : Int) _ (by omega)).mono ?_); rintro e w1 ⟨v1, rfl, ho1, hb1⟩; rw [E0.out] at ho1; obtain ⟨A1, c1, rfl, hL1, hA1⟩ := own_slice_nil ho1; have HL1 := Lib.hid hL1; have HA1 := Lib.hid hA1; have HX1 := Lib.hid (hb1.mono hBw.out); have HO1 := Lib.hid (own_below HO.out hb1 (own_block_lt HO.out)); clear ho1 hb1 hL1 hA1)
    | (at_builtin; refine append_lies rfl _ _ 31 rfl B 5 i0 (.int .u8 0) 1 Try.underlying31 hi hz0 hz1 hz2 rfl _ _ _ rfl HO1.out A1 _ c1 _ (Z0.map (Value.int .u8)) (by simp) rfl HA1.out HL1.out (u8_one _) (by unfold maxLen; omega) (by omega) (Nat.le_trans hBw.out HX1.out.size) ?_; intro v6 w6 hown hgrow; obtain ⟨ho6, hb6⟩ := app_more HX1.out HO1.out (Nat.le_trans hBw.out HX1.out.size) hown hgrow; rw [← List.length_append] at ho6; have HO6 := Lib.hid ho6; have HX6 := Lib.hid hb6; clear hown hgrow ho6 hb6))
  clear HO HO1 HX1
  go_loopw [0, 16] (fun v i wr => ∃ k : Nat, k ≤ l.length ∧ i = .int .i64 k ∧ Hid (wr.ownsRow B 5 1 v (Y ++ Z0 ++ (l.take k).flatMap bytesN).length ((Y ++ Z0 ++ (l.take k).flatMap bytesN).map (Value.int .u8))) ∧ Hid (Below B w wr)) (fun _ i _ => l.length - (intOf i).toNat)
  case atStart => exact ⟨0, by omega, rfl, by simpa using HO6, HX6⟩
  case round =>
    clear HO6 HX6
    obtain ⟨k, hk, rfl, HO, HX⟩ := hrel
    by_cases hlt : k < l.length
    · obtain ⟨ad, rfl, hab, q0⟩ := (HL.out.below_to IntAt.keeps HX.out HB1.out).row.at_ hlt
      have T1 := Lib.hid (flat_take bytesN hlt)
      have M1 := Lib.hid (HV.out _ (List.getElem_mem hlt))
      have hlk := HLEN.out k
      have hlk1 := HLEN.out (k + 1)
      rw [Nat.mul_one] at q0
      have q0' : wr.cell? (ad.add k) = some (.int .i64 l[k]) := q0
      clear q0
      generalize l[k] = x at *
      obtain ⟨T, hT⟩ : ∃ T, (l.take k).flatMap bytesN = T := ⟨_, rfl⟩
      have HT := Lib.hid hT
      rw [hT] at hlk HO
      obtain ⟨Z2, hZ2⟩ : ∃ Z, bytesN x = Z := ⟨_, rfl⟩
      have EZ := Lib.hid hZ2
      rw [T1.out, hT, hZ2, List.length_append] at hlk1
      clear hT hZ2
      have X1 : (Y ++ Z0 ++ T).length ≤ 200000 := by simp only [List.length_append]; omega
      have HOa := HO
      have HXa := HX
      go_wp2_with (first
        | (go_at_call 67; (with_reducible refine (bput_nil x _ M1.out).mono ?_); rintro e w2 ⟨v2, rfl, ho, hb⟩; rw [show bytesOf x.toNat = Z2 from EZ.out] at ho; obtain ⟨A2, k2, rfl, hL2, hA2⟩ := own_slice_nil ho; have HL2 := Lib.hid hL2; have HA2 := Lib.hid hA2; have HO2 := Lib.hid (own_below HOa.out hb (own_block_lt HOa.out)); have HX2 := Lib.hid (HXa.out.trans (hb.mono (Nat.le_trans hBw.out HXa.out.size))); clear ho hb hL2 hA2)
        | (at_builtin; refine append_lies rfl _ _ 31 rfl B 5 i0 (.int .u8 0) 1 Try.underlying31 hi hz0 hz1 hz2 rfl _ _ _ rfl HO2.out A2 _ k2 _ (Z2.map (Value.int .u8)) (by simp) rfl HA2.out HL2.out (u8_one _) (by unfold maxLen; omega) (by omega) (Nat.le_trans hBw.out HX2.out.size) ?_; intro v3 w3 hown hgrow; obtain ⟨ho, hb⟩ := app_more HX2.out HO2.out (Nat.le_trans hBw.out HX2.out.size) hown hgrow; rw [← List.length_append] at ho; have HO3 := Lib.hid ho; have HX3 := Lib.hid hb; clear hown hgrow ho hb))
      go_roundw
      case rel => exact ⟨k + 1, by omega, by go_num, by rw [T1.out, EZ.out, HT.out, ← List.append_assoc]; exact HO3, HX3⟩
      case measure => simp [intOf]; omega
    · have T1 := Lib.hid (show (l.take k).flatMap bytesN = l.flatMap bytesN by rw [List.take_of_length_le (by omega)])
      rw [T1.out] at HO
      go_wp2_with fail
      go_ret
      exact ⟨_, rfl, by rw [← List.append_assoc]; exact HO.out, HX.out⟩
theorem plNums_is {Y Z : List Int} {v : Value} {l : List Int} {A : Option Addr} {cap B1 : Nat} {w0 w : World} (HO : Hid (w.ownsRow w0.heap.size 5 1 v Y.length (Y.map (Value.int .u8)))) (HS : Hid (SlcIs IntAt 1 w0 B1 A cap l)) (HB1 : Hid (B1 ≤ w0.heap.size)) (HX : Hid (Below w0.heap.size w0 w))
    (HY : Hid (Y.length ≤ 60000)) (HC : Hid (l.length ≤ 1000 ∧ 9 * l.length ≤ 40000)) (HV : Hid (∀ t ∈ l, t ≤ 9223372036854775807)) (E : Hid (bytesOf l.length ++ l.flatMap bytesN = Z)) :
    Calls Try.prog 66 #[v, .slice A l.length cap, .func (.func 67) #[] #[]] w (PutOut w0.heap.size (Y ++ Z) w) := by
  have h := plNums_any Y v l A cap w0.heap.size B1 w HY.out HC.out.1 HC.out.2 HV.out HB1.out HX.out.size (HS.out.below_to IntAt.keeps HX.out HB1.out) HO.out
  rw [E.out] at h
  exact h

set_option maxHeartbeats 3200000 in
theorem plLongs_any (Y : List Int) (v : Value) (l : List Int) (A : Option Addr) (cap B B1 : Nat) (w : World) (hY : Y.length ≤ 60000) (hl : l.length ≤ 1000) (hC : 9 * l.length ≤ 40000) (hv : ∀ t ∈ l, OkL t) (hB1 : B1 ≤ B) (hB : B ≤ w.heap.size) (h : SlcIs LongAt 1 w B1 A cap l) (ho : w.ownsRow B 5 1 v Y.length (Y.map (Value.int .u8))) :
    Calls Try.prog 62 #[v, .slice A l.length cap, .func (.func 63) #[] #[]] w (PutOut B (Y ++ (bytesOf l.length ++ l.flatMap encL)) w) := by
  obtain ⟨i0, hi, hz0, hz1, hz2⟩ := info_parts info_u8
  have hlc := h.le
  have hcm := h.cap
  have HL := Lib.hid h
  have HV := Lib.hid hv
  have HO := Lib.hid ho
  have hBw := Lib.hid hB
  have HB1 := Lib.hid hB1
  have hlen : ∀ k, ((l.take k).flatMap encL).length ≤ 40000 := fun k => Nat.le_trans (flat_len (c := 9) _ fun x hx => by
    have hx := hv x (List.mem_of_mem_take hx)
    exact bytesOf_len9 (by have := zig_hi hx.1 hx.2; omega)) (Nat.le_trans (Nat.mul_le_mul_left 9 (show (l.take k).length ≤ l.length by rw [List.length_take]; omega)) hC)
  have HLEN := Lib.hid hlen
  have l9 := bytesOf_len9 (n := (l.length : Int).toNat) (by omega)
  have l9p := bytesOf_pos (l.length : Int).toNat
  obtain ⟨Z0, hZ0⟩ : ∃ Z, bytesOf (l.length : Int).toNat = Z := ⟨_, rfl⟩
  rw [hZ0] at l9 l9p
  have E0 := Lib.hid hZ0
  have E : Hid (bytesOf l.length = Z0) := Lib.hid (by rw [← hZ0, Int.toNat_natCast])
  rw [E.out]
  clear h hv ho hB1 hZ0 hlen hB
  go_enter Try.func62, Try.ntmps62
  go_wp2_with (first
    | (go_at_call 67; (with_reducible refine (bput_nil (l.length : Int) _ (by omega)).mono ?_); rintro e w1 ⟨v1, rfl, ho1, hb1⟩; rw [E0.out] at ho1; obtain ⟨A1, c1, rfl, hL1, hA1⟩ := own_slice_nil ho1; have HL1 := Lib.hid hL1; have HA1 := Lib.hid hA1; have HX1 := Lib.hid (hb1.mono hBw.out); have HO1 := Lib.hid (own_below HO.out hb1 (own_block_lt HO.out)); clear ho1 hb1 hL1 hA1)
    | (at_builtin; refine append_lies rfl _ _ 31 rfl B 5 i0 (.int .u8 0) 1 Try.underlying31 hi hz0 hz1 hz2 rfl _ _ _ rfl HO1.out A1 _ c1 _ (Z0.map (Value.int .u8)) (by simp) rfl HA1.out HL1.out (u8_one _) (by unfold maxLen; omega) (by omega) (Nat.le_trans hBw.out HX1.out.size) ?_; intro v6 w6 hown hgrow; obtain ⟨ho6, hb6⟩ := app_more HX1.out HO1.out (Nat.le_trans hBw.out HX1.out.size) hown hgrow; rw [← List.length_append] at ho6; have HO6 := Lib.hid ho6; have HX6 := Lib.hid hb6; clear hown hgrow ho6 hb6))
  clear HO HO1 HX1
  go_loopw [0, 16] (fun v i wr => ∃ k : Nat, k ≤ l.length ∧ i = .int .i64 k ∧ Hid (wr.ownsRow B 5 1 v (Y ++ Z0 ++ (l.take k).flatMap encL).length ((Y ++ Z0 ++ (l.take k).flatMap encL).map (Value.int .u8))) ∧ Hid (Below B w wr)) (fun _ i _ => l.length - (intOf i).toNat)
  case atStart => exact ⟨0, by omega, rfl, by simpa using HO6, HX6⟩
  case round =>
    clear HO6 HX6
    obtain ⟨k, hk, rfl, HO, HX⟩ := hrel
    by_cases hlt : k < l.length
    · obtain ⟨ad, rfl, hab, q0, qa, qb⟩ := (HL.out.below_to LongAt.keeps HX.out HB1.out).row.at_ hlt
      have T1 := Lib.hid (flat_take encL hlt)
      have M1 := Lib.hid (HV.out _ (List.getElem_mem hlt))
      have hlk := HLEN.out k
      have hlk1 := HLEN.out (k + 1)
      rw [Nat.mul_one] at q0
      have q0' : wr.cell? (ad.add k) = some (.int .i32 l[k]) := q0
      clear q0
      generalize l[k] = x at *
      obtain ⟨T, hT⟩ : ∃ T, (l.take k).flatMap encL = T := ⟨_, rfl⟩
      have HT := Lib.hid hT
      rw [hT] at hlk HO
      obtain ⟨Z2, hZ2⟩ : ∃ Z, encL x = Z := ⟨_, rfl⟩
      have EZ := Lib.hid hZ2
      rw [T1.out, hT, hZ2, List.length_append] at hlk1
      clear hT hZ2
      have X1 : (Y ++ Z0 ++ T).length ≤ 200000 := by simp only [List.length_append]; omega
      have HOa := HO
      have HXa := HX
      go_wp2_with (first
        | (go_at_call 63; (with_reducible refine (ilong_nil x _ M1.out).mono ?_); rintro e w2 ⟨v2, rfl, ho, hb⟩; rw [EZ.out] at ho; obtain ⟨A2, k2, rfl, hL2, hA2⟩ := own_slice_nil ho; have HL2 := Lib.hid hL2; have HA2 := Lib.hid hA2; have HO2 := Lib.hid (own_below HOa.out hb (own_block_lt HOa.out)); have HX2 := Lib.hid (HXa.out.trans (hb.mono (Nat.le_trans hBw.out HXa.out.size))); clear ho hb hL2 hA2)
        | (at_builtin; refine append_lies rfl _ _ 31 rfl B 5 i0 (.int .u8 0) 1 Try.underlying31 hi hz0 hz1 hz2 rfl _ _ _ rfl HO2.out A2 _ k2 _ (Z2.map (Value.int .u8)) (by simp) rfl HA2.out HL2.out (u8_one _) (by unfold maxLen; omega) (by omega) (Nat.le_trans hBw.out HX2.out.size) ?_; intro v3 w3 hown hgrow; obtain ⟨ho, hb⟩ := app_more HX2.out HO2.out (Nat.le_trans hBw.out HX2.out.size) hown hgrow; rw [← List.length_append] at ho; have HO3 := Lib.hid ho; have HX3 := Lib.hid hb; clear hown hgrow ho hb))
      go_roundw
      case rel => exact ⟨k + 1, by omega, by go_num, by rw [T1.out, EZ.out, HT.out, ← List.append_assoc]; exact HO3, HX3⟩
      case measure => simp [intOf]; omega
    · have T1 := Lib.hid (show (l.take k).flatMap encL = l.flatMap encL by rw [List.take_of_length_le (by omega)])
      rw [T1.out] at HO
      go_wp2_with fail
      go_ret
      exact ⟨_, rfl, by rw [← List.append_assoc]; exact HO.out, HX.out⟩
theorem plLongs_is {Y Z : List Int} {v : Value} {l : List Int} {A : Option Addr} {cap B1 : Nat} {w0 w : World} (HO : Hid (w.ownsRow w0.heap.size 5 1 v Y.length (Y.map (Value.int .u8)))) (HS : Hid (SlcIs LongAt 1 w0 B1 A cap l)) (HB1 : Hid (B1 ≤ w0.heap.size)) (HX : Hid (Below w0.heap.size w0 w))
    (HY : Hid (Y.length ≤ 60000)) (HC : Hid (l.length ≤ 1000 ∧ 9 * l.length ≤ 40000)) (HV : Hid (∀ t ∈ l, OkL t)) (E : Hid (bytesOf l.length ++ l.flatMap encL = Z)) :
    Calls Try.prog 62 #[v, .slice A l.length cap, .func (.func 63) #[] #[]] w (PutOut w0.heap.size (Y ++ Z) w) := by
  have h := plLongs_any Y v l A cap w0.heap.size B1 w HY.out HC.out.1 HC.out.2 HV.out HB1.out HX.out.size (HS.out.below_to LongAt.keeps HX.out HB1.out) HO.out
  rw [E.out] at h
  exact h

set_option maxHeartbeats 3200000 in
theorem plCode_any (Y : List Int) (v : Value) (l : List (Int × Int × Int)) (A : Option Addr) (cap B B1 : Nat) (w : World) (hY : Y.length ≤ 60000) (hl : l.length ≤ 1000) (hC : 5 * l.length ≤ 40000) (hv : ∀ t ∈ l, instrB t.1 t.2.1 t.2.2 = true) (hB1 : B1 ≤ B) (hB : B ≤ w.heap.size) (h : SlcIs CodeAt 3 w B1 A cap l) (ho : w.ownsRow B 5 1 v Y.length (Y.map (Value.int .u8))) :
    Calls Try.prog 86 #[v, .slice A l.length cap, .func (.func 87) #[] #[]] w (PutOut B (Y ++ (bytesOf l.length ++ l.flatMap encI1)) w) := by
  obtain ⟨i0, hi, hz0, hz1, hz2⟩ := info_parts info_u8
  have hlc := h.le
  have hcm := h.cap
  have HL := Lib.hid h
  have HV := Lib.hid hv
  have HO := Lib.hid ho
  have hBw := Lib.hid hB
  have HB1 := Lib.hid hB1
  have hlen : ∀ k, ((l.take k).flatMap encI1).length ≤ 40000 := fun k => Nat.le_trans (flat_len (c := 5) _ fun x hx => by
    have hx := hv x (List.mem_of_mem_take hx)
    exact encI1_len hx) (Nat.le_trans (Nat.mul_le_mul_left 5 (show (l.take k).length ≤ l.length by rw [List.length_take]; omega)) hC)
  have HLEN := Lib.hid hlen
  have l9 := bytesOf_len9 (n := (l.length : Int).toNat) (by omega)
  have l9p := bytesOf_pos (l.length : Int).toNat
  obtain ⟨Z0, hZ0⟩ : ∃ Z, bytesOf (l.length : Int).toNat = Z := ⟨_, rfl⟩
  rw [hZ0] at l9 l9p
  have E0 := Lib.hid hZ0
  have E : Hid (bytesOf l.length = Z0) := Lib.hid (by rw [← hZ0, Int.toNat_natCast])
  rw [E.out]
  clear h hv ho hB1 hZ0 hlen hB
  go_enter Try.func86, Try.ntmps86
  go_wp2_with (first
    | (go_at_call 67; (with_reducible refine (bput_nil (l.length : Int) _ (by omega)).mono ?_); rintro e w1 ⟨v1, rfl, ho1, hb1⟩; rw [E0.out] at ho1; obtain ⟨A1, c1, rfl, hL1, hA1⟩ := own_slice_nil ho1; have HL1 := Lib.hid hL1; have HA1 := Lib.hid hA1; have HX1 := Lib.hid (hb1.mono hBw.out); have HO1 := Lib.hid (own_below HO.out hb1 (own_block_lt HO.out)); clear ho1 hb1 hL1 hA1)
    | (at_builtin; refine append_lies rfl _ _ 31 rfl B 5 i0 (.int .u8 0) 1 Try.underlying31 hi hz0 hz1 hz2 rfl _ _ _ rfl HO1.out A1 _ c1 _ (Z0.map (Value.int .u8)) (by simp) rfl HA1.out HL1.out (u8_one _) (by unfold maxLen; omega) (by omega) (Nat.le_trans hBw.out HX1.out.size) ?_; intro v6 w6 hown hgrow; obtain ⟨ho6, hb6⟩ := app_more HX1.out HO1.out (Nat.le_trans hBw.out HX1.out.size) hown hgrow; rw [← List.length_append] at ho6; have HO6 := Lib.hid ho6; have HX6 := Lib.hid hb6; clear hown hgrow ho6 hb6))
  clear HO HO1 HX1
  go_loopw [0, 16] (fun v i wr => ∃ k : Nat, k ≤ l.length ∧ i = .int .i64 k ∧ Hid (wr.ownsRow B 5 1 v (Y ++ Z0 ++ (l.take k).flatMap encI1).length ((Y ++ Z0 ++ (l.take k).flatMap encI1).map (Value.int .u8))) ∧ Hid (Below B w wr)) (fun _ i _ => l.length - (intOf i).toNat)
  case atStart => exact ⟨0, by omega, rfl, by simpa using HO6, HX6⟩
  case round =>
    clear HO6 HX6
    obtain ⟨k, hk, rfl, HO, HX⟩ := hrel
    by_cases hlt : k < l.length
    · obtain ⟨ad, rfl, hab, q0, q1, q2⟩ := (HL.out.below_to CodeAt.keeps HX.out HB1.out).row.at_ hlt
      have T1 := Lib.hid (flat_take encI1 hlt)
      have M1 := Lib.hid (HV.out _ (List.getElem_mem hlt))
      have hlk := HLEN.out k
      have hlk1 := HLEN.out (k + 1)
      generalize l[k] = x at *
      obtain ⟨T, hT⟩ : ∃ T, (l.take k).flatMap encI1 = T := ⟨_, rfl⟩
      have HT := Lib.hid hT
      rw [hT] at hlk HO
      obtain ⟨Z2, hZ2⟩ : ∃ Z, encI1 x = Z := ⟨_, rfl⟩
      have EZ := Lib.hid hZ2
      rw [T1.out, hT, hZ2, List.length_append] at hlk1
      clear hT hZ2
      have X1 : (Y ++ Z0 ++ T).length ≤ 200000 := by simp only [List.length_append]; omega
      have HOa := Lib.hid (HO.out.alloc (.cells #[.int .i64 x.1, .int .i64 x.2.1, .int .i64 x.2.2] 47))
      have HXa := Lib.hid (HX.out.alloc (Nat.le_trans hBw.out HX.out.size) (.cells #[.int .i64 x.1, .int .i64 x.2.1, .int .i64 x.2.2] 47))
      go_wp2_with (first
        | (go_at_call 87; (with_reducible refine (iinst_nil x _ M1.out).mono ?_); rintro e w2 ⟨v2, rfl, ho, hb⟩; rw [EZ.out] at ho; obtain ⟨A2, k2, rfl, hL2, hA2⟩ := own_slice_nil ho; have HL2 := Lib.hid hL2; have HA2 := Lib.hid hA2; have HO2 := Lib.hid (own_below HOa.out hb (own_block_lt HOa.out)); have HX2 := Lib.hid (HXa.out.trans (hb.mono (Nat.le_trans hBw.out HXa.out.size))); clear ho hb hL2 hA2)
        | (at_builtin; refine append_lies rfl _ _ 31 rfl B 5 i0 (.int .u8 0) 1 Try.underlying31 hi hz0 hz1 hz2 rfl _ _ _ rfl HO2.out A2 _ k2 _ (Z2.map (Value.int .u8)) (by simp) rfl HA2.out HL2.out (u8_one _) (by unfold maxLen; omega) (by omega) (Nat.le_trans hBw.out HX2.out.size) ?_; intro v3 w3 hown hgrow; obtain ⟨ho, hb⟩ := app_more HX2.out HO2.out (Nat.le_trans hBw.out HX2.out.size) hown hgrow; rw [← List.length_append] at ho; have HO3 := Lib.hid ho; have HX3 := Lib.hid hb; clear hown hgrow ho hb))
      go_roundw
      case rel => exact ⟨k + 1, by omega, by go_num, by rw [T1.out, EZ.out, HT.out, ← List.append_assoc]; exact HO3, HX3⟩
      case measure => simp [intOf]; omega
    · have T1 := Lib.hid (show (l.take k).flatMap encI1 = l.flatMap encI1 by rw [List.take_of_length_le (by omega)])
      rw [T1.out] at HO
      go_wp2_with fail
      go_ret
      exact ⟨_, rfl, by rw [← List.append_assoc]; exact HO.out, HX.out⟩
theorem plCode_is {Y Z : List Int} {v : Value} {l : List (Int × Int × Int)} {A : Option Addr} {cap B1 : Nat} {w0 w : World} (HO : Hid (w.ownsRow w0.heap.size 5 1 v Y.length (Y.map (Value.int .u8)))) (HS : Hid (SlcIs CodeAt 3 w0 B1 A cap l)) (HB1 : Hid (B1 ≤ w0.heap.size)) (HX : Hid (Below w0.heap.size w0 w))
    (HY : Hid (Y.length ≤ 60000)) (HC : Hid (l.length ≤ 1000 ∧ 5 * l.length ≤ 40000)) (HV : Hid (∀ t ∈ l, instrB t.1 t.2.1 t.2.2 = true)) (E : Hid (bytesOf l.length ++ l.flatMap encI1 = Z)) :
    Calls Try.prog 86 #[v, .slice A l.length cap, .func (.func 87) #[] #[]] w (PutOut w0.heap.size (Y ++ Z) w) := by
  have h := plCode_any Y v l A cap w0.heap.size B1 w HY.out HC.out.1 HC.out.2 HV.out HB1.out HX.out.size (HS.out.below_to CodeAt.keeps HX.out HB1.out) HO.out
  rw [E.out] at h
  exact h

set_option maxHeartbeats 3200000 in
theorem iputClass_nil (c : Cls) (A1 A2 : Option Addr) (k1 k2 B1 : Nat) (w : World) (hf : ClsFits c) (hB : B1 ≤ w.heap.size) (h1 : SlcIs TyAt 2 w B1 A1 k1 c.fields) (h2 : SlcIs IntAt 1 w B1 A2 k2 c.slots) :
    Calls Try.prog 59 #[.slice none 0 0, .agg #[.int .i64 c.sup, .slice A1 c.fields.length k1, .slice A2 c.slots.length k2]] w (PutOut w.heap.size (encC c) w) := by
  have hW : Below w.heap.size w (w.alloc (.cells #[.int .i64 c.sup, .slice A1 c.fields.length k1, .slice A2 c.slots.length k2] 52)) := (Below.refl w.heap.size w).alloc (Nat.le_refl _) _
  have HW := Lib.hid hW
  have HZ2 : Hid (w.heap.size < (w.alloc (.cells #[.int .i64 c.sup, .slice A1 c.fields.length k1, .slice A2 c.slots.length k2] 52)).heap.size) := Lib.hid (by simp)
  have HBC := Lib.hid (cells_new w [.int .i64 c.sup, .slice A1 c.fields.length k1, .slice A2 c.slots.length k2] 52)
  have HB2 := Lib.hid (Nat.le_trans hB hW.size)
  have HSf := Lib.hid (h1.below_to TyAt.keeps hW hB)
  have HSs := Lib.hid (h2.below_to IntAt.keeps hW hB)
  have f0 := hf.sup0
  have f1 := hf.sup1
  have f2 := hf.fl
  have f3 := hf.sl
  have HCf : Hid (c.fields.length ≤ 1000 ∧ 18 * c.fields.length ≤ 40000) := Lib.hid ⟨by omega, by omega⟩
  have HCs : Hid (c.slots.length ≤ 1000 ∧ 9 * c.slots.length ≤ 40000) := Lib.hid ⟨by omega, by omega⟩
  have HVf : Hid (∀ t ∈ c.fields, t.1 ≤ 9223372036854775807 ∧ t.2 ≤ 9223372036854775807) := Lib.hid (fun t ht => by have := hf.ft t ht; omega)
  have HVs : Hid (∀ t ∈ c.slots, t ≤ 9223372036854775807) := Lib.hid (fun t ht => by have := hf.st t ht; omega)
  obtain ⟨Z1, hZ1⟩ : ∃ Z, bytesOf (c.sup + 1).toNat = Z := ⟨_, rfl⟩
  have lZ1 : Z1.length ≤ 9 := by
    rw [← hZ1]
    exact bytesOf_len9 (by omega)
  have E1 := Lib.hid hZ1
  obtain ⟨X1, hX1⟩ : ∃ X, ([] : List Int) ++ Z1 = X := ⟨_, rfl⟩
  have lX1 : X1.length ≤ 9 := by
    rw [← hX1, List.length_append]
    try simp only [List.length_nil]
    omega
  have HY1 : Hid (X1.length ≤ 60000) := Lib.hid (by omega)
  have EX1 := Lib.hid hX1
  obtain ⟨Z2, hZ2⟩ : ∃ Z, bytesOf c.fields.length ++ c.fields.flatMap encT = Z := ⟨_, rfl⟩
  have lZ2 : Z2.length ≤ 200 := by
    rw [← hZ2]
    have := encTs_len (l := c.fields) HVf.out (by omega); unfold encTs at this; omega
  have E2 := Lib.hid hZ2
  obtain ⟨X2, hX2⟩ : ∃ X, X1 ++ Z2 = X := ⟨_, rfl⟩
  have lX2 : X2.length ≤ 209 := by
    rw [← hX2, List.length_append]
    skip
    omega
  have HY2 : Hid (X2.length ≤ 60000) := Lib.hid (by omega)
  have EX2 := Lib.hid hX2
  obtain ⟨Z3, hZ3⟩ : ∃ Z, bytesOf c.slots.length ++ c.slots.flatMap bytesN = Z := ⟨_, rfl⟩
  have lZ3 : Z3.length ≤ 200 := by
    rw [← hZ3]
    have := encNs_len (l := c.slots) HVs.out (by omega); unfold encNs at this; omega
  have E3 := Lib.hid hZ3
  obtain ⟨X3, hX3⟩ : ∃ X, X2 ++ Z3 = X := ⟨_, rfl⟩
  have lX3 : X3.length ≤ 409 := by
    rw [← hX3, List.length_append]
    skip
    omega
  have HY3 : Hid (X3.length ≤ 60000) := Lib.hid (by omega)
  have EX3 := Lib.hid hX3
  have EF : Hid (encC c = X3) := Lib.hid (by
    rw [← hX3, ← hX2, ← hX1]
    rw [← hZ1, ← hZ2, ← hZ3]
    unfold encC encTs encNs; simp)
  clear hf hW hB hZ1 hX1 hZ2 hX2 hZ3 hX3 h1 h2
  go_enter Try.func59, Try.ntmps59
  go_upto_region 1 with fail
  generalize w.alloc (.cells #[.int .i64 c.sup, .slice A1 c.fields.length k1, .slice A2 c.slots.length k2] 52) = w2 at *
  have HX2 : Hid (Below w2.heap.size w2 w2) := Lib.hid (Below.refl _ _)
  have r0 := HBC.out 0 _ rfl
  have r1 := HBC.out 1 _ rfl
  have r2 := HBC.out 2 _ rfl
  go_wp2_with (first
    | (go_at_call 67; (with_reducible refine (bput_nil (c.sup + 1) _ (by omega)).mono ?_); rintro e w' ⟨v1, rfl, ho, hb⟩; rw [E1.out, show Z1 = X1 from EX1.out] at ho; have HX2 := Lib.hid (HX2.out.trans hb); have HO1 := Lib.hid ho; have r0 := (HBC.out.keep HX2.out HZ2.out) 0 _ rfl; have r1 := (HBC.out.keep HX2.out HZ2.out) 1 _ rfl; have r2 := (HBC.out.keep HX2.out HZ2.out) 2 _ rfl; clear ho hb)
    | (go_at_call 60; (with_reducible refine (plTypes_is HO1 HSf HB2 HX2 HY1 HCf HVf E2).mono ?_); rintro e w' ⟨v2, rfl, ho, hb⟩; rw [EX2.out] at ho; have HX2 := Lib.hid (HX2.out.trans hb); have HO2 := Lib.hid ho; have r0 := (HBC.out.keep HX2.out HZ2.out) 0 _ rfl; have r1 := (HBC.out.keep HX2.out HZ2.out) 1 _ rfl; have r2 := (HBC.out.keep HX2.out HZ2.out) 2 _ rfl; clear ho hb)
    | (go_at_call 66; (with_reducible refine (plNums_is HO2 HSs HB2 HX2 HY2 HCs HVs E3).mono ?_); rintro e w' ⟨v3, rfl, ho, hb⟩; rw [EX3.out] at ho; have HX2 := Lib.hid (HX2.out.trans hb); have HO3 := Lib.hid ho; have r0 := (HBC.out.keep HX2.out HZ2.out) 0 _ rfl; have r1 := (HBC.out.keep HX2.out HZ2.out) 1 _ rfl; have r2 := (HBC.out.keep HX2.out HZ2.out) 2 _ rfl; clear ho hb))
  go_ret
  exact ⟨_, rfl, by rw [EF.out]; exact own_lower HO3.out HW.out.size, HW.out.trans (HX2.out.mono HW.out.size)⟩

set_option maxHeartbeats 3200000 in
theorem plClasses_any (Y : List Int) (ad0 : Addr) (l : List Cls) (A : Option Addr) (cap B1 : Nat) (w : World) (hY : Y.length ≤ 60000) (hl : l.length ≤ 1000) (hC : 250 * l.length ≤ 40000) (hv : ∀ t ∈ l, ClsFits t) (hB1 : B1 ≤ w.heap.size) (h : SlcIs ClsAt 3 w B1 A cap l) (ho : Lies w w.heap.size (some ad0) (Y.map (Value.int .u8))) :
    Calls Try.prog 58 #[.slice (some ad0) Y.length Y.length, .slice A l.length cap, .func (.func 59) #[] #[]] w (PutOut w.heap.size (Y ++ (bytesOf l.length ++ l.flatMap encC)) w) := by
  obtain ⟨i0, hi, hz0, hz1, hz2⟩ := info_parts info_u8
  have hlc := h.le
  have hcm := h.cap
  have HL := Lib.hid h
  have HV := Lib.hid hv
  have HO := Lib.hid ho
  have hBw : Hid (w.heap.size ≤ w.heap.size) := Lib.hid (Nat.le_refl _)
  have HB1 := Lib.hid hB1
  have hlen : ∀ k, ((l.take k).flatMap encC).length ≤ 40000 := fun k => Nat.le_trans (flat_len (c := 250) _ fun x hx => by
    have hx := hv x (List.mem_of_mem_take hx)
    exact encC_len hx) (Nat.le_trans (Nat.mul_le_mul_left 250 (show (l.take k).length ≤ l.length by rw [List.length_take]; omega)) hC)
  have HLEN := Lib.hid hlen
  have l9 := bytesOf_len9 (n := (l.length : Int).toNat) (by omega)
  have l9p := bytesOf_pos (l.length : Int).toNat
  obtain ⟨Z0, hZ0⟩ : ∃ Z, bytesOf (l.length : Int).toNat = Z := ⟨_, rfl⟩
  rw [hZ0] at l9 l9p
  have E0 := Lib.hid hZ0
  have E : Hid (bytesOf l.length = Z0) := Lib.hid (by rw [← hZ0, Int.toNat_natCast])
  rw [E.out]
  clear h hv ho hB1 hZ0 hlen
  go_enter Try.func58, Try.ntmps58
  go_wp2_with (first
    | (go_at_call 67; (with_reducible refine (bput_nil (l.length : Int) _ (by omega)).mono ?_); rintro e w1 ⟨v1, rfl, ho1, hb1⟩; rw [E0.out] at ho1; obtain ⟨g1, c1, rfl, hL1⟩ := own_some ho1 l9p; have HL1 := Lib.hid (lies_addr hL1); have HX1 := Lib.hid hb1; have HO1 := Lib.hid (HO.out.below_to hb1 (Nat.le_refl _)); clear ho1 hb1 hL1)
    | (at_builtin; refine wpList_append_grows _ rfl _ _ 31 rfl 5 i0 (.int .u8 0) 1 1 Try.underlying31 hi hz0 hz1 hz2 rfl (by decide) (some ad0) Y.length Y.length (Y.map (Value.int .u8)) rfl (fun h => by cases h) (by simp) (fun b hb => by injection hb with hb; subst hb; exact lies_addr HO1.out) ⟨g1, 0, none⟩ _ c1 (Z0.map (Value.int .u8)) rfl (by simp) HL1.out (u8_one _) (by omega) (by unfold maxLen; omega) (by omega) ?_; intro v6 w6 hown hgrow; have HO6 : Hid (w6.ownsRow w.heap.size 5 1 v6 (Y ++ Z0).length ((Y ++ Z0).map (Value.int .u8))) := Lib.hid (by have h := own_lower hown HX1.out.size; simpa using h); have HX6 := Lib.hid (HX1.out.grown hgrow HX1.out.size (fun k hk => by cases hk)); clear hown hgrow))
  clear HO HO1 HX1
  go_loopw [0, 16] (fun v i wr => ∃ k : Nat, k ≤ l.length ∧ i = .int .i64 k ∧ Hid (wr.ownsRow w.heap.size 5 1 v (Y ++ Z0 ++ (l.take k).flatMap encC).length ((Y ++ Z0 ++ (l.take k).flatMap encC).map (Value.int .u8))) ∧ Hid (Below w.heap.size w wr)) (fun _ i _ => l.length - (intOf i).toNat)
  case atStart => exact ⟨0, by omega, rfl, by simpa using HO6, HX6⟩
  case round =>
    clear HO6 HX6
    obtain ⟨k, hk, rfl, HO, HX⟩ := hrel
    by_cases hlt : k < l.length
    · obtain ⟨ad, rfl, hab, s0, ⟨A1, k1, s1, hs1⟩, ⟨A2, k2, s2, hs2⟩, hrg⟩ := (HL.out.below_to ClsAt.keeps HX.out HB1.out).row.at_ hlt
      have T1 := Lib.hid (flat_take encC hlt)
      have M1 := Lib.hid (HV.out _ (List.getElem_mem hlt))
      have hlk := HLEN.out k
      have hlk1 := HLEN.out (k + 1)
      generalize l[k] = x at *
      obtain ⟨T, hT⟩ : ∃ T, (l.take k).flatMap encC = T := ⟨_, rfl⟩
      have HT := Lib.hid hT
      rw [hT] at hlk HO
      obtain ⟨Z2, hZ2⟩ : ∃ Z, encC x = Z := ⟨_, rfl⟩
      have EZ := Lib.hid hZ2
      rw [T1.out, hT, hZ2, List.length_append] at hlk1
      clear hT hZ2
      have X1 : (Y ++ Z0 ++ T).length ≤ 200000 := by simp only [List.length_append]; omega
      have HOa := Lib.hid (HO.out.alloc (.cells #[.int .i64 x.sup, .slice A1 x.fields.length k1, .slice A2 x.slots.length k2] 52))
      have HXa := Lib.hid (HX.out.alloc (Nat.le_trans hBw.out HX.out.size) (.cells #[.int .i64 x.sup, .slice A1 x.fields.length k1, .slice A2 x.slots.length k2] 52))
      have hBr : B1 ≤ wr.heap.size := Nat.le_trans HB1.out HX.out.size
      have HBr2 : Hid (B1 ≤ (wr.alloc (.cells #[.int .i64 x.sup, .slice A1 x.fields.length k1, .slice A2 x.slots.length k2] 52)).heap.size) := Lib.hid (Nat.le_trans hBr (by simp))
      have HSf := Lib.hid (hs1.below_to TyAt.keeps ((Below.refl wr.heap.size wr).alloc (Nat.le_refl _) (.cells #[.int .i64 x.sup, .slice A1 x.fields.length k1, .slice A2 x.slots.length k2] 52)) hBr)
      have HSs := Lib.hid (hs2.below_to IntAt.keeps ((Below.refl wr.heap.size wr).alloc (Nat.le_refl _) (.cells #[.int .i64 x.sup, .slice A1 x.fields.length k1, .slice A2 x.slots.length k2] 52)) hBr)
      clear hBr hs1 hs2
      go_wp2_with (first
        | (go_at_call 59; (with_reducible refine (iputClass_nil x A1 A2 k1 k2 B1 _ M1.out HBr2.out HSf.out HSs.out).mono ?_); rintro e w2 ⟨v2, rfl, ho, hb⟩; rw [EZ.out] at ho; obtain ⟨A2, k2, rfl, hL2, hA2⟩ := own_slice_nil ho; have HL2 := Lib.hid hL2; have HA2 := Lib.hid hA2; have HO2 := Lib.hid (own_below HOa.out hb (own_block_lt HOa.out)); have HX2 := Lib.hid (HXa.out.trans (hb.mono (Nat.le_trans hBw.out HXa.out.size))); clear ho hb hL2 hA2)
        | (at_builtin; refine append_lies rfl _ _ 31 rfl w.heap.size 5 i0 (.int .u8 0) 1 Try.underlying31 hi hz0 hz1 hz2 rfl _ _ _ rfl HO2.out A2 _ k2 _ (Z2.map (Value.int .u8)) (by simp) rfl HA2.out HL2.out (u8_one _) (by unfold maxLen; omega) (by omega) (Nat.le_trans hBw.out HX2.out.size) ?_; intro v3 w3 hown hgrow; obtain ⟨ho, hb⟩ := app_more HX2.out HO2.out (Nat.le_trans hBw.out HX2.out.size) hown hgrow; rw [← List.length_append] at ho; have HO3 := Lib.hid ho; have HX3 := Lib.hid hb; clear hown hgrow ho hb))
      go_roundw
      case rel => exact ⟨k + 1, by omega, by go_num, by rw [T1.out, EZ.out, HT.out, ← List.append_assoc]; exact HO3, HX3⟩
      case measure => simp [intOf]; omega
    · have T1 := Lib.hid (show (l.take k).flatMap encC = l.flatMap encC by rw [List.take_of_length_le (by omega)])
      rw [T1.out] at HO
      go_wp2_with fail
      go_ret
      exact ⟨_, rfl, by rw [← List.append_assoc]; exact HO.out, HX.out⟩

set_option maxHeartbeats 6400000 in
theorem iputMethod_nil (x : Mth) (A0 A1 A4 A7 : Option Addr) (k0 k1 k4 k7 B1 : Nat) (w : World) (hf : MthFits x) (hB : B1 ≤ w.heap.size) (h0 : SlcIs TyAt 2 w B1 A0 k0 x.args) (h1 : SlcIs TyAt 2 w B1 A1 k1 x.locals) (h4 : SlcIs CodeAt 3 w B1 A4 k4 x.code) (h7 : SlcIs IntAt 1 w B1 A7 k7 x.phi) :
    Calls Try.prog 65 #[.slice none 0 0, .agg #[.slice A0 x.args.length k0, .slice A1 x.locals.length k1, .int .i64 x.ret.1, .int .i64 x.ret.2, .slice A4 x.code.length k4, .int .i64 x.depth, .int .i64 x.pot, .slice A7 x.phi.length k7]] w (PutOut w.heap.size (encM x) w) := by
  have hW : Below w.heap.size w (w.alloc (.cells #[.slice A0 x.args.length k0, .slice A1 x.locals.length k1, .int .i64 x.ret.1, .int .i64 x.ret.2, .slice A4 x.code.length k4, .int .i64 x.depth, .int .i64 x.pot, .slice A7 x.phi.length k7] 45)) := (Below.refl w.heap.size w).alloc (Nat.le_refl _) _
  have HW := Lib.hid hW
  have HZ2 : Hid (w.heap.size < (w.alloc (.cells #[.slice A0 x.args.length k0, .slice A1 x.locals.length k1, .int .i64 x.ret.1, .int .i64 x.ret.2, .slice A4 x.code.length k4, .int .i64 x.depth, .int .i64 x.pot, .slice A7 x.phi.length k7] 45)).heap.size) := Lib.hid (by simp)
  have HBC := Lib.hid (cells_new w [.slice A0 x.args.length k0, .slice A1 x.locals.length k1, .int .i64 x.ret.1, .int .i64 x.ret.2, .slice A4 x.code.length k4, .int .i64 x.depth, .int .i64 x.pot, .slice A7 x.phi.length k7] 45)
  have HB2 := Lib.hid (Nat.le_trans hB hW.size)
  have HSa := Lib.hid (h0.below_to TyAt.keeps hW hB)
  have HSl := Lib.hid (h1.below_to TyAt.keeps hW hB)
  have HSc := Lib.hid (h4.below_to CodeAt.keeps hW hB)
  have HSp := Lib.hid (h7.below_to IntAt.keeps hW hB)
  have f0 := hf.al
  have f1 := hf.ll
  have f2 := hf.cl
  have f3 := hf.pl
  have f4 := hf.d1
  have f5 := hf.p1
  have f6 := hf.rt
  have HCa : Hid (x.args.length ≤ 1000 ∧ 18 * x.args.length ≤ 40000) := Lib.hid ⟨by omega, by omega⟩
  have HCl : Hid (x.locals.length ≤ 1000 ∧ 18 * x.locals.length ≤ 40000) := Lib.hid ⟨by omega, by omega⟩
  have HCc : Hid (x.code.length ≤ 1000 ∧ 5 * x.code.length ≤ 40000) := Lib.hid ⟨by omega, by omega⟩
  have HCp : Hid (x.phi.length ≤ 1000 ∧ 9 * x.phi.length ≤ 40000) := Lib.hid ⟨by omega, by omega⟩
  have HVa : Hid (∀ t ∈ x.args, t.1 ≤ 9223372036854775807 ∧ t.2 ≤ 9223372036854775807) := Lib.hid (fun t ht => by have := hf.at_ t ht; omega)
  have HVl : Hid (∀ t ∈ x.locals, t.1 ≤ 9223372036854775807 ∧ t.2 ≤ 9223372036854775807) := Lib.hid (fun t ht => by have := hf.lt t ht; omega)
  have HVc : Hid (∀ t ∈ x.code, instrB t.1 t.2.1 t.2.2 = true) := Lib.hid hf.ct
  have HVp : Hid (∀ t ∈ x.phi, t ≤ 9223372036854775807) := Lib.hid (fun t ht => by have := hf.pt t ht; omega)
  obtain ⟨Z1, hZ1⟩ : ∃ Z, bytesOf x.args.length ++ x.args.flatMap encT = Z := ⟨_, rfl⟩
  have lZ1 : Z1.length ≤ 200 := by
    rw [← hZ1]
    have := encTs_len (l := x.args) HVa.out (by omega); unfold encTs at this; omega
  have E1 := Lib.hid hZ1
  obtain ⟨X1, hX1⟩ : ∃ X, ([] : List Int) ++ Z1 = X := ⟨_, rfl⟩
  have lX1 : X1.length ≤ 200 := by
    rw [← hX1, List.length_append]
    try simp only [List.length_nil]
    omega
  have HY1 : Hid (X1.length ≤ 60000) := Lib.hid (by omega)
  have EX1 := Lib.hid hX1
  obtain ⟨Z2, hZ2⟩ : ∃ Z, bytesOf x.locals.length ++ x.locals.flatMap encT = Z := ⟨_, rfl⟩
  have lZ2 : Z2.length ≤ 200 := by
    rw [← hZ2]
    have := encTs_len (l := x.locals) HVl.out (by omega); unfold encTs at this; omega
  have E2 := Lib.hid hZ2
  obtain ⟨X2, hX2⟩ : ∃ X, X1 ++ Z2 = X := ⟨_, rfl⟩
  have lX2 : X2.length ≤ 400 := by
    rw [← hX2, List.length_append]
    skip
    omega
  have HY2 : Hid (X2.length ≤ 60000) := Lib.hid (by omega)
  have EX2 := Lib.hid hX2
  obtain ⟨Z3, hZ3⟩ : ∃ Z, encT x.ret = Z := ⟨_, rfl⟩
  have lZ3 : Z3.length ≤ 18 := by
    rw [← hZ3]
    exact encT_len (by omega) (by omega)
  have E3 := Lib.hid hZ3
  obtain ⟨X3, hX3⟩ : ∃ X, X2 ++ Z3 = X := ⟨_, rfl⟩
  have lX3 : X3.length ≤ 418 := by
    rw [← hX3, List.length_append]
    skip
    omega
  have HY3 : Hid (X3.length ≤ 60000) := Lib.hid (by omega)
  have EX3 := Lib.hid hX3
  obtain ⟨Z4, hZ4⟩ : ∃ Z, bytesOf x.code.length ++ x.code.flatMap encI1 = Z := ⟨_, rfl⟩
  have lZ4 : Z4.length ≤ 400 := by
    rw [← hZ4]
    have := flat_len (f := encI1) (c := 5) x.code fun i hi => encI1_len (HVc.out i hi); have := bytesOf_len9 (n := x.code.length) (by omega); rw [List.length_append]; omega
  have E4 := Lib.hid hZ4
  obtain ⟨X4, hX4⟩ : ∃ X, X3 ++ Z4 = X := ⟨_, rfl⟩
  have lX4 : X4.length ≤ 818 := by
    rw [← hX4, List.length_append]
    skip
    omega
  have HY4 : Hid (X4.length ≤ 60000) := Lib.hid (by omega)
  have EX4 := Lib.hid hX4
  obtain ⟨Z5, hZ5⟩ : ∃ Z, bytesOf x.depth.toNat = Z := ⟨_, rfl⟩
  have lZ5 : Z5.length ≤ 9 := by
    rw [← hZ5]
    exact bytesOf_len9 (by omega)
  have E5 := Lib.hid hZ5
  obtain ⟨X5, hX5⟩ : ∃ X, X4 ++ Z5 = X := ⟨_, rfl⟩
  have lX5 : X5.length ≤ 827 := by
    rw [← hX5, List.length_append]
    skip
    omega
  have HY5 : Hid (X5.length ≤ 60000) := Lib.hid (by omega)
  have EX5 := Lib.hid hX5
  obtain ⟨Z6, hZ6⟩ : ∃ Z, bytesOf x.pot.toNat = Z := ⟨_, rfl⟩
  have lZ6 : Z6.length ≤ 9 := by
    rw [← hZ6]
    exact bytesOf_len9 (by omega)
  have E6 := Lib.hid hZ6
  obtain ⟨X6, hX6⟩ : ∃ X, X5 ++ Z6 = X := ⟨_, rfl⟩
  have lX6 : X6.length ≤ 836 := by
    rw [← hX6, List.length_append]
    skip
    omega
  have HY6 : Hid (X6.length ≤ 60000) := Lib.hid (by omega)
  have EX6 := Lib.hid hX6
  obtain ⟨Z7, hZ7⟩ : ∃ Z, bytesOf x.phi.length ++ x.phi.flatMap bytesN = Z := ⟨_, rfl⟩
  have lZ7 : Z7.length ≤ 600 := by
    rw [← hZ7]
    have := encNs_len (l := x.phi) HVp.out (by omega); unfold encNs at this; omega
  have E7 := Lib.hid hZ7
  obtain ⟨X7, hX7⟩ : ∃ X, X6 ++ Z7 = X := ⟨_, rfl⟩
  have lX7 : X7.length ≤ 1436 := by
    rw [← hX7, List.length_append]
    skip
    omega
  have HY7 : Hid (X7.length ≤ 60000) := Lib.hid (by omega)
  have EX7 := Lib.hid hX7
  have EF : Hid (encM x = X7) := Lib.hid (by
    rw [← hX7, ← hX6, ← hX5, ← hX4, ← hX3, ← hX2, ← hX1]
    rw [← hZ1, ← hZ2, ← hZ3, ← hZ4, ← hZ5, ← hZ6, ← hZ7]
    unfold encM encTs encNs; simp)
  clear hf hW hB hZ1 hX1 hZ2 hX2 hZ3 hX3 hZ4 hX4 hZ5 hX5 hZ6 hX6 hZ7 hX7 h0 h1 h4 h7
  go_enter Try.func65, Try.ntmps65
  go_upto_region 1 with fail
  generalize w.alloc (.cells #[.slice A0 x.args.length k0, .slice A1 x.locals.length k1, .int .i64 x.ret.1, .int .i64 x.ret.2, .slice A4 x.code.length k4, .int .i64 x.depth, .int .i64 x.pot, .slice A7 x.phi.length k7] 45) = w2 at *
  have HX2 : Hid (Below w2.heap.size w2 w2) := Lib.hid (Below.refl _ _)
  have HO0 := Lib.hid (own_nil w2 w2.heap.size)
  have HY0 : Hid (([] : List Int).length ≤ 60000) := Lib.hid (by simp)
  have r0 := HBC.out 0 _ rfl
  have r1 := HBC.out 1 _ rfl
  have r2 := HBC.out 2 _ rfl
  have r3 := HBC.out 3 _ rfl
  have r4 := HBC.out 4 _ rfl
  have r5 := HBC.out 5 _ rfl
  have r6 := HBC.out 6 _ rfl
  have r7 := HBC.out 7 _ rfl
  go_wp2_with (first
    | (go_at_call 60; (with_reducible refine (plTypes_is HO0 HSa HB2 HX2 HY0 HCa HVa E1).mono ?_); rintro e w' ⟨v1, rfl, ho, hb⟩; rw [EX1.out] at ho; have HX2 := Lib.hid (HX2.out.trans hb); have HO1 := Lib.hid ho; have r0 := (HBC.out.keep HX2.out HZ2.out) 0 _ rfl; have r1 := (HBC.out.keep HX2.out HZ2.out) 1 _ rfl; have r2 := (HBC.out.keep HX2.out HZ2.out) 2 _ rfl; have r3 := (HBC.out.keep HX2.out HZ2.out) 3 _ rfl; have r4 := (HBC.out.keep HX2.out HZ2.out) 4 _ rfl; have r5 := (HBC.out.keep HX2.out HZ2.out) 5 _ rfl; have r6 := (HBC.out.keep HX2.out HZ2.out) 6 _ rfl; have r7 := (HBC.out.keep HX2.out HZ2.out) 7 _ rfl; clear ho hb)
    | (go_at_call 60; (with_reducible refine (plTypes_is HO1 HSl HB2 HX2 HY1 HCl HVl E2).mono ?_); rintro e w' ⟨v2, rfl, ho, hb⟩; rw [EX2.out] at ho; have HX2 := Lib.hid (HX2.out.trans hb); obtain ⟨A2x, c2x, rfl, hLx, hAx⟩ := own_slice_nil ho; have HLx := Lib.hid hLx; have HAx := Lib.hid hAx; clear hLx hAx; have HO2 := Lib.hid ho; have r0 := (HBC.out.keep HX2.out HZ2.out) 0 _ rfl; have r1 := (HBC.out.keep HX2.out HZ2.out) 1 _ rfl; have r2 := (HBC.out.keep HX2.out HZ2.out) 2 _ rfl; have r3 := (HBC.out.keep HX2.out HZ2.out) 3 _ rfl; have r4 := (HBC.out.keep HX2.out HZ2.out) 4 _ rfl; have r5 := (HBC.out.keep HX2.out HZ2.out) 5 _ rfl; have r6 := (HBC.out.keep HX2.out HZ2.out) 6 _ rfl; have r7 := (HBC.out.keep HX2.out HZ2.out) 7 _ rfl; clear ho hb)
    | (go_at_call 61; (with_reducible refine (iptype_any X2 A2x c2x w2.heap.size x.ret _ (by omega) (by omega) (by omega) HX2.out.size HAx.out HLx.out).mono ?_); rintro e w' ⟨v3, rfl, ho, hb⟩; rw [E3.out, EX3.out] at ho; have HX2 := Lib.hid (HX2.out.trans hb); have HO3 := Lib.hid ho; have r0 := (HBC.out.keep HX2.out HZ2.out) 0 _ rfl; have r1 := (HBC.out.keep HX2.out HZ2.out) 1 _ rfl; have r2 := (HBC.out.keep HX2.out HZ2.out) 2 _ rfl; have r3 := (HBC.out.keep HX2.out HZ2.out) 3 _ rfl; have r4 := (HBC.out.keep HX2.out HZ2.out) 4 _ rfl; have r5 := (HBC.out.keep HX2.out HZ2.out) 5 _ rfl; have r6 := (HBC.out.keep HX2.out HZ2.out) 6 _ rfl; have r7 := (HBC.out.keep HX2.out HZ2.out) 7 _ rfl; clear ho hb)
    | (go_at_call 86; (with_reducible refine (plCode_is HO3 HSc HB2 HX2 HY3 HCc HVc E4).mono ?_); rintro e w' ⟨v4, rfl, ho, hb⟩; rw [EX4.out] at ho; have HX2 := Lib.hid (HX2.out.trans hb); have HO4 := Lib.hid ho; have r0 := (HBC.out.keep HX2.out HZ2.out) 0 _ rfl; have r1 := (HBC.out.keep HX2.out HZ2.out) 1 _ rfl; have r2 := (HBC.out.keep HX2.out HZ2.out) 2 _ rfl; have r3 := (HBC.out.keep HX2.out HZ2.out) 3 _ rfl; have r4 := (HBC.out.keep HX2.out HZ2.out) 4 _ rfl; have r5 := (HBC.out.keep HX2.out HZ2.out) 5 _ rfl; have r6 := (HBC.out.keep HX2.out HZ2.out) 6 _ rfl; have r7 := (HBC.out.keep HX2.out HZ2.out) 7 _ rfl; clear ho hb)
    | (go_at_call 67; (with_reducible refine (bput_any X4 _ x.depth w2.heap.size _ (by omega) (by omega) HX2.out.size HO4.out).mono ?_); rintro e w' ⟨v5, rfl, ho, hb⟩; rw [E5.out, EX5.out] at ho; have HX2 := Lib.hid (HX2.out.trans hb); have HO5 := Lib.hid ho; have r0 := (HBC.out.keep HX2.out HZ2.out) 0 _ rfl; have r1 := (HBC.out.keep HX2.out HZ2.out) 1 _ rfl; have r2 := (HBC.out.keep HX2.out HZ2.out) 2 _ rfl; have r3 := (HBC.out.keep HX2.out HZ2.out) 3 _ rfl; have r4 := (HBC.out.keep HX2.out HZ2.out) 4 _ rfl; have r5 := (HBC.out.keep HX2.out HZ2.out) 5 _ rfl; have r6 := (HBC.out.keep HX2.out HZ2.out) 6 _ rfl; have r7 := (HBC.out.keep HX2.out HZ2.out) 7 _ rfl; clear ho hb)
    | (go_at_call 67; (with_reducible refine (bput_any X5 _ x.pot w2.heap.size _ (by omega) (by omega) HX2.out.size HO5.out).mono ?_); rintro e w' ⟨v6, rfl, ho, hb⟩; rw [E6.out, EX6.out] at ho; have HX2 := Lib.hid (HX2.out.trans hb); have HO6 := Lib.hid ho; have r0 := (HBC.out.keep HX2.out HZ2.out) 0 _ rfl; have r1 := (HBC.out.keep HX2.out HZ2.out) 1 _ rfl; have r2 := (HBC.out.keep HX2.out HZ2.out) 2 _ rfl; have r3 := (HBC.out.keep HX2.out HZ2.out) 3 _ rfl; have r4 := (HBC.out.keep HX2.out HZ2.out) 4 _ rfl; have r5 := (HBC.out.keep HX2.out HZ2.out) 5 _ rfl; have r6 := (HBC.out.keep HX2.out HZ2.out) 6 _ rfl; have r7 := (HBC.out.keep HX2.out HZ2.out) 7 _ rfl; clear ho hb)
    | (go_at_call 66; (with_reducible refine (plNums_is HO6 HSp HB2 HX2 HY6 HCp HVp E7).mono ?_); rintro e w' ⟨v7, rfl, ho, hb⟩; rw [EX7.out] at ho; have HX2 := Lib.hid (HX2.out.trans hb); have HO7 := Lib.hid ho; have r0 := (HBC.out.keep HX2.out HZ2.out) 0 _ rfl; have r1 := (HBC.out.keep HX2.out HZ2.out) 1 _ rfl; have r2 := (HBC.out.keep HX2.out HZ2.out) 2 _ rfl; have r3 := (HBC.out.keep HX2.out HZ2.out) 3 _ rfl; have r4 := (HBC.out.keep HX2.out HZ2.out) 4 _ rfl; have r5 := (HBC.out.keep HX2.out HZ2.out) 5 _ rfl; have r6 := (HBC.out.keep HX2.out HZ2.out) 6 _ rfl; have r7 := (HBC.out.keep HX2.out HZ2.out) 7 _ rfl; clear ho hb))
  go_ret
  exact ⟨_, rfl, by rw [EF.out]; exact own_lower HO7.out HW.out.size, HW.out.trans (HX2.out.mono HW.out.size)⟩

set_option maxHeartbeats 3200000 in
theorem plMethods_any (Y : List Int) (v : Value) (l : List Mth) (A : Option Addr) (cap B B1 : Nat) (w : World) (hY : Y.length ≤ 60000) (hl : l.length ≤ 1000) (hC : 1500 * l.length ≤ 40000) (hv : ∀ t ∈ l, MthFits t) (hB1 : B1 ≤ B) (hB : B ≤ w.heap.size) (h : SlcIs MthAt 8 w B1 A cap l) (ho : w.ownsRow B 5 1 v Y.length (Y.map (Value.int .u8))) :
    Calls Try.prog 64 #[v, .slice A l.length cap, .func (.func 65) #[] #[]] w (PutOut B (Y ++ (bytesOf l.length ++ l.flatMap encM)) w) := by
  obtain ⟨i0, hi, hz0, hz1, hz2⟩ := info_parts info_u8
  have hlc := h.le
  have hcm := h.cap
  have HL := Lib.hid h
  have HV := Lib.hid hv
  have HO := Lib.hid ho
  have hBw := Lib.hid hB
  have HB1 := Lib.hid hB1
  have hlen : ∀ k, ((l.take k).flatMap encM).length ≤ 40000 := fun k => Nat.le_trans (flat_len (c := 1500) _ fun x hx => by
    have hx := hv x (List.mem_of_mem_take hx)
    exact encM_len hx) (Nat.le_trans (Nat.mul_le_mul_left 1500 (show (l.take k).length ≤ l.length by rw [List.length_take]; omega)) hC)
  have HLEN := Lib.hid hlen
  have l9 := bytesOf_len9 (n := (l.length : Int).toNat) (by omega)
  have l9p := bytesOf_pos (l.length : Int).toNat
  obtain ⟨Z0, hZ0⟩ : ∃ Z, bytesOf (l.length : Int).toNat = Z := ⟨_, rfl⟩
  rw [hZ0] at l9 l9p
  have E0 := Lib.hid hZ0
  have E : Hid (bytesOf l.length = Z0) := Lib.hid (by rw [← hZ0, Int.toNat_natCast])
  rw [E.out]
  clear h hv ho hB1 hZ0 hlen hB
  go_enter Try.func64, Try.ntmps64
  go_wp2_with (first
    | (go_at_call 67; (with_reducible refine (bput_nil (l.length : Int) _ (by omega)).mono ?_); rintro e w1 ⟨v1, rfl, ho1, hb1⟩; rw [E0.out] at ho1; obtain ⟨A1, c1, rfl, hL1, hA1⟩ := own_slice_nil ho1; have HL1 := Lib.hid hL1; have HA1 := Lib.hid hA1; have HX1 := Lib.hid (hb1.mono hBw.out); have HO1 := Lib.hid (own_below HO.out hb1 (own_block_lt HO.out)); clear ho1 hb1 hL1 hA1)
    | (at_builtin; refine append_lies rfl _ _ 31 rfl B 5 i0 (.int .u8 0) 1 Try.underlying31 hi hz0 hz1 hz2 rfl _ _ _ rfl HO1.out A1 _ c1 _ (Z0.map (Value.int .u8)) (by simp) rfl HA1.out HL1.out (u8_one _) (by unfold maxLen; omega) (by omega) (Nat.le_trans hBw.out HX1.out.size) ?_; intro v6 w6 hown hgrow; obtain ⟨ho6, hb6⟩ := app_more HX1.out HO1.out (Nat.le_trans hBw.out HX1.out.size) hown hgrow; rw [← List.length_append] at ho6; have HO6 := Lib.hid ho6; have HX6 := Lib.hid hb6; clear hown hgrow ho6 hb6))
  clear HO HO1 HX1
  go_loopw [0, 16] (fun v i wr => ∃ k : Nat, k ≤ l.length ∧ i = .int .i64 k ∧ Hid (wr.ownsRow B 5 1 v (Y ++ Z0 ++ (l.take k).flatMap encM).length ((Y ++ Z0 ++ (l.take k).flatMap encM).map (Value.int .u8))) ∧ Hid (Below B w wr)) (fun _ i _ => l.length - (intOf i).toNat)
  case atStart => exact ⟨0, by omega, rfl, by simpa using HO6, HX6⟩
  case round =>
    clear HO6 HX6
    obtain ⟨k, hk, rfl, HO, HX⟩ := hrel
    by_cases hlt : k < l.length
    · obtain ⟨ad, rfl, hab, ⟨A0, k0, s0, hs0⟩, ⟨A1, k1, s1, hs1⟩, s2, s3, ⟨A4, k4, s4, hs4⟩, s5, s6, ⟨A7, k7, s7, hs7⟩⟩ := (HL.out.below_to MthAt.keeps HX.out HB1.out).row.at_ hlt
      have T1 := Lib.hid (flat_take encM hlt)
      have M1 := Lib.hid (HV.out _ (List.getElem_mem hlt))
      have hlk := HLEN.out k
      have hlk1 := HLEN.out (k + 1)
      generalize l[k] = x at *
      obtain ⟨T, hT⟩ : ∃ T, (l.take k).flatMap encM = T := ⟨_, rfl⟩
      have HT := Lib.hid hT
      rw [hT] at hlk HO
      obtain ⟨Z2, hZ2⟩ : ∃ Z, encM x = Z := ⟨_, rfl⟩
      have EZ := Lib.hid hZ2
      rw [T1.out, hT, hZ2, List.length_append] at hlk1
      clear hT hZ2
      have X1 : (Y ++ Z0 ++ T).length ≤ 200000 := by simp only [List.length_append]; omega
      have HOa := Lib.hid (HO.out.alloc (.cells #[.slice A0 x.args.length k0, .slice A1 x.locals.length k1, .int .i64 x.ret.1, .int .i64 x.ret.2, .slice A4 x.code.length k4, .int .i64 x.depth, .int .i64 x.pot, .slice A7 x.phi.length k7] 45))
      have HXa := Lib.hid (HX.out.alloc (Nat.le_trans hBw.out HX.out.size) (.cells #[.slice A0 x.args.length k0, .slice A1 x.locals.length k1, .int .i64 x.ret.1, .int .i64 x.ret.2, .slice A4 x.code.length k4, .int .i64 x.depth, .int .i64 x.pot, .slice A7 x.phi.length k7] 45))
      have hBr : B1 ≤ wr.heap.size := Nat.le_trans (Nat.le_trans HB1.out hBw.out) HX.out.size
      have HBr2 : Hid (B1 ≤ (wr.alloc (.cells #[.slice A0 x.args.length k0, .slice A1 x.locals.length k1, .int .i64 x.ret.1, .int .i64 x.ret.2, .slice A4 x.code.length k4, .int .i64 x.depth, .int .i64 x.pot, .slice A7 x.phi.length k7] 45)).heap.size) := Lib.hid (Nat.le_trans hBr (by simp))
      have HSa := Lib.hid (hs0.below_to TyAt.keeps ((Below.refl wr.heap.size wr).alloc (Nat.le_refl _) (.cells #[.slice A0 x.args.length k0, .slice A1 x.locals.length k1, .int .i64 x.ret.1, .int .i64 x.ret.2, .slice A4 x.code.length k4, .int .i64 x.depth, .int .i64 x.pot, .slice A7 x.phi.length k7] 45)) hBr)
      have HSl := Lib.hid (hs1.below_to TyAt.keeps ((Below.refl wr.heap.size wr).alloc (Nat.le_refl _) (.cells #[.slice A0 x.args.length k0, .slice A1 x.locals.length k1, .int .i64 x.ret.1, .int .i64 x.ret.2, .slice A4 x.code.length k4, .int .i64 x.depth, .int .i64 x.pot, .slice A7 x.phi.length k7] 45)) hBr)
      have HSc := Lib.hid (hs4.below_to CodeAt.keeps ((Below.refl wr.heap.size wr).alloc (Nat.le_refl _) (.cells #[.slice A0 x.args.length k0, .slice A1 x.locals.length k1, .int .i64 x.ret.1, .int .i64 x.ret.2, .slice A4 x.code.length k4, .int .i64 x.depth, .int .i64 x.pot, .slice A7 x.phi.length k7] 45)) hBr)
      have HSp := Lib.hid (hs7.below_to IntAt.keeps ((Below.refl wr.heap.size wr).alloc (Nat.le_refl _) (.cells #[.slice A0 x.args.length k0, .slice A1 x.locals.length k1, .int .i64 x.ret.1, .int .i64 x.ret.2, .slice A4 x.code.length k4, .int .i64 x.depth, .int .i64 x.pot, .slice A7 x.phi.length k7] 45)) hBr)
      clear hBr hs0 hs1 hs4 hs7
      go_wp2_with (first
        | (go_at_call 65; (with_reducible refine (iputMethod_nil x A0 A1 A4 A7 k0 k1 k4 k7 B1 _ M1.out HBr2.out HSa.out HSl.out HSc.out HSp.out).mono ?_); rintro e w2 ⟨v2, rfl, ho, hb⟩; rw [EZ.out] at ho; obtain ⟨A2, k2, rfl, hL2, hA2⟩ := own_slice_nil ho; have HL2 := Lib.hid hL2; have HA2 := Lib.hid hA2; have HO2 := Lib.hid (own_below HOa.out hb (own_block_lt HOa.out)); have HX2 := Lib.hid (HXa.out.trans (hb.mono (Nat.le_trans hBw.out HXa.out.size))); clear ho hb hL2 hA2)
        | (at_builtin; refine append_lies rfl _ _ 31 rfl B 5 i0 (.int .u8 0) 1 Try.underlying31 hi hz0 hz1 hz2 rfl _ _ _ rfl HO2.out A2 _ k2 _ (Z2.map (Value.int .u8)) (by simp) rfl HA2.out HL2.out (u8_one _) (by unfold maxLen; omega) (by omega) (Nat.le_trans hBw.out HX2.out.size) ?_; intro v3 w3 hown hgrow; obtain ⟨ho, hb⟩ := app_more HX2.out HO2.out (Nat.le_trans hBw.out HX2.out.size) hown hgrow; rw [← List.length_append] at ho; have HO3 := Lib.hid ho; have HX3 := Lib.hid hb; clear hown hgrow ho hb))
      go_roundw
      case rel => exact ⟨k + 1, by omega, by go_num, by rw [T1.out, EZ.out, HT.out, ← List.append_assoc]; exact HO3, HX3⟩
      case measure => simp [intOf]; omega
    · have T1 := Lib.hid (show (l.take k).flatMap encM = l.flatMap encM by rw [List.take_of_length_le (by omega)])
      rw [T1.out] at HO
      go_wp2_with fail
      go_ret
      exact ⟨_, rfl, by rw [← List.append_assoc]; exact HO.out, HX.out⟩
theorem plMethods_is {Y Z : List Int} {v : Value} {l : List Mth} {A : Option Addr} {cap B1 : Nat} {w0 w : World} (HO : Hid (w.ownsRow w0.heap.size 5 1 v Y.length (Y.map (Value.int .u8)))) (HS : Hid (SlcIs MthAt 8 w0 B1 A cap l)) (HB1 : Hid (B1 ≤ w0.heap.size)) (HX : Hid (Below w0.heap.size w0 w))
    (HY : Hid (Y.length ≤ 60000)) (HC : Hid (l.length ≤ 1000 ∧ 1500 * l.length ≤ 40000)) (HV : Hid (∀ t ∈ l, MthFits t)) (E : Hid (bytesOf l.length ++ l.flatMap encM = Z)) :
    Calls Try.prog 64 #[v, .slice A l.length cap, .func (.func 65) #[] #[]] w (PutOut w0.heap.size (Y ++ Z) w) := by
  have h := plMethods_any Y v l A cap w0.heap.size B1 w HY.out HC.out.1 HC.out.2 HV.out HB1.out HX.out.size (HS.out.below_to MthAt.keeps HX.out HB1.out) HO.out
  rw [E.out] at h
  exact h

set_option maxHeartbeats 6400000 in
theorem iputImage_any (Y : List Int) (ad0 : Addr) (m : Img) (h : Hnd) (B1 : Nat) (w : World) (hY : Y.length ≤ 1000) (hf : OkImg m) (hB : B1 ≤ w.heap.size) (H : ImgIn w B1 h m) (ho : Lies w w.heap.size (some ad0) (Y.map (Value.int .u8))) :
    Calls Try.prog 18 #[.slice (some ad0) Y.length Y.length, imgV h m] w (PutOut w.heap.size (Y ++ (bytesOf m.classes.length ++ (m.classes.flatMap encC ++ (encTs m.statics ++ (bytesOf m.ints.length ++ (m.ints.flatMap encL ++ (bytesOf m.methods.length ++ (m.methods.flatMap encM ++ (encNs m.entries ++ (bytesOf m.stack.toNat ++ bytesOf m.heap.toNat)))))))))) w) := by
  have hW : Below w.heap.size w (w.alloc (.cells #[.slice h.A0 m.classes.length h.c0, .slice h.A1 m.statics.length h.c1, .slice h.A2 m.ints.length h.c2, .slice h.A3 m.methods.length h.c3, .slice h.A4 m.entries.length h.c4, .int .i64 m.stack, .int .i64 m.heap] 28)) := (Below.refl w.heap.size w).alloc (Nat.le_refl _) _
  have HW := Lib.hid hW
  have HZ2 : Hid (w.heap.size < (w.alloc (.cells #[.slice h.A0 m.classes.length h.c0, .slice h.A1 m.statics.length h.c1, .slice h.A2 m.ints.length h.c2, .slice h.A3 m.methods.length h.c3, .slice h.A4 m.entries.length h.c4, .int .i64 m.stack, .int .i64 m.heap] 28)).heap.size) := Lib.hid (by simp)
  have HBC := Lib.hid (cells_new w [.slice h.A0 m.classes.length h.c0, .slice h.A1 m.statics.length h.c1, .slice h.A2 m.ints.length h.c2, .slice h.A3 m.methods.length h.c3, .slice h.A4 m.entries.length h.c4, .int .i64 m.stack, .int .i64 m.heap] 28)
  have HB2 := Lib.hid (Nat.le_trans hB hW.size)
  have F := imgFits hf.1
  have f0 := F.cl
  have f1 := F.sl
  have f2 := F.il
  have f3 := F.ml
  have f4 := F.el
  have f5 := F.k1
  have f6 := F.h1
  have HM := Lib.hid (H.below_to hW hB)
  have HS0 := Lib.hid HM.out.classes
  have HS1 := Lib.hid HM.out.statics
  have HS2 := Lib.hid HM.out.ints
  have HS3 := Lib.hid HM.out.methods
  have HS4 := Lib.hid HM.out.entries
  have HPL := Lib.hid ((ho.below_to hW (Nat.le_refl _)).more hW.size)
  have HC1 : Hid (m.statics.length ≤ 1000 ∧ 18 * m.statics.length ≤ 40000) := Lib.hid ⟨by omega, by omega⟩
  have HC2 : Hid (m.ints.length ≤ 1000 ∧ 9 * m.ints.length ≤ 40000) := Lib.hid ⟨by omega, by omega⟩
  have HC3 : Hid (m.methods.length ≤ 1000 ∧ 1500 * m.methods.length ≤ 40000) := Lib.hid ⟨by omega, by omega⟩
  have HC4 : Hid (m.entries.length ≤ 1000 ∧ 9 * m.entries.length ≤ 40000) := Lib.hid ⟨by omega, by omega⟩
  have HV0 : Hid (∀ t ∈ m.classes, ClsFits t) := Lib.hid F.ct
  have HV1 : Hid (∀ t ∈ m.statics, t.1 ≤ 9223372036854775807 ∧ t.2 ≤ 9223372036854775807) := Lib.hid (fun t ht => by have := F.st t ht; omega)
  have HV2 : Hid (∀ t ∈ m.ints, OkL t) := Lib.hid hf.2
  have HV3 : Hid (∀ t ∈ m.methods, MthFits t) := Lib.hid F.mt
  have HV4 : Hid (∀ t ∈ m.entries, t ≤ 9223372036854775807) := Lib.hid (fun t ht => by have := F.et t ht; omega)
  obtain ⟨Z1, hZ1⟩ : ∃ Z, bytesOf m.classes.length ++ m.classes.flatMap encC = Z := ⟨_, rfl⟩
  have lZ1 : Z1.length ≤ 2100 := by
    rw [← hZ1]
    have := flat_len (f := encC) (c := 250) m.classes fun c hc => encC_len (HV0.out c hc); have := bytesOf_len9 (n := m.classes.length) (by omega); rw [List.length_append]; omega
  have E1 := Lib.hid hZ1
  obtain ⟨X1, hX1⟩ : ∃ X, Y ++ Z1 = X := ⟨_, rfl⟩
  have lX1 : X1.length ≤ 3100 := by
    rw [← hX1, List.length_append]
    skip
    omega
  have HY1 : Hid (X1.length ≤ 60000) := Lib.hid (by omega)
  have EX1 := Lib.hid hX1
  obtain ⟨Z2, hZ2⟩ : ∃ Z, bytesOf m.statics.length ++ m.statics.flatMap encT = Z := ⟨_, rfl⟩
  have lZ2 : Z2.length ≤ 200 := by
    rw [← hZ2]
    have := encTs_len (l := m.statics) HV1.out (by omega); unfold encTs at this; omega
  have E2 := Lib.hid hZ2
  obtain ⟨X2, hX2⟩ : ∃ X, X1 ++ Z2 = X := ⟨_, rfl⟩
  have lX2 : X2.length ≤ 3300 := by
    rw [← hX2, List.length_append]
    skip
    omega
  have HY2 : Hid (X2.length ≤ 60000) := Lib.hid (by omega)
  have EX2 := Lib.hid hX2
  obtain ⟨Z3, hZ3⟩ : ∃ Z, bytesOf m.ints.length ++ m.ints.flatMap encL = Z := ⟨_, rfl⟩
  have lZ3 : Z3.length ≤ 200 := by
    rw [← hZ3]
    have := flat_len (f := encL) (c := 9) m.ints fun n hn => bytesOf_len9 (by have := HV2.out n hn; have := zig_hi this.1 this.2; omega); have := bytesOf_len9 (n := m.ints.length) (by omega); rw [List.length_append]; omega
  have E3 := Lib.hid hZ3
  obtain ⟨X3, hX3⟩ : ∃ X, X2 ++ Z3 = X := ⟨_, rfl⟩
  have lX3 : X3.length ≤ 3500 := by
    rw [← hX3, List.length_append]
    skip
    omega
  have HY3 : Hid (X3.length ≤ 60000) := Lib.hid (by omega)
  have EX3 := Lib.hid hX3
  obtain ⟨Z4, hZ4⟩ : ∃ Z, bytesOf m.methods.length ++ m.methods.flatMap encM = Z := ⟨_, rfl⟩
  have lZ4 : Z4.length ≤ 18100 := by
    rw [← hZ4]
    have := flat_len (f := encM) (c := 1500) m.methods fun c hc => encM_len (HV3.out c hc); have := bytesOf_len9 (n := m.methods.length) (by omega); rw [List.length_append]; omega
  have E4 := Lib.hid hZ4
  obtain ⟨X4, hX4⟩ : ∃ X, X3 ++ Z4 = X := ⟨_, rfl⟩
  have lX4 : X4.length ≤ 21600 := by
    rw [← hX4, List.length_append]
    skip
    omega
  have HY4 : Hid (X4.length ≤ 60000) := Lib.hid (by omega)
  have EX4 := Lib.hid hX4
  obtain ⟨Z5, hZ5⟩ : ∃ Z, bytesOf m.entries.length ++ m.entries.flatMap bytesN = Z := ⟨_, rfl⟩
  have lZ5 : Z5.length ≤ 200 := by
    rw [← hZ5]
    have := encNs_len (l := m.entries) HV4.out (by omega); unfold encNs at this; omega
  have E5 := Lib.hid hZ5
  obtain ⟨X5, hX5⟩ : ∃ X, X4 ++ Z5 = X := ⟨_, rfl⟩
  have lX5 : X5.length ≤ 21800 := by
    rw [← hX5, List.length_append]
    skip
    omega
  have HY5 : Hid (X5.length ≤ 60000) := Lib.hid (by omega)
  have EX5 := Lib.hid hX5
  obtain ⟨Z6, hZ6⟩ : ∃ Z, bytesOf m.stack.toNat = Z := ⟨_, rfl⟩
  have lZ6 : Z6.length ≤ 9 := by
    rw [← hZ6]
    exact bytesOf_len9 (by omega)
  have E6 := Lib.hid hZ6
  obtain ⟨X6, hX6⟩ : ∃ X, X5 ++ Z6 = X := ⟨_, rfl⟩
  have lX6 : X6.length ≤ 21809 := by
    rw [← hX6, List.length_append]
    skip
    omega
  have HY6 : Hid (X6.length ≤ 60000) := Lib.hid (by omega)
  have EX6 := Lib.hid hX6
  obtain ⟨Z7, hZ7⟩ : ∃ Z, bytesOf m.heap.toNat = Z := ⟨_, rfl⟩
  have lZ7 : Z7.length ≤ 9 := by
    rw [← hZ7]
    exact bytesOf_len9 (by omega)
  have E7 := Lib.hid hZ7
  obtain ⟨X7, hX7⟩ : ∃ X, X6 ++ Z7 = X := ⟨_, rfl⟩
  have lX7 : X7.length ≤ 21818 := by
    rw [← hX7, List.length_append]
    skip
    omega
  have HY7 : Hid (X7.length ≤ 60000) := Lib.hid (by omega)
  have EX7 := Lib.hid hX7
  have EF : Hid (Y ++ (bytesOf m.classes.length ++ (m.classes.flatMap encC ++ (encTs m.statics ++ (bytesOf m.ints.length ++ (m.ints.flatMap encL ++ (bytesOf m.methods.length ++ (m.methods.flatMap encM ++ (encNs m.entries ++ (bytesOf m.stack.toNat ++ bytesOf m.heap.toNat))))))))) = X7) := Lib.hid (by
    rw [← hX7, ← hX6, ← hX5, ← hX4, ← hX3, ← hX2, ← hX1]
    rw [← hZ1, ← hZ2, ← hZ3, ← hZ4, ← hZ5, ← hZ6, ← hZ7]
    unfold encTs encNs; simp)
  clear F hf H ho hW hB hZ1 hX1 hZ2 hX2 hZ3 hX3 hZ4 hX4 hZ5 hX5 hZ6 hX6 hZ7 hX7 
  go_enter Try.func18, Try.ntmps18
  go_upto_region 1 with fail
  generalize w.alloc (.cells #[.slice h.A0 m.classes.length h.c0, .slice h.A1 m.statics.length h.c1, .slice h.A2 m.ints.length h.c2, .slice h.A3 m.methods.length h.c3, .slice h.A4 m.entries.length h.c4, .int .i64 m.stack, .int .i64 m.heap] 28) = w2 at *
  have HX2 : Hid (Below w2.heap.size w2 w2) := Lib.hid (Below.refl _ _)
  have r0 := HBC.out 0 _ rfl
  have r1 := HBC.out 1 _ rfl
  have r2 := HBC.out 2 _ rfl
  have r3 := HBC.out 3 _ rfl
  have r4 := HBC.out 4 _ rfl
  have r5 := HBC.out 5 _ rfl
  have r6 := HBC.out 6 _ rfl
  go_wp2_with (first
    | (go_at_call 58; (with_reducible refine (plClasses_any Y ad0 m.classes h.A0 h.c0 B1 _ (by omega) (by omega) (by omega) HV0.out HB2.out HS0.out HPL.out).mono ?_); rintro e w' ⟨v1, rfl, ho, hb⟩; rw [E1.out, EX1.out] at ho; have HX2 := Lib.hid (HX2.out.trans hb); have HO1 := Lib.hid ho; have r0 := (HBC.out.keep HX2.out HZ2.out) 0 _ rfl; have r1 := (HBC.out.keep HX2.out HZ2.out) 1 _ rfl; have r2 := (HBC.out.keep HX2.out HZ2.out) 2 _ rfl; have r3 := (HBC.out.keep HX2.out HZ2.out) 3 _ rfl; have r4 := (HBC.out.keep HX2.out HZ2.out) 4 _ rfl; have r5 := (HBC.out.keep HX2.out HZ2.out) 5 _ rfl; have r6 := (HBC.out.keep HX2.out HZ2.out) 6 _ rfl; clear ho hb)
    | (go_at_call 60; (with_reducible refine (plTypes_is HO1 HS1 HB2 HX2 HY1 HC1 HV1 E2).mono ?_); rintro e w' ⟨v2, rfl, ho, hb⟩; rw [EX2.out] at ho; have HX2 := Lib.hid (HX2.out.trans hb); have HO2 := Lib.hid ho; have r0 := (HBC.out.keep HX2.out HZ2.out) 0 _ rfl; have r1 := (HBC.out.keep HX2.out HZ2.out) 1 _ rfl; have r2 := (HBC.out.keep HX2.out HZ2.out) 2 _ rfl; have r3 := (HBC.out.keep HX2.out HZ2.out) 3 _ rfl; have r4 := (HBC.out.keep HX2.out HZ2.out) 4 _ rfl; have r5 := (HBC.out.keep HX2.out HZ2.out) 5 _ rfl; have r6 := (HBC.out.keep HX2.out HZ2.out) 6 _ rfl; clear ho hb)
    | (go_at_call 62; (with_reducible refine (plLongs_is HO2 HS2 HB2 HX2 HY2 HC2 HV2 E3).mono ?_); rintro e w' ⟨v3, rfl, ho, hb⟩; rw [EX3.out] at ho; have HX2 := Lib.hid (HX2.out.trans hb); have HO3 := Lib.hid ho; have r0 := (HBC.out.keep HX2.out HZ2.out) 0 _ rfl; have r1 := (HBC.out.keep HX2.out HZ2.out) 1 _ rfl; have r2 := (HBC.out.keep HX2.out HZ2.out) 2 _ rfl; have r3 := (HBC.out.keep HX2.out HZ2.out) 3 _ rfl; have r4 := (HBC.out.keep HX2.out HZ2.out) 4 _ rfl; have r5 := (HBC.out.keep HX2.out HZ2.out) 5 _ rfl; have r6 := (HBC.out.keep HX2.out HZ2.out) 6 _ rfl; clear ho hb)
    | (go_at_call 64; (with_reducible refine (plMethods_is HO3 HS3 HB2 HX2 HY3 HC3 HV3 E4).mono ?_); rintro e w' ⟨v4, rfl, ho, hb⟩; rw [EX4.out] at ho; have HX2 := Lib.hid (HX2.out.trans hb); have HO4 := Lib.hid ho; have r0 := (HBC.out.keep HX2.out HZ2.out) 0 _ rfl; have r1 := (HBC.out.keep HX2.out HZ2.out) 1 _ rfl; have r2 := (HBC.out.keep HX2.out HZ2.out) 2 _ rfl; have r3 := (HBC.out.keep HX2.out HZ2.out) 3 _ rfl; have r4 := (HBC.out.keep HX2.out HZ2.out) 4 _ rfl; have r5 := (HBC.out.keep HX2.out HZ2.out) 5 _ rfl; have r6 := (HBC.out.keep HX2.out HZ2.out) 6 _ rfl; clear ho hb)
    | (go_at_call 66; (with_reducible refine (plNums_is HO4 HS4 HB2 HX2 HY4 HC4 HV4 E5).mono ?_); rintro e w' ⟨v5, rfl, ho, hb⟩; rw [EX5.out] at ho; have HX2 := Lib.hid (HX2.out.trans hb); have HO5 := Lib.hid ho; have r0 := (HBC.out.keep HX2.out HZ2.out) 0 _ rfl; have r1 := (HBC.out.keep HX2.out HZ2.out) 1 _ rfl; have r2 := (HBC.out.keep HX2.out HZ2.out) 2 _ rfl; have r3 := (HBC.out.keep HX2.out HZ2.out) 3 _ rfl; have r4 := (HBC.out.keep HX2.out HZ2.out) 4 _ rfl; have r5 := (HBC.out.keep HX2.out HZ2.out) 5 _ rfl; have r6 := (HBC.out.keep HX2.out HZ2.out) 6 _ rfl; clear ho hb)
    | (go_at_call 67; (with_reducible refine (bput_any X5 _ m.stack w2.heap.size _ (by omega) (by omega) HX2.out.size HO5.out).mono ?_); rintro e w' ⟨v6, rfl, ho, hb⟩; rw [E6.out, EX6.out] at ho; have HX2 := Lib.hid (HX2.out.trans hb); have HO6 := Lib.hid ho; have r0 := (HBC.out.keep HX2.out HZ2.out) 0 _ rfl; have r1 := (HBC.out.keep HX2.out HZ2.out) 1 _ rfl; have r2 := (HBC.out.keep HX2.out HZ2.out) 2 _ rfl; have r3 := (HBC.out.keep HX2.out HZ2.out) 3 _ rfl; have r4 := (HBC.out.keep HX2.out HZ2.out) 4 _ rfl; have r5 := (HBC.out.keep HX2.out HZ2.out) 5 _ rfl; have r6 := (HBC.out.keep HX2.out HZ2.out) 6 _ rfl; clear ho hb)
    | (go_at_call 67; (with_reducible refine (bput_any X6 _ m.heap w2.heap.size _ (by omega) (by omega) HX2.out.size HO6.out).mono ?_); rintro e w' ⟨v7, rfl, ho, hb⟩; rw [E7.out, EX7.out] at ho; have HX2 := Lib.hid (HX2.out.trans hb); have HO7 := Lib.hid ho; have r0 := (HBC.out.keep HX2.out HZ2.out) 0 _ rfl; have r1 := (HBC.out.keep HX2.out HZ2.out) 1 _ rfl; have r2 := (HBC.out.keep HX2.out HZ2.out) 2 _ rfl; have r3 := (HBC.out.keep HX2.out HZ2.out) 3 _ rfl; have r4 := (HBC.out.keep HX2.out HZ2.out) 4 _ rfl; have r5 := (HBC.out.keep HX2.out HZ2.out) 5 _ rfl; have r6 := (HBC.out.keep HX2.out HZ2.out) 6 _ rfl; clear ho hb))
  go_ret
  exact ⟨_, rfl, by rw [EF.out]; exact own_lower HO7.out HW.out.size, HW.out.trans (HX2.out.mono HW.out.size)⟩
end Go.Proofs.Ytikljohgdgibnaa
