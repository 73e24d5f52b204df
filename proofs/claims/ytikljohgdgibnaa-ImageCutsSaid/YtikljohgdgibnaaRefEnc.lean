/-
  What the document's own answers for types and numbers as bytes (one, several, numbers) come to: slices of the call's own that hold their bytes.
-/
import Derived.Test.YtikljohgdgibnaaBytes
import Derived.Test.YtikljohgdgibnaaRow
import Derived.Test.YtikljohgdgibnaaConv
import Derived.Deep.RegionHeld3
namespace Go.Proofs.Ytikljohgdgibnaa
set_option maxRecDepth 100000
open Go.ChangeShapes Go.WideShapes Go.ChangeAt Go.RowKit
set_option linter.unusedVariables false
set_option linter.unusedSimpArgs false

/-- A type's bytes; several types'; several numbers'. -/
def encT (t : Int × Int) : List Int := if t.1 = 3 then bytesOf 3 ++ bytesOf t.2.toNat else bytesOf t.1.toNat
def encTs (l : List (Int × Int)) : List Int := bytesOf l.length ++ l.flatMap encT
abbrev bytesN (n : Int) : List Int := bytesOf n.toNat
def encNs (l : List Int) : List Int := bytesOf l.length ++ l.flatMap bytesN
theorem encT_len {t : Int × Int} (h0 : t.1 ≤ 9223372036854775807) (h1 : t.2 ≤ 9223372036854775807) : (encT t).length ≤ 18 := by
  have l0 := bytesOf_len9 (n := t.1.toNat) (by omega)
  have l1 := bytesOf_len9 (n := t.2.toNat) (by omega)
  have l3 := bytesOf_len9 (n := 3) (by omega)
  unfold encT
  split
  · rw [List.length_append]; omega
  · omega
theorem flat_take {α : Type} {l : List α} {k : Nat} (f : α → List Int) (h : k < l.length) : (l.take (k + 1)).flatMap f = (l.take k).flatMap f ++ f l[k] := by
  rw [List.take_add_one, List.getElem?_eq_getElem h]
  simp only [Option.toList, List.flatMap_append, List.flatMap_cons, List.flatMap_nil, List.append_nil]
theorem flat_len {α : Type} {f : α → List Int} {c : Nat} : ∀ l : List α, (∀ x ∈ l, (f x).length ≤ c) → (l.flatMap f).length ≤ c * l.length
  | [], _ => by simp
  | x :: r, h => by
    have h1 := h x List.mem_cons_self
    have h2 := flat_len r fun y hy => h y (List.mem_cons_of_mem _ hy)
    rw [List.flatMap_cons, List.length_append, List.length_cons, Nat.mul_add]
    omega

/-- The cells of a struct of two just made, behind whatever leaves them alone. -/
theorem two_cells {w w1 : World} {x y : Value} {T : TypeId} (hb : Below (w.alloc (.cells #[x, y] T)).heap.size (w.alloc (.cells #[x, y] T)) w1) :
    w1.cell? ⟨w.heap.size, 0, none⟩ = some x ∧ w1.cell? ⟨w.heap.size, 1, none⟩ = some y := by
  have hs : w.heap.size < (w.alloc (.cells #[x, y] T)).heap.size := by simp
  refine ⟨(hb.cell hs).trans ?_, (hb.cell hs).trans ?_⟩ <;> (rw [World.cell?_alloc_at _ _ _ _ rfl]; rfl)

theorem rbytes_call {n : Int} {w0 w : World} (h1 : n ≤ 9223372036854775807) (HB : Hid (Below w0.heap.size w0 w)) :
    Calls Try.prog 33 #[.int .i64 n] w fun e w' => ∃ A c, e = .returned (.slice A (bytesOf n.toNat).length c) ∧ (A = none → c = 0) ∧ Lies w' w'.heap.size A ((bytesOf n.toNat).map (Value.int .u8)) ∧
      w'.ownsRow w0.heap.size 5 1 (.slice A (bytesOf n.toNat).length c) (bytesOf n.toNat).length ((bytesOf n.toNat).map (Value.int .u8)) ∧ Below w.heap.size w w' := by
  refine (rbytes_any n h1 w).mono ?_
  rintro e w' ⟨v, rfl, ho, hb⟩
  obtain ⟨A, c, rfl, hL, hA⟩ := own_slice_nil ho
  exact ⟨A, c, rfl, hA, hL, own_lower ho HB.out.size, hb⟩

theorem rone_any (t : Int × Int) (h0 : t.1 ≤ 9223372036854775807) (h1 : t.2 ≤ 9223372036854775807) (w : World) : Calls Try.prog 37 #[tyV t.1 t.2] w (OwnBytes (encT t) w) := by
  obtain ⟨i0, hi, hz0, hz1, hz2⟩ := info_parts info_u8
  obtain ⟨k, n⟩ := t
  dsimp only at h0 h1 ⊢
  have HW := Lib.hid ((Below.refl w.heap.size w).alloc (Nat.le_refl _) (.cells #[.int .i64 k, .int .i64 n] 42))
  by_cases h3 : k = 3
  · subst h3
    have E := Lib.hid (show encT (3, n) = bytesOf (3 : Int).toNat ++ bytesOf n.toNat from if_pos rfl)
    rw [E.out]
    have l3 := bytesOf_len9 (n := (3 : Int).toNat) (by decide)
    have l1 := bytesOf_len9 (n := n.toNat) (by omega)
    generalize hY3 : bytesOf (3 : Int).toNat = Y3 at *
    generalize hYn : bytesOf n.toNat = Yn at *
    have H3 := Lib.hid hY3
    have HN := Lib.hid hYn
    clear E hY3 hYn
    obtain ⟨q0, q1⟩ := two_cells (w := w) (x := .int .i64 3) (y := .int .i64 n) (T := 42) (Below.refl _ _).drew
    have HC : Hid (Below (w.alloc (.cells #[.int .i64 3, .int .i64 n] 42)).heap.size (w.alloc (.cells #[.int .i64 3, .int .i64 n] 42)) (w.alloc (.cells #[.int .i64 3, .int .i64 n] 42)).drew) := Lib.hid (Below.refl _ _).drew
    have HS : Hid (w.heap.size ≤ (w.alloc (.cells #[.int .i64 3, .int .i64 n] 42)).heap.size) := Lib.hid (by simp)
    go_enter Try.func37, Try.ntmps37
    go_wp2_with fail
    refine wp_region_noPanic ?_
    refine wp_region_held_drew (S := (fun w' => w'.cell? ⟨w.heap.size, 0, none⟩ = some (.int .i64 3) ∧ w'.cell? ⟨w.heap.size, 1, none⟩ = some (.int .i64 n))) (by kernel_rfl) ⟨q0, q1⟩ (fun hHeld => ?_)
    refine wpAnyH_take (i := 1) (oi := _) (v := ?_) rfl (by kernel_rfl) (by kernel_rfl) (by kernel_rfl) (fun _ _ _ h => h) (Or.inl ⟨by rfl, ?_⟩) (by assumption) ?_
    rotate_left
    · (intro w hSw; (try dsimp only at hSw); go_simp <;> with_reducible rfl)
    try simp only [List.getElem_toArray, List.getElem_cons_succ, List.getElem_cons_zero, Act.put, List.setIfInBounds_toArray, List.set_cons_zero, List.set_cons_succ]
    refine wpAnyH_take (i := 2) (oi := _) (v := ?_) rfl (by kernel_rfl) (by kernel_rfl) (by kernel_rfl) (fun _ _ _ h => h) (Or.inl ⟨by rfl, ?_⟩) (by assumption) ?_
    rotate_left
    · (intro w hSw; (try dsimp only at hSw); go_simp <;> with_reducible rfl)
    try simp only [List.getElem_toArray, List.getElem_cons_succ, List.getElem_cons_zero, Act.put, List.setIfInBounds_toArray, List.set_cons_zero, List.set_cons_succ]
    refine wpAnyH_ready (rs := [0]) (by kernel_rfl) (by simp) ?_
    refine AllReadyH.cons (o := _) rfl (fun K hK => ?_) AllReadyH.nil
    go_simp
    (go_at_call 33; (with_reducible refine (rbytes_call (n := 3) (by decide) HC).mono ?_); rintro e w1 ⟨A1, k1, rfl, hA1, hL1, ho, hb⟩; rw [H3.out] at ho hL1 ⊢; have HO1 := Lib.hid ho; have HB1 := Lib.hid (HC.out.trans (hb.mono HC.out.size)); obtain ⟨q0, q1⟩ := two_cells HB1.out; clear ho hb hL1)
    refine hK.out _ _ ⟨q0, q1⟩ (fun hHeld => ?_)
    clear hK K
    try simp only [List.getElem_toArray, List.getElem_cons_succ, List.getElem_cons_zero, Act.put, List.setIfInBounds_toArray, List.set_cons_zero, List.set_cons_succ]
    refine wpAnyH_ready (rs := [3]) (by kernel_rfl) (by simp) ?_
    refine AllReadyH.cons (o := _) rfl (fun K hK => ?_) AllReadyH.nil
    go_simp
    (go_at_call 33; (with_reducible refine (rbytes_call (n := n) h1 HB1).mono ?_); rintro e w2 ⟨A2, k2, rfl, hA2, hL2, ho, hb⟩; rw [HN.out] at ho hL2 ⊢; have HO2 := Lib.hid (own_below HO1.out hb (own_block_lt HO1.out)); have HB2 := Lib.hid (HB1.out.trans (hb.mono HB1.out.size)); have HL2 := Lib.hid hL2; have HA2 := Lib.hid hA2; obtain ⟨q0, q1⟩ := two_cells HB2.out; clear ho hb hL2 hA2)
    refine hK.out _ _ ⟨q0, q1⟩ (fun hHeld => ?_)
    clear hK K
    try simp only [List.getElem_toArray, List.getElem_cons_succ, List.getElem_cons_zero, Act.put, List.setIfInBounds_toArray, List.set_cons_zero, List.set_cons_succ]
    refine wpAnyH_ready (rs := [4]) (by kernel_rfl) (by simp) ?_
    refine AllReadyH.cons (o := _) rfl (fun K hK => ?_) AllReadyH.nil
    (refine step_app rfl _ _ 31 rfl (w.alloc (.cells #[.int .i64 3, .int .i64 n] 42)).heap.size 5 i0 (.int .u8 0) 1 Try.underlying31 hi hz0 hz1 hz2 rfl _ _ _ rfl HO2.out A2 _ k2 _ (Yn.map (Value.int .u8)) (by simp) rfl HA2.out HL2.out (u8_one _) (by unfold maxLen; omega) (by omega) HB2.out.size ?_; intro v3 w3 hown hgrow; obtain ⟨ho, hb⟩ := app_more HB2.out HO2.out HB2.out.size hown hgrow; rw [← List.length_append] at ho; have HO3 := Lib.hid ho; have HB3 := Lib.hid hb; obtain ⟨q0, q1⟩ := two_cells HB3.out; clear hown hgrow ho hb)
    refine hK.out _ _ ⟨q0, q1⟩ (fun hHeld => ?_)
    clear hK K
    try simp only [List.getElem_toArray, List.getElem_cons_succ, List.getElem_cons_zero, Act.put, List.setIfInBounds_toArray, List.set_cons_zero, List.set_cons_succ]
    refine wpAnyH_take (i := 5) (oi := _) (v := ?_) rfl (by kernel_rfl) (by kernel_rfl) (by kernel_rfl) (fun _ _ _ h => h) (Or.inl ⟨by rfl, ?_⟩) (by assumption) ?_
    rotate_left
    · (intro w hSw; (try dsimp only at hSw); go_simp <;> with_reducible rfl)
    try simp only [List.getElem_toArray, List.getElem_cons_succ, List.getElem_cons_zero, Act.put, List.setIfInBounds_toArray, List.set_cons_zero, List.set_cons_succ]
    refine wpAnyH_done (by kernel_rfl) ?_ _
    refine NoPanic.normal ?_
    go_wp2
    go_ret
    exact ⟨_, rfl, own_lower HO3.out HS.out, HW.out.trans (HB3.out.mono HS.out)⟩
  · have E := Lib.hid (show encT (k, n) = bytesOf k.toNat from if_neg h3)
    rw [E.out]
    go_enter Try.func37, Try.ntmps37
    go_wp2_with (go_at_call 33; (with_reducible refine (rbytes_any k h0 _).mono ?_); rintro e w' ⟨v, rfl, ho, hb⟩)
    go_ret
    exact ⟨v, rfl, own_lower ho HW.out.size, HW.out.trans (hb.mono HW.out.size)⟩

theorem rseveral_any (l : List (Int × Int)) (A : Option Addr) (cap B : Nat) (w : World) (hl : l.length ≤ 10000) (hv : ∀ t ∈ l, t.1 ≤ 9223372036854775807 ∧ t.2 ≤ 9223372036854775807) (hB : B ≤ w.heap.size) (h : SlcIs TyAt 2 w B A cap l) :
    Calls Try.prog 34 #[.slice A l.length cap] w (OwnBytes (encTs l) w) := by
  obtain ⟨i0, hi, hz0, hz1, hz2⟩ := info_parts info_u8
  have hlc := h.le
  have hcm := h.cap
  have HL := Lib.hid h
  have HB := Lib.hid hB
  have HV := Lib.hid hv
  have hlen : ∀ k, ((l.take k).flatMap encT).length ≤ 18 * l.length := fun k => Nat.le_trans (flat_len (c := 18) _ fun x hx => by
    have hx := List.mem_of_mem_take hx
    exact encT_len (hv x hx).1 (hv x hx).2) (Nat.mul_le_mul_left 18 (by rw [List.length_take]; omega))
  have l9 := bytesOf_len9 (n := (l.length : Int).toNat) (by omega)
  have HC : Hid (Below w.heap.size w w) := Lib.hid (Below.refl _ _)
  obtain ⟨Y0, hY0⟩ : ∃ Y, bytesOf (l.length : Int).toNat = Y := ⟨_, rfl⟩
  rw [hY0] at l9
  have H0 := Lib.hid hY0
  have E : Hid (encTs l = Y0 ++ l.flatMap encT) := Lib.hid (by rw [← hY0]; unfold encTs; rw [Int.toNat_natCast])
  rw [E.out]
  clear h hB hv hY0
  go_enter Try.func34, Try.ntmps34
  go_wp2_with (go_at_call 33; (with_reducible refine (rbytes_any (l.length : Int) (by omega) _).mono ?_); rintro e w1 ⟨v1, rfl, ho, hb⟩; rw [H0.out] at ho; have HO1 := Lib.hid ho; have HB1 := Lib.hid hb; clear ho hb)
  go_loopw [3, 4] (fun v i wr => ∃ k : Nat, k ≤ l.length ∧ i = .int .i64 k ∧ Hid (wr.ownsRow w.heap.size 5 1 v (Y0 ++ (l.take k).flatMap encT).length ((Y0 ++ (l.take k).flatMap encT).map (Value.int .u8))) ∧ Hid (Below w.heap.size w wr)) (fun _ i _ => l.length - (intOf i).toNat)
  case atStart => exact ⟨0, by omega, rfl, by simpa using HO1, HB1⟩
  case round =>
    obtain ⟨k, hk, rfl, HO, HX⟩ := hrel
    by_cases hlt : k < l.length
    · obtain ⟨ad, rfl, hab, q0, q1⟩ := (HL.out.below_to TyAt.keeps HX.out HB.out).row.at_ hlt
      have T1 := Lib.hid (flat_take encT hlt)
      have M1 := Lib.hid (HV.out _ (List.getElem_mem hlt))
      have hlk := hlen k
      generalize l[k] = x at *
      obtain ⟨Z2, hZ2⟩ : ∃ Z, encT x = Z := ⟨_, rfl⟩
      have hZl : Z2.length ≤ 18 := by rw [← hZ2]; exact encT_len M1.out.1 M1.out.2
      have EZ := Lib.hid hZ2
      clear hZ2
      have X1 : (Y0 ++ (l.take k).flatMap encT).length ≤ 200000 := by rw [List.length_append]; omega
      go_wp2_with (first
        | (go_at_call 37; (with_reducible refine (rone_any x M1.out.1 M1.out.2 _).mono ?_); rintro e w2 ⟨v2, rfl, ho, hb⟩; rw [EZ.out] at ho; obtain ⟨A2, k2, rfl, hL2, hA2⟩ := own_slice_nil ho; have HL2 := Lib.hid hL2; have HA2 := Lib.hid hA2; have HO2 := Lib.hid (own_below HO.out hb (own_block_lt HO.out)); have HX2 := Lib.hid (HX.out.trans (hb.mono HX.out.size)); clear ho hb hL2 hA2)
        | (at_builtin; refine append_lies rfl _ _ 31 rfl w.heap.size 5 i0 (.int .u8 0) 1 Try.underlying31 hi hz0 hz1 hz2 rfl _ _ _ rfl HO2.out A2 _ k2 _ (Z2.map (Value.int .u8)) (by simp) rfl HA2.out HL2.out (u8_one _) (by unfold maxLen; omega) (by omega) HX2.out.size ?_; intro v3 w3 hown hgrow; obtain ⟨ho, hb⟩ := app_more HX2.out HO2.out HX2.out.size hown hgrow; rw [← List.length_append] at ho; have HO3 := Lib.hid ho; have HX3 := Lib.hid hb; clear hown hgrow ho hb))
      go_roundw
      case rel => exact ⟨k + 1, by omega, by go_num, by rw [T1.out, EZ.out, ← List.append_assoc]; exact HO3, HX3⟩
      case measure => simp [intOf]; omega
    · have T1 := Lib.hid (show (l.take k).flatMap encT = l.flatMap encT by rw [List.take_of_length_le (by omega)])
      rw [T1.out] at HO
      go_wp2_with fail
      go_ret
      exact ⟨_, rfl, HO.out, HX.out⟩

theorem rnumbers_any (l : List Int) (A : Option Addr) (cap B : Nat) (w : World) (hl : l.length ≤ 10000) (hv : ∀ t ∈ l, t ≤ 9223372036854775807) (hB : B ≤ w.heap.size) (h : SlcIs IntAt 1 w B A cap l) :
    Calls Try.prog 35 #[.slice A l.length cap] w (OwnBytes (encNs l) w) := by
  obtain ⟨i0, hi, hz0, hz1, hz2⟩ := info_parts info_u8
  have hlc := h.le
  have hcm := h.cap
  have HL := Lib.hid h
  have HB := Lib.hid hB
  have HV := Lib.hid hv
  have hlen : ∀ k, ((l.take k).flatMap bytesN).length ≤ 18 * l.length := fun k => Nat.le_trans (flat_len (c := 18) _ fun x hx => by
    have hx := List.mem_of_mem_take hx
    have := hv x hx; exact Nat.le_trans (bytesOf_len9 (by omega)) (by decide)) (Nat.mul_le_mul_left 18 (by rw [List.length_take]; omega))
  have l9 := bytesOf_len9 (n := (l.length : Int).toNat) (by omega)
  have HC : Hid (Below w.heap.size w w) := Lib.hid (Below.refl _ _)
  obtain ⟨Y0, hY0⟩ : ∃ Y, bytesOf (l.length : Int).toNat = Y := ⟨_, rfl⟩
  rw [hY0] at l9
  have H0 := Lib.hid hY0
  have E : Hid (encNs l = Y0 ++ l.flatMap bytesN) := Lib.hid (by rw [← hY0]; unfold encNs; rw [Int.toNat_natCast])
  rw [E.out]
  clear h hB hv hY0
  go_enter Try.func35, Try.ntmps35
  go_wp2_with (go_at_call 33; (with_reducible refine (rbytes_any (l.length : Int) (by omega) _).mono ?_); rintro e w1 ⟨v1, rfl, ho, hb⟩; rw [H0.out] at ho; have HO1 := Lib.hid ho; have HB1 := Lib.hid hb; clear ho hb)
  go_loopw [3, 4] (fun v i wr => ∃ k : Nat, k ≤ l.length ∧ i = .int .i64 k ∧ Hid (wr.ownsRow w.heap.size 5 1 v (Y0 ++ (l.take k).flatMap bytesN).length ((Y0 ++ (l.take k).flatMap bytesN).map (Value.int .u8))) ∧ Hid (Below w.heap.size w wr)) (fun _ i _ => l.length - (intOf i).toNat)
  case atStart => exact ⟨0, by omega, rfl, by simpa using HO1, HB1⟩
  case round =>
    obtain ⟨k, hk, rfl, HO, HX⟩ := hrel
    by_cases hlt : k < l.length
    · obtain ⟨ad, rfl, hab, q0⟩ := (HL.out.below_to IntAt.keeps HX.out HB.out).row.at_ hlt
      rw [Nat.mul_one] at q0
      have T1 := Lib.hid (flat_take bytesN hlt)
      have M1 := Lib.hid (HV.out _ (List.getElem_mem hlt))
      have hlk := hlen k
      generalize l[k] = x at *
      have r0 : wr.cell? (ad.add k) = some (.int .i64 x) := q0
      obtain ⟨Z2, hZ2⟩ : ∃ Z, bytesN x = Z := ⟨_, rfl⟩
      have hZl : Z2.length ≤ 9 := by rw [← hZ2]; exact bytesOf_len9 (by have := M1.out; omega)
      have EZ := Lib.hid hZ2
      clear hZ2
      have X1 : (Y0 ++ (l.take k).flatMap bytesN).length ≤ 200000 := by rw [List.length_append]; omega
      go_wp2_with (first
        | (go_at_call 33; (with_reducible refine (rbytes_any x M1.out _).mono ?_); rintro e w2 ⟨v2, rfl, ho, hb⟩; rw [show bytesOf x.toNat = Z2 from EZ.out] at ho; obtain ⟨A2, k2, rfl, hL2, hA2⟩ := own_slice_nil ho; have HL2 := Lib.hid hL2; have HA2 := Lib.hid hA2; have HO2 := Lib.hid (own_below HO.out hb (own_block_lt HO.out)); have HX2 := Lib.hid (HX.out.trans (hb.mono HX.out.size)); clear ho hb hL2 hA2)
        | (at_builtin; refine append_lies rfl _ _ 31 rfl w.heap.size 5 i0 (.int .u8 0) 1 Try.underlying31 hi hz0 hz1 hz2 rfl _ _ _ rfl HO2.out A2 _ k2 _ (Z2.map (Value.int .u8)) (by simp) rfl HA2.out HL2.out (u8_one _) (by unfold maxLen; omega) (by omega) HX2.out.size ?_; intro v3 w3 hown hgrow; obtain ⟨ho, hb⟩ := app_more HX2.out HO2.out HX2.out.size hown hgrow; rw [← List.length_append] at ho; have HO3 := Lib.hid ho; have HX3 := Lib.hid hb; clear hown hgrow ho hb))
      go_roundw
      case rel => exact ⟨k + 1, by omega, by go_num, by rw [T1.out, EZ.out, ← List.append_assoc]; exact HO3, HX3⟩
      case measure => simp [intOf]; omega
    · have T1 := Lib.hid (show (l.take k).flatMap bytesN = l.flatMap bytesN by rw [List.take_of_length_le (by omega)])
      rw [T1.out] at HO
      go_wp2_with fail
      go_ret
      exact ⟨_, rfl, HO.out, HX.out⟩
end Go.Proofs.Ytikljohgdgibnaa
