/-
  The statements' fixed fact on classes (awake): it holds.
-/
import Derived.Test.YtcehkmnneimdeaaRefSlot
import Derived.Test.YtcehkmnneimdeaaClassBelow
import Derived.Test.YtcehkmnneimdeaaRefLocal
namespace Go.Proofs.Ytcehkmnneimdeaa
set_option maxRecDepth 100000
set_option linter.unusedVariables false
set_option linter.unusedSimpArgs false
open Go.ChangeShapes Go.WideShapes Go.ChangeAt Go.RowKit

/-- The fixed image: two classes, one below the other. -/
def pairM : Img := ⟨[⟨-1, [(1, 0)], [4]⟩, ⟨0, [(2, 0)], [5]⟩], [], [], [], [], 0, 0⟩
def pairH (N : Nat) : Hnd := ⟨some ⟨N + 1 + 1 + 1 + 1, 0, none⟩, none, none, none, none, 2, 0, 0, 0, 0⟩
theorem pair_above0 : aboveI [-1, 0] 0 = [0] := by
  rw [aboveI_step (sup := [-1, 0]) (a := 0) (s := -1) (by decide) rfl, if_pos (by decide), aboveI_bad (.inl (by decide))]
theorem pair_above1 : aboveI [-1, 0] 1 = [1, 0] := by
  rw [aboveI_step (sup := [-1, 0]) (a := 1) (s := 0) (by decide) rfl, if_pos (by decide), pair_above0]
theorem pair_fields : fieldsOf pairM.classes 1 = [(1, 0), (2, 0)] := by
  show (aboveI [-1, 0] 1).reverse.flatMap (fieldsAt pairM.classes) = _
  rw [pair_above1]
  rfl
theorem pair_below0 : belowOf pairM.classes 0 = [0, 1] := by
  show belowTo [-1, 0] 0 2 = _
  simp [belowTo, pair_above0, pair_above1, inB]
theorem pair_below1 : belowOf pairM.classes 1 = [1] := by
  show belowTo [-1, 0] 1 2 = _
  simp [belowTo, pair_above0, pair_above1, inB]
theorem pair_slot : slotOf pairM.classes 1 0 = some 5 := rfl

/-- The world in which the fixed image stands. -/
abbrev pairW (w : World) : World :=
  (((((w.alloc (.cells #[.int .i64 1, .int .i64 0] 40)).alloc (.cells #[.int .i64 4] 3)).alloc (.cells #[.int .i64 2, .int .i64 0] 40)).alloc (.cells #[.int .i64 5] 3)).alloc
    (.cells #[.int .i64 (-1), .slice (some ⟨w.heap.size, 0, none⟩) 1 1, .slice (some ⟨w.heap.size + 1, 0, none⟩) 1 1, .int .i64 0, .slice (some ⟨w.heap.size + 1 + 1, 0, none⟩) 1 1, .slice (some ⟨w.heap.size + 1 + 1 + 1, 0, none⟩) 1 1] 50)).alloc
    (.cells #[.slice (some ⟨w.heap.size + 1 + 1 + 1 + 1, 0, none⟩) 2 2, .slice none 0 0, .slice none 0 0, .slice none 0 0, .slice none 0 0, .int .i64 0, .int .i64 0] 28)
theorem pair_parts (w : World) : Below w.heap.size w (pairW w) ∧ (pairW w).heap.size = w.heap.size + 1 + 1 + 1 + 1 + 1 + 1 ∧ ImgIn (pairW w) (pairW w).heap.size (pairH w.heap.size) pairM ∧
    ImgBox (pairW w) (w.heap.size + 1 + 1 + 1 + 1 + 1) (pairH w.heap.size) pairM := by
  obtain ⟨c0, z0, b0⟩ := cells_step (w := w) rfl [.int .i64 1, .int .i64 0] 40
  obtain ⟨c1, z1, b1⟩ := cells_step z0 [.int .i64 4] 3
  obtain ⟨c2, z2, b2⟩ := cells_step z1 [.int .i64 2, .int .i64 0] 40
  obtain ⟨c3, z3, b3⟩ := cells_step z2 [.int .i64 5] 3
  obtain ⟨c4, z4, b4⟩ := cells_step z3 [.int .i64 (-1), .slice (some ⟨w.heap.size, 0, none⟩) 1 1, .slice (some ⟨w.heap.size + 1, 0, none⟩) 1 1, .int .i64 0, .slice (some ⟨w.heap.size + 1 + 1, 0, none⟩) 1 1, .slice (some ⟨w.heap.size + 1 + 1 + 1, 0, none⟩) 1 1] 50
  obtain ⟨c5, z5, b5⟩ := cells_step z4 [.slice (some ⟨w.heap.size + 1 + 1 + 1 + 1, 0, none⟩) 2 2, .slice none 0 0, .slice none 0 0, .slice none 0 0, .slice none 0 0, .int .i64 0, .int .i64 0] 28
  have b4' := b4.trans (b5.mono (by omega))
  have b3' := b3.trans (b4'.mono (by omega))
  have b2' := b2.trans (b3'.mono (by omega))
  have b1' := b1.trans (b2'.mono (by omega))
  have c4 := c4.keep b5 (by omega)
  have c3 := c3.keep b4' (by omega)
  have c2 := c2.keep b3' (by omega)
  have c1 := c1.keep b2' (by omega)
  have c0 := c0.keep b1' (by omega)
  have z : (pairW w).heap.size = w.heap.size + 1 + 1 + 1 + 1 + 1 + 1 := z5
  have hC0 : ClsAt (pairW w) (pairW w).heap.size ⟨w.heap.size + 1 + 1 + 1 + 1, 0, none⟩ ⟨-1, [(1, 0)], [4]⟩ :=
    ⟨c4 0 _ rfl, ⟨_, 1, c4 1 _ rfl, Nat.le_refl _, by decide, row_one ⟨c0 0 _ rfl, c0 1 _ rfl⟩ (by omega)⟩, ⟨_, 1, c4 2 _ rfl, Nat.le_refl _, by decide, row_one (c1 0 _ rfl) (by omega)⟩, by show (-9223372036854775808 : Int) ≤ -1 ∧ (-1 : Int) ≤ 9223372036854775807; omega⟩
  have hC1 : ClsAt (pairW w) (pairW w).heap.size ⟨w.heap.size + 1 + 1 + 1 + 1, 3, none⟩ ⟨0, [(2, 0)], [5]⟩ :=
    ⟨c4 3 _ rfl, ⟨_, 1, c4 4 _ rfl, Nat.le_refl _, by decide, row_one ⟨c2 0 _ rfl, c2 1 _ rfl⟩ (by omega)⟩, ⟨_, 1, c4 5 _ rfl, Nat.le_refl _, by decide, row_one (c3 0 _ rfl) (by omega)⟩, by show (-9223372036854775808 : Int) ≤ 0 ∧ (0 : Int) ≤ 9223372036854775807; omega⟩
  refine ⟨b0.trans (b1'.mono (by omega)), z, ⟨⟨Nat.le_refl _, by show 2 ≤ 9223372036854775807; decide, fun i y hi => ?_⟩, slc_none, slc_none, slc_none, slc_none⟩, ⟨c5 0 _ rfl, c5 1 _ rfl, c5 2 _ rfl, c5 3 _ rfl, c5 4 _ rfl, c5 5 _ rfl, c5 6 _ rfl⟩⟩
  match i, hi with
  | 0, hi =>
    simp [pairM] at hi
    subst hi
    exact ⟨_, rfl, by rw [z]; show w.heap.size + 1 + 1 + 1 + 1 < _; omega, by rw [Nat.zero_mul, show (⟨w.heap.size + 1 + 1 + 1 + 1, 0, none⟩ : Addr).add 0 = ⟨w.heap.size + 1 + 1 + 1 + 1, 0, none⟩ by simp [Addr.add]]; exact hC0⟩
  | 1, hi =>
    simp [pairM] at hi
    subst hi
    exact ⟨_, rfl, by rw [z]; show w.heap.size + 1 + 1 + 1 + 1 < _; omega, by rw [show (⟨w.heap.size + 1 + 1 + 1 + 1, 0, none⟩ : Addr).add (1 * 3) = ⟨w.heap.size + 1 + 1 + 1 + 1, 3, none⟩ by simp [Addr.add]]; exact hC1⟩
  | i + 2, hi => simp [pairM] at hi

theorem csize_is {m : Img} {h : Hnd} {w0 w : World} {c k : Int} (HI : Hid (ImgIn w0 w0.heap.size h m)) (HX : Hid (Below w0.heap.size w0 w)) (HK : Hid (1 + ((fieldsOf m.classes c).length : Int) = k)) (hn : m.classes.length ≤ 1000) (HF : Hid (∀ x ∈ m.classes, x.fields.length ≤ 1000)) :
    Calls Try.prog 14 #[imgV h m, .int .i64 c] w fun e w' => e = .returned (.int .i64 k) ∧ Below w.heap.size w w' := by
  have H := csize_any m c h w (HI.out.now HX.out) hn HF.out
  rw [HK.out] at H
  exact H
theorem clocal_pair {w0 w : World} {N c : Nat} {A : Option Addr} (HN : Hid (w.heap.size = N)) (HS : Hid (SlcIs TyAt 2 w0 w0.heap.size A c [(1, 0), (2, 0)])) (HX : Hid (Below w0.heap.size w0 w)) :
    Calls Try.prog 18 #[.agg #[.slice (some ⟨N, 0, none⟩) 1 1, .slice A 2 c, .int .i64 0, .int .i64 0, .slice none 0 0, .int .i64 0, .int .i64 0, .slice none 0 0], .int .i64 2] (w.alloc (.cells #[.int .i64 1, .int .i64 0] 40)) fun e w' => e = .returned (.agg #[.int .i64 2, .int .i64 0]) ∧ Below w.heap.size w w' := by
  obtain rfl := HN.out
  have hb := (Below.refl w.heap.size w).alloc (Nat.le_refl _) (.cells #[.int .i64 1, .int .i64 0] 40)
  have hc := cells_new w [.int .i64 1, .int .i64 0] 40
  have hA : SlcIs TyAt 2 (w.alloc (.cells #[.int .i64 1, .int .i64 0] 40)) (w.alloc (.cells #[.int .i64 1, .int .i64 0] 40)).heap.size (some ⟨w.heap.size, 0, none⟩) 1 [(1, 0)] := ⟨Nat.le_refl _, by decide, row_one ⟨hc 0 _ rfl, hc 1 _ rfl⟩ (by simp)⟩
  have hL := (HS.out.below_to TyAt.keeps (HX.out.trans (hb.mono HX.out.size)) (Nat.le_refl _)).keep' TyAt.keeps (Nat.le_trans HX.out.size hb.size) (fun _ _ => rfl)
  exact (clocal_any ⟨[(1, 0)], [(1, 0), (2, 0)], (0, 0), [], 0, 0, []⟩ 2 (by omega) ⟨some ⟨w.heap.size, 0, none⟩, A, none, none, 1, c, 0, 0⟩ _ ⟨hA, hL, slc_none, slc_none⟩).mono fun e w' ⟨he, hw⟩ => ⟨he, hb.trans (hw.mono hb.size)⟩

set_option maxHeartbeats 3200000 in
theorem classAwake_any (w : World) : Calls Try.prog 8 #[] w fun e w' => e = .returned (.bool true) ∧ Below w.heap.size w w' := by
  obtain ⟨hb, hz, hm, hx⟩ := pair_parts w
  have HW := Lib.hid hb
  have HZ := Lib.hid hz
  have HI := Lib.hid hm
  have HBX := Lib.hid hx
  clear hb hz hm hx
  go_enter Try.func8, Try.ntmps8
  go_upto_region 2 with fail
  change Code.wp _ _ _ _ (pairW w)
  generalize pairW w = w1 at *
  obtain ⟨N, hN⟩ : ∃ N, w.heap.size = N := ⟨_, rfl⟩
  have HNN := Lib.hid hN
  simp only [hN] at HZ HI HBX ⊢
  clear hN
  have HX1 : Hid (Below w1.heap.size w1 w1) := Lib.hid (Below.refl _ _)
  have hlt : Hid (N + 1 + 1 + 1 + 1 + 1 < w1.heap.size) := Lib.hid (by have := HZ.out; omega)
  have hn2 : pairM.classes.length ≤ 1000 := by decide
  have HF : Hid (∀ x ∈ pairM.classes, x.fields.length ≤ 1000) := Lib.hid (by decide)
  have HLF := Lib.hid pair_fields
  have HL0 := Lib.hid pair_below0
  have HL1 := Lib.hid pair_below1
  have HSL := Lib.hid pair_slot
  obtain ⟨q0, q1, q2, q3, q4, q5, q6⟩ := HBX.out
  go_upto_region 3 with (go_at_call 13; (with_reducible refine (cfields_is HI HX1 HLF hn2 HF).mono ?_); rintro e w2 ⟨v2, rfl, ho, hb⟩; have HX2 := Lib.hid hb; obtain ⟨A2, c2, rfl, hS, _⟩ := own_types ho; have HS := Lib.hid hS; clear hb ho hS)
  obtain ⟨ad, e0, hab, l0, l1⟩ := HS.out.row.at_ (i := 0) (by decide)
  obtain ⟨ad', e1, hab', l2, l3⟩ := HS.out.row.at_ (i := 1) (by decide)
  obtain rfl : ad = ad' := by rw [e0] at e1; injection e1
  subst e0
  have HAB := Lib.hid hab
  clear q0 q1 q2 q3 q4 q5 q6 hab' hab
  have HT2 : Hid (TyAt w2 0 (ad.add (0 * 2)) (1, 0) ∧ TyAt w2 0 (ad.add (1 * 2)) (2, 0)) := Lib.hid ⟨⟨l0, l1⟩, ⟨l2, l3⟩⟩
  clear l0 l1 l2 l3 e1
  obtain ⟨q0, q1, q2, q3, q4, q5, q6⟩ := HBX.out.keep HX2.out hlt.out
  go_upto_region 4 with (go_at_call 9; (with_reducible refine (cslot_is HI HX2 HSL).mono ?_); rintro e w3 ⟨rfl, hb⟩; have HX3 := Lib.hid (HX2.out.trans (hb.mono HX2.out.size)); have HB3 := Lib.hid hb; clear hb)
  clear q0 q1 q2 q3 q4 q5 q6
  obtain ⟨q0, q1, q2, q3, q4, q5, q6⟩ := HBX.out.keep HX3.out hlt.out
  have HT : Hid (∀ W, Below w2.heap.size w2 W → (W.cell? ad = some (.int .i64 1) ∧ W.cell? ⟨ad.block, ad.off + 2, none⟩ = some (.int .i64 2) ∧ W.cell? ⟨ad.block, ad.off + 2 + 1, none⟩ = some (.int .i64 0))) := Lib.hid (fun W hW => by
    obtain ⟨⟨a0, a1⟩, ⟨a2, a3⟩⟩ := HT2.out
    have e : ad.add (0 * 2) = ad := by unfold Addr.add; rw [if_pos (by omega)]
    have e2 : ad.add (1 * 2) = ⟨ad.block, ad.off + 2, none⟩ := by unfold Addr.add; simp
    rw [e] at a0
    rw [e2] at a2 a3
    exact ⟨(hW.cell (p := ad) HAB.out).trans a0, (hW.cell (p := ⟨ad.block, ad.off + 2, none⟩) HAB.out).trans a2, (hW.cell (p := ⟨ad.block, ad.off + 2 + 1, none⟩) HAB.out).trans a3⟩)
  obtain ⟨l0, l1, l2⟩ := HT.out _ HB3.out
  have hz2 := HX2.out.size
  have hfd : ∀ w, (Instr.field 40 (.agg #[.int .i64 2, .int .i64 0]) 0).run Try.prog w = .ok (.int .i64 2) w := fun _ => by kernel_rfl
  have HSZ3 := Lib.hid (show 1 + ((fieldsOf pairM.classes 1).length : Int) = 3 by rw [pair_fields]; rfl)
  go_wp2_with (first
    | (go_at_call 14; (with_reducible refine (csize_is HI HX3 HSZ3 hn2 HF).mono ?_); rintro e w4 ⟨rfl, hb⟩; have hz3 := HX3.out.size; have HX4 := Lib.hid (HX3.out.trans (hb.mono hz3)); have HB4 := Lib.hid (HB3.out.trans (hb.mono HB3.out.size)); clear hb; obtain ⟨q0, q1, q2, q3, q4, q5, q6⟩ := HBX.out.keep HX4.out hlt.out; obtain ⟨l0, l1, l2⟩ := HT.out _ HB4.out)
    | (go_at_call 16; (with_reducible refine (cbelow_is HI HX4 HL0 hn2).mono ?_); rintro e w5 ⟨v5, rfl, ho, hb⟩; obtain ⟨A5, c5, rfl, _, _⟩ := own_ints ho; have hz4 := HX4.out.size; have HX5 := Lib.hid (HX4.out.trans (hb.mono hz4)); have HB5 := Lib.hid (HB4.out.trans (hb.mono HB4.out.size)); clear hb ho; obtain ⟨q0, q1, q2, q3, q4, q5, q6⟩ := HBX.out.keep HX5.out hlt.out; obtain ⟨l0, l1, l2⟩ := HT.out _ HB5.out)
    | (go_at_call 18; (with_reducible refine (clocal_pair (Lib.hid rfl) HS HB5).mono ?_); rintro e w6 ⟨rfl, hb⟩; have HX6 := Lib.hid (HX5.out.trans (hb.mono HX5.out.size)); have HB6 := Lib.hid (HB5.out.trans (hb.mono HB5.out.size)); clear hb; obtain ⟨q0, q1, q2, q3, q4, q5, q6⟩ := HBX.out.keep HX6.out hlt.out; obtain ⟨l0, l1, l2⟩ := HT.out _ HB6.out)
    | (go_at_call 21; (with_reducible refine (risref_any 2 0 _).mono ?_); rintro e w7 ⟨he, hb⟩; rw [show isRefB 2 = true from rfl] at he; subst he; have HX7 := Lib.hid (HX6.out.trans (hb.mono HX6.out.size)); clear hb; obtain ⟨q0, q1, q2, q3, q4, q5, q6⟩ := HBX.out.keep HX7.out hlt.out)
    | (go_at_call 17; (with_reducible refine (rbelow_is HI HX7 HL1 hn2).mono ?_); rintro e w8 ⟨v8, rfl, ho, hb⟩; obtain ⟨A8, c8, rfl, _, _⟩ := own_ints ho; have HX8 := Lib.hid (HX7.out.trans (hb.mono HX7.out.size)); clear hb ho))
  go_ret
  exact ⟨by first | rfl | simp, HW.out.trans (HX8.out.mono HW.out.size)⟩
end Go.Proofs.Ytcehkmnneimdeaa
