/-
  The method in a slot of a class (Slot), and how many cells an object takes (Size), by the program and by the document.
  What calls' own small words come to: is there a method of that number (isMethod), the methods in a slot of all classes below one (slots), those that an instruction may call (named).
-/
import Derived.Test.YtjjgpcmdoodjnaaM29
import Derived.Test.YtjjgpcmdoodjnaaM02
import Derived.Test.YtjjgpcmdoodjnaaM19
import Derived.Test.YtjjgpcmdoodjnaaM23
import Derived.Test.YtjjgpcmdoodjnaaM30
import Derived.RegionTactic
import Derived.ChangeAlike
import Derived.Deep.RegionHeld3
import Derived.Deep.QuietTactic
import Derived.BigQuiet
namespace Go.Proofs.Ytjjgpcmdoodjnaa
set_option maxRecDepth 100000
set_option linter.unusedVariables false
set_option linter.unusedSimpArgs false
open Go.ChangeShapes Go.WideShapes Go.ChangeAt Go.RowKit

theorem cslot_any (m : Img) (c n : Int) (h : Hnd) (w : World) (H : ImgIn w w.heap.size h m) :
    Calls Try.prog 39 #[imgV h m, .int .i64 c, .int .i64 n] w (SlotOut (slotOf m.classes c n) w) := by
  have HW := Lib.hid ((Below.refl w.heap.size w).alloc (Nat.le_refl _) (imgO h m))
  have HIM := Lib.hid (H.now HW.out)
  have HBX := Lib.hid (img_box w h m)
  have hle := H.classes.le
  have hcap := H.classes.cap
  have hn63 : m.classes.length ≤ 9223372036854775807 := by omega
  clear H hle hcap
  by_cases hc : 0 ≤ c ∧ c < m.classes.length
  · obtain ⟨c0, c1⟩ := hc
    obtain ⟨i, rfl⟩ := Int.eq_ofNat_of_zero_le c0
    have hi : i < m.classes.length := by omega
    obtain ⟨ad, e0, hab, s0, ⟨A1, k1, s1, hs1⟩, ⟨A2, k2, s2, hs2⟩, _⟩ := HIM.out.classes.row.at_ hi
    have HE := Lib.hid e0
    clear e0
    have l1 := hs2.le
    have l2 := hs2.cap
    have hs63 : m.classes[i].slots.length ≤ 9223372036854775807 := by omega
    have HSL := Lib.hid hs2
    clear hs1 hs2
    by_cases hnn : 0 ≤ n ∧ n < m.classes[i].slots.length
    · obtain ⟨n0, n1⟩ := hnn
      obtain ⟨j, rfl⟩ := Int.eq_ofNat_of_zero_le n0
      have hj : j < m.classes[i].slots.length := by omega
      rw [slotOf_yes hi hj]
      obtain ⟨ad2, rfl, hab2, z0⟩ := HSL.out.row.at_ hj
      clear HSL
      rw [Nat.mul_one] at z0
      generalize m.classes[i].slots[j] = f at *
      generalize m.classes[i] = x at *
      go_enter Try.func39, Try.ntmps39
      go_upto_region 1 with fail
      generalize w.alloc (imgO h m) = w1 at *
      obtain ⟨q0, q1, q2, q3, q4, q5, q6⟩ := HBX.out
      rw [HE.out] at q0
      have HZ : Hid (∀ W, Below w1.heap.size w1 W → W.cell? (ad2.add j) = some (.int .i64 f)) := Lib.hid (fun W hW => (hW.cell (p := ad2.add j) (by rw [addr_add_block]; exact hab2)).trans z0)
      go_upto_region 2 with (go_at_call 48; (with_reducible refine (atcls_yes i m.classes.length h.c0 ad _ _ _ _ _ _ _ w1 hi hn63 hab s0 s1 s2).mono ?_); rintro e w2 ⟨rfl, hb⟩; have HB2 := Lib.hid hb; clear hb)
      have z2 := HZ.out _ (HB2.out.alloc HB2.out.size (.cells #[.int .i64 x.sup, .slice A1 x.fields.length k1, .slice (some ad2) x.slots.length k2] 64))
      go_wp2_with (go_at_call 49; (with_reducible refine (atint_yes j x.slots.length k2 ad2 f _ hj hs63 z2).mono ?_); rintro e w3 ⟨rfl, rfl⟩)
      go_ret2
      exact ⟨rfl, HW.out.trans ((HB2.out.alloc HB2.out.size _).mono HW.out.size)⟩
    · rw [slotOf_slot hi (by omega)]
      have hno : n < 0 ∨ (m.classes[i].slots.length : Int) ≤ n := by omega
      clear hnn HSL
      generalize m.classes[i] = x at *
      go_enter Try.func39, Try.ntmps39
      go_upto_region 1 with fail
      generalize w.alloc (imgO h m) = w1 at *
      obtain ⟨q0, q1, q2, q3, q4, q5, q6⟩ := HBX.out
      rw [HE.out] at q0
      go_upto_region 2 with (go_at_call 48; (with_reducible refine (atcls_yes i m.classes.length h.c0 ad _ _ _ _ _ _ _ w1 hi hn63 hab s0 s1 s2).mono ?_); rintro e w2 ⟨rfl, hb⟩; have HB2 := Lib.hid hb; clear hb)
      go_wp2_with (go_at_call 49; (with_reducible refine (atint_no n x.slots.length k2 A2 _ hs63 hno).mono ?_); rintro e w3 ⟨rfl, hb⟩; have HB3 := Lib.hid hb; clear hb)
      go_ret2
      exact ⟨rfl, HW.out.trans (((HB2.out.alloc HB2.out.size _).trans (HB3.out.mono (HB2.out.alloc HB2.out.size _).size)).mono HW.out.size)⟩
  · have hno : c < 0 ∨ (m.classes.length : Int) ≤ c := by omega
    rw [slotOf_class hno]
    have hz : n < 0 ∨ ((0 : Nat) : Int) ≤ n := by omega
    clear hc
    go_enter Try.func39, Try.ntmps39
    go_upto_region 1 with fail
    generalize w.alloc (imgO h m) = w1 at *
    obtain ⟨q0, q1, q2, q3, q4, q5, q6⟩ := HBX.out
    go_upto_region 2 with (go_at_call 48; (with_reducible refine (atcls_no c m.classes.length h.c0 h.A0 w1 hn63 hno).mono ?_); rintro e w2 ⟨rfl, hb⟩; have HB2 := Lib.hid hb; clear hb)
    go_wp2_with (go_at_call 49; (with_reducible refine (atint_no n 0 0 none _ (by omega) hz).mono ?_); rintro e w3 ⟨rfl, hb⟩; have HB3 := Lib.hid hb; clear hb)
    go_ret2
    exact ⟨rfl, HW.out.trans (((HB2.out.alloc HB2.out.size _).trans (HB3.out.mono (HB2.out.alloc HB2.out.size _).size)).mono HW.out.size)⟩
theorem cslot_is {m : Img} {h : Hnd} {w0 w : World} {c n : Int} {o : Option Int} (HI : Hid (ImgIn w0 w0.heap.size h m)) (HX : Hid (Below w0.heap.size w0 w)) (HO : Hid (slotOf m.classes c n = o)) :
    Calls Try.prog 39 #[imgV h m, .int .i64 c, .int .i64 n] w (SlotOut o w) := by
  have H := cslot_any m c n h w (HI.out.now HX.out)
  rw [HO.out] at H
  exact H
end Go.Proofs.Ytjjgpcmdoodjnaa
namespace Go.Proofs.Ytjjgpcmdoodjnaa
set_option maxRecDepth 100000
set_option linter.unusedVariables false
set_option linter.unusedSimpArgs false
open Go.ChangeShapes Go.WideShapes Go.ChangeAt Go.RowKit

set_option maxHeartbeats 1600000 in
theorem cismethod_any (m : Img) (f : Int) (r : Bool) (hr : (decide (0 ≤ f) && decide (f < m.methods.length)) = r) (h : Hnd) (w : World) (H : ImgIn w w.heap.size h m) :
    Calls Try.prog 16 #[imgV h m, .int .i64 f] w fun e w' => e = .returned (.bool r) ∧ Below w.heap.size w w' := by
  have HW := Lib.hid ((Below.refl w.heap.size w).alloc (Nat.le_refl _) (imgO h m))
  have HBX := Lib.hid (img_box w h m)
  have hle := H.methods.le
  have hcap := H.methods.cap
  clear H
  by_cases h0 : 0 ≤ f
  · by_cases h1 : f < m.methods.length
    · have e : r = true := by rw [← hr, decide_eq_true h0, decide_eq_true h1]; rfl
      subst e
      clear hr
      go_enter Try.func16, Try.ntmps16
      go_upto_region 1 with fail
      generalize w.alloc (imgO h m) = w1 at *
      obtain ⟨q0, q1, q2, q3, q4, q5, q6⟩ := HBX.out
      go_wp2_with fail
      go_ret
      exact ⟨rfl, HW.out⟩
    · have e : r = false := by rw [← hr, decide_eq_false h1, Bool.and_false]
      subst e
      clear hr
      go_enter Try.func16, Try.ntmps16
      go_upto_region 1 with fail
      generalize w.alloc (imgO h m) = w1 at *
      obtain ⟨q0, q1, q2, q3, q4, q5, q6⟩ := HBX.out
      go_wp2_with fail
      go_ret
      exact ⟨rfl, HW.out⟩
  · have e : r = false := by rw [← hr, decide_eq_false h0, Bool.false_and]
    subst e
    clear hr
    go_enter Try.func16, Try.ntmps16
    go_upto_region 1 with fail
    generalize w.alloc (imgO h m) = w1 at *
    obtain ⟨q0, q1, q2, q3, q4, q5, q6⟩ := HBX.out
    go_wp2_with fail
    go_ret
    exact ⟨rfl, HW.out⟩
theorem cismethod_is {m : Img} {f : Int} {r : Bool} {h : Hnd} {w0 w : World} (HI : Hid (ImgIn w0 w0.heap.size h m)) (HX : Hid (Below w0.heap.size w0 w)) (HR : Hid ((decide (0 ≤ f) && decide (f < m.methods.length)) = r)) :
    Calls Try.prog 16 #[imgV h m, .int .i64 f] w fun e w' => e = .returned (.bool r) ∧ Below w.heap.size w w' := by
  exact cismethod_any m f r HR.out h w (HI.out.now HX.out)

set_option maxHeartbeats 3200000 in
theorem cslots_any (m : Img) (a b : Int) (h : Hnd) (w : World) (H : ImgIn w w.heap.size h m) (hn : m.classes.length ≤ 1000) :
    Calls Try.prog 24 #[imgV h m, .int .i64 a, .int .i64 b] w (OwnInts (slotsIn m b (belowOf m.classes a)) w) := by
  obtain ⟨L, hL⟩ : ∃ L, belowOf m.classes a = L := ⟨_, rfl⟩
  rw [hL]
  have hLl : L.length ≤ 1000 := by rw [← hL]; exact Nat.le_trans (belowTo_len _ _ _) hn
  have HLB := Lib.hid hL
  clear hL
  obtain ⟨i0, hi, hz0, hz1, hz2⟩ := info_parts info_int
  have HW := Lib.hid ((Below.refl w.heap.size w).alloc (Nat.le_refl _) (imgO h m))
  have HIM := Lib.hid (H.now HW.out)
  have HBX := Lib.hid (img_box w h m)
  have HZ : Hid (w.heap.size < (w.alloc (imgO h m)).heap.size) := Lib.hid (by simp)
  have hn1 := hn
  have hkc := H.classes.cap
  clear H
  go_enter Try.func24, Try.ntmps24
  go_upto_region 1 with fail
  generalize w.alloc (imgO h m) = w1 at *
  have HX0 : Hid (Below w1.heap.size w1 w1) := Lib.hid (Below.refl _ _)
  obtain ⟨q0, q1, q2, q3, q4, q5, q6⟩ := HBX.out
  go_wp2_with (go_at_call 38; (with_reducible refine (cbelow_is HIM HX0 HLB hn1).mono ?_); rintro e w5 ⟨v5, rfl, ho, hb⟩; have HX := Lib.hid hb; obtain ⟨A5, c5, rfl, hl5, g1, g2⟩ := own_ints ho; have HL5 := Lib.hid hl5; clear hb ho hl5)
  go_loopw [7, 16] (fun v i wr => ∃ k : Nat, k ≤ L.length ∧ i = .int .i64 k ∧ Hid (wr.ownsRow w1.heap.size 3 1 v (slotsIn m b (L.take k)).length ((slotsIn m b (L.take k)).map (Value.int .i64))) ∧ Hid (Below w1.heap.size w1 wr) ∧ Hid (Lies wr w5.heap.size A5 (L.map (Value.int .i64))) ∧ Hid (Apart v A5) ∧ Hid (w5.heap.size ≤ wr.heap.size)) (fun _ i _ => L.length - (intOf i).toNat)
  case atStart => exact ⟨0, Nat.zero_le _, rfl, Lib.hid (World.ownsRow_nil _ _ _ _), HX, HL5, Lib.hid (fun g hg => by simp [Value.ownBlock] at hg), Lib.hid (Nat.le_refl _)⟩
  case round =>
    clear HX HL5 q0 q1 q2 q3 q4 q5 q6
    obtain ⟨k, hk, rfl, HO, HX, HL5, HAP, HSZ⟩ := hrel
    by_cases hlt : k < L.length
    · obtain ⟨ad, rfl, hab, hc0⟩ := HL5.out k (.int .i64 L[k]) (by rw [List.getElem?_map, List.getElem?_eq_getElem hlt]; rfl)
      have hs := slotsIn_snoc (m := m) (b := b) hlt
      have hyl : (slotsIn m b (L.take k)).length ≤ 1000 := Nat.le_trans (slotsIn_len _ _ _) (by rw [List.length_take]; omega)
      obtain ⟨q, hq⟩ : ∃ q, L[k] = q := ⟨_, rfl⟩
      rw [hq] at hs hc0
      have p := hc0
      have HLT5 : Hid (∀ ad', some ad = some ad' → ad'.block < w5.heap.size) := Lib.hid (fun ad' e => by injection e with e; subst e; exact hab)
      obtain ⟨o, ho⟩ : ∃ o, slotOf m.classes q b = o := ⟨_, rfl⟩
      rw [ho] at hs
      have HSV := Lib.hid ho
      have HS := Lib.hid hs
      clear hs ho hq hab hc0
      generalize slotsIn m b (L.take k) = Y at *
      obtain ⟨q0, q1, q2, q3, q4, q5, q6⟩ := HBX.out.keep HX.out HZ.out
      have hszr := HX.out.size
      cases o with
      | none =>
        go_wp2_with (go_at_call 39; (with_reducible refine (cslot_is HIM HX HSV).mono ?_); rintro e w2 ⟨rfl, hb⟩; have HX2 := Lib.hid (HX.out.trans (hb.mono HX.out.size)); have HL52 := Lib.hid ((HL5.out.below_to hb HSZ.out) : Lies w2 w5.heap.size (some ad) (L.map (Value.int .i64))); have HSZ2 : Hid (w5.heap.size ≤ w2.heap.size) := Lib.hid (Nat.le_trans HSZ.out hb.size); have HO2 := Lib.hid (own_below HO.out hb (own_block_lt HO.out)); clear hb)
        go_roundw
        case rel => exact ⟨k + 1, by omega, by go_num, Lib.hid (by rw [HS.out, Option.toList_none, List.append_nil]; exact HO2.out), HX2, HL52, HAP, HSZ2⟩
        case measure => simp [intOf]; omega
      | some g =>
        go_wp2_with (first
          | (go_at_call 39; (with_reducible refine (cslot_is HIM HX HSV).mono ?_); rintro e w2 ⟨rfl, hb⟩; have HX2 := Lib.hid (HX.out.trans (hb.mono HX.out.size)); have HL52 := Lib.hid ((HL5.out.below_to hb HSZ.out) : Lies w2 w5.heap.size (some ad) (L.map (Value.int .i64))); have HSZ2 : Hid (w5.heap.size ≤ w2.heap.size) := Lib.hid (Nat.le_trans HSZ.out hb.size); have HO2 := Lib.hid (own_below HO.out hb (own_block_lt HO.out)); have hsz2 := HX2.out.size; clear hb)
          | (at_builtin; refine wpList_append_lies _ rfl _ _ 26 rfl w1.heap.size 3 i0 (.int .i64 0) 1 8 Try.underlying26 hi hz0 hz1 hz2 rfl (by decide) _ _ _ rfl (HO2.out.alloc _) ⟨_, 0, none⟩ 1 1 [.int .i64 g] rfl rfl (own_one _ _) (one_cell _) (by decide) (by unfold maxLen; omega) (by omega) (by simp; omega) _ rfl ?_; intro g9 c9 w3 hown' hgrow hor hlt9; have hR := own_snoc64 HO2.out hsz2 HX2.out hown' hgrow; have HO3 := Lib.hid hR.1; have HX3 := Lib.hid hR.2; have HL53 := Lib.hid (lies_grown HL52.out HSZ2.out hgrow HAP.out); have HAP3 : Hid (Apart (.slice (some ⟨g9, 0, none⟩) (Y.length + 1) c9) (some ad)) := Lib.hid (apart_next HAP.out HLT5.out hor (by have := HSZ2.out; simp; omega)); have HSZ3 : Hid (w5.heap.size ≤ w3.heap.size) := Lib.hid (by have h1 := hgrow.size; have h2 := HSZ2.out; simp at h1; omega); clear hown' hgrow hR hor hlt9))
        go_roundw
        case rel => exact ⟨k + 1, by omega, by go_num, Lib.hid (by rw [HS.out]; exact HO3.out), HX3, HL53, HAP3, HSZ3⟩
        case measure => simp [intOf]; omega
    · obtain rfl : k = L.length := by omega
      go_wp2_with fail
      go_ret
      rw [List.take_length] at HO
      exact ⟨_, rfl, own_lower HO.out HW.out.size, HW.out.trans (HX.out.mono HW.out.size)⟩
theorem cslots_is {m : Img} {a b : Int} {L : List Int} {h : Hnd} {w0 w : World} (HI : Hid (ImgIn w0 w0.heap.size h m)) (HX : Hid (Below w0.heap.size w0 w)) (hn : m.classes.length ≤ 1000) (HL : Hid (slotsIn m b (belowOf m.classes a) = L)) :
    Calls Try.prog 24 #[imgV h m, .int .i64 a, .int .i64 b] w (OwnInts L w) := by
  have H := cslots_any m a b h w (HI.out.now HX.out) hn
  rw [HL.out] at H
  exact H

set_option maxHeartbeats 1600000 in
theorem cnamed_any (m : Img) (op a b : Int) (h : Hnd) (w : World) (H : ImgIn w w.heap.size h m) (hn : m.classes.length ≤ 1000) :
    Calls Try.prog 17 #[imgV h m, insV op a b] w (OwnInts (targetsOf m op a b) w) := by
  obtain ⟨T, hT⟩ : ∃ T, targetsOf m op a b = T := ⟨_, rfl⟩
  rw [hT]
  have HT := Lib.hid hT
  clear hT
  obtain ⟨hq, hc, hb, hz⟩ := tgt_parts h m op a b w
  have HW := Lib.hid hb
  have HC := Lib.hid hc
  have HZ := Lib.hid hz
  have HBX := Lib.hid hq
  have HIM := Lib.hid (H.now hb)
  have hn1 := hn
  clear hb hq hc hz H hn
  go_enter Try.func17, Try.ntmps17
  go_upto_region 1 with fail
  generalize (w.alloc (imgO h m)).alloc (.cells #[.int .i64 op, .int .i64 a, .int .i64 b] 45) = w1 at *
  have HX0 : Hid (Below w1.heap.size w1 w1) := Lib.hid (Below.refl _ _)
  obtain ⟨q0, q1, q2, q3, q4, q5, q6⟩ := HBX.out
  have j0 := HC.out 0 _ rfl
  have j1 := HC.out 1 _ rfl
  have j2 := HC.out 2 _ rfl
  by_cases h31 : op = 31
  · subst h31
    have e : [a] = T := HT.out
    subst e
    go_wp2_with fail
    go_ret
    have hb : Below w1.heap.size w1 (w1.alloc (.cells #[.int .i64 a] 3)) := (Below.refl _ _).alloc (Nat.le_refl _) _
    refine ⟨_, rfl, ⟨rfl, .inr ⟨w1.heap.size, 1, #[.int .i64 a], rfl, HW.out.size, heap_alloc_new _ _, Nat.le_refl _, by unfold maxLen; omega, rfl, rfl⟩⟩, HW.out.trans (hb.mono HW.out.size)⟩
  · by_cases h32 : op = 32
    · subst h32
      have HL : Hid (slotsIn m b (belowOf m.classes a) = T) := Lib.hid HT.out
      go_wp2_with (go_at_call 24; (with_reducible refine (cslots_is HIM HX0 hn1 HL).mono ?_); rintro e w5 ⟨v5, rfl, ho, hb⟩; have HO := Lib.hid ho; have HX := Lib.hid hb; clear hb ho)
      go_ret
      exact ⟨v5, rfl, own_lower HO.out HW.out.size, HW.out.trans (HX.out.mono HW.out.size)⟩
    · have e : [] = T := by have := HT.out; unfold targetsOf at this; rw [if_neg h31, if_neg h32] at this; exact this
      subst e
      go_wp2_with fail
      go_ret
      exact ⟨_, rfl, World.ownsRow_nil _ _ _ _, HW.out⟩
theorem cnamed_is {m : Img} {op a b : Int} {L : List Int} {h : Hnd} {w0 w : World} (HI : Hid (ImgIn w0 w0.heap.size h m)) (HX : Hid (Below w0.heap.size w0 w)) (hn : m.classes.length ≤ 1000) (HL : Hid (targetsOf m op a b = L)) :
    Calls Try.prog 17 #[imgV h m, insV op a b] w (OwnInts L w) := by
  have H := cnamed_any m op a b h w (HI.out.now HX.out) hn
  rw [HL.out] at H
  exact H
end Go.Proofs.Ytjjgpcmdoodjnaa
