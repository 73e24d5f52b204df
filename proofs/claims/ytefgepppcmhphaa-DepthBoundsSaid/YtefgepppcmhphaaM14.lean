/-
  One number in a block of its own, as a row. Plain lemma; no conditions.
  What the document's own answer for the method in a slot (Slot) comes to.
  A method where it stands: its cells, and what it stands for. Plain lemmas; no conditions.
  What the document's own answer for all classes below one (Below) comes to.
-/
import Derived.Test.YtefgepppcmhphaaM13
import Derived.RegionTactic
import Derived.ChangeAlike
import Derived.Deep.RegionHeld3
import Derived.Deep.QuietTactic
import Derived.BigQuiet
import Derived.IntWalk
import Derived.Test.YtefgepppcmhphaaM04
import Derived.Test.YtefgepppcmhphaaM02
namespace Go.Proofs.Ytefgepppcmhphaa
set_option maxRecDepth 100000
set_option linter.unusedVariables false
set_option linter.unusedSimpArgs false
open Go.ChangeShapes Go.WideShapes Go.ChangeAt Go.RowKit

theorem int_one {w : World} {g : Nat} {n : Int} (hg : g < w.heap.size) (h : w.cell? ⟨g, 0, none⟩ = some (.int .i64 n)) : SlcIs IntAt 1 w w.heap.size (some ⟨g, 0, none⟩) 1 [n] :=
  ⟨Nat.le_refl _, by omega, fun i t hi => by
    match i, hi with
    | 0, hi => simp at hi; subst hi; exact ⟨_, rfl, hg, h⟩
    | i + 1, hi => simp at hi⟩
end Go.Proofs.Ytefgepppcmhphaa
namespace Go.Proofs.Ytefgepppcmhphaa
set_option maxRecDepth 100000
set_option linter.unusedVariables false
set_option linter.unusedSimpArgs false
open Go.ChangeShapes Go.WideShapes Go.ChangeAt Go.RowKit

theorem rslot_any (m : Img) (c n : Int) (h : Hnd) (w : World) (H : ImgIn w w.heap.size h m) :
    Calls Try.prog 42 #[imgV h m, .int .i64 c, .int .i64 n] w (SlotOut (slotOf m.classes c n) w) := by
  have HW := Lib.hid ((Below.refl w.heap.size w).alloc (Nat.le_refl _) (imgO h m))
  have HIM := Lib.hid (H.now HW.out)
  have HBX := Lib.hid (img_box w h m)
  have hle := H.classes.le
  have hcap := H.classes.cap
  have hn63 : m.classes.length ≤ 9223372036854775807 := by omega
  clear H hle hcap
  by_cases hc : 0 ≤ c ∧ c < m.classes.length
  · obtain ⟨c0, c1⟩ := hc
    obtain ⟨i, rfl⟩ := Int.eq_ofNat_of_zero_le c0
    have hi : i < m.classes.length := by omega
    clear c0 c1
    obtain ⟨ad, e0, hab, s0, ⟨A1, k1, s1, hs1⟩, ⟨A2, k2, s2, hs2⟩, _⟩ := HIM.out.classes.row.at_ hi
    have HE := Lib.hid e0
    clear e0
    have l1 := hs2.le
    have l2 := hs2.cap
    have hs63 : m.classes[i].slots.length ≤ 9223372036854775807 := by omega
    have HSL := Lib.hid hs2
    clear hs1 hs2 l1 l2
    by_cases hnn : 0 ≤ n ∧ n < m.classes[i].slots.length
    · obtain ⟨n0, n1⟩ := hnn
      obtain ⟨j, rfl⟩ := Int.eq_ofNat_of_zero_le n0
      have hj : j < m.classes[i].slots.length := by omega
      clear n0 n1
      rw [slotOf_yes hi hj]
      obtain ⟨ad2, rfl, hab2, z0⟩ := HSL.out.row.at_ hj
      clear HSL
      rw [Nat.mul_one] at z0
      generalize m.classes[i].slots[j] = f at *
      generalize m.classes[i] = x at *
      have z0' : (w.alloc (imgO h m)).cell? (ad2.add j) = some (.int .i64 f) := z0
      clear z0
      go_enter Try.func42, Try.ntmps42
      go_upto_region 1 with fail
      generalize w.alloc (imgO h m) = w1 at *
      obtain ⟨q0, q1, q2, q3, q4, q5, q6⟩ := HBX.out
      rw [HE.out] at q0
      go_wp2_with fail
      go_ret2
      exact ⟨rfl, HW.out⟩
    · rw [slotOf_slot hi (by omega)]
      have hno : n < 0 ∨ (m.classes[i].slots.length : Int) ≤ n := by omega
      clear hnn HSL
      generalize m.classes[i] = x at *
      rcases hno with hno | hno
      · go_enter Try.func42, Try.ntmps42
        go_upto_region 1 with fail
        generalize w.alloc (imgO h m) = w1 at *
        obtain ⟨q0, q1, q2, q3, q4, q5, q6⟩ := HBX.out
        rw [HE.out] at q0
        go_wp2_with fail
        go_ret2
        exact ⟨rfl, HW.out⟩
      · have hn0 : 0 ≤ n := by omega
        go_enter Try.func42, Try.ntmps42
        go_upto_region 1 with fail
        generalize w.alloc (imgO h m) = w1 at *
        obtain ⟨q0, q1, q2, q3, q4, q5, q6⟩ := HBX.out
        rw [HE.out] at q0
        go_wp2_with fail
        go_ret2
        exact ⟨rfl, HW.out⟩
  · have hno : c < 0 ∨ (m.classes.length : Int) ≤ c := by omega
    rw [slotOf_class hno]
    clear hc
    rcases hno with hno | hno
    · go_enter Try.func42, Try.ntmps42
      go_upto_region 1 with fail
      generalize w.alloc (imgO h m) = w1 at *
      obtain ⟨q0, q1, q2, q3, q4, q5, q6⟩ := HBX.out
      go_wp2_with fail
      go_ret2
      exact ⟨rfl, HW.out⟩
    · have hn0 : 0 ≤ c := by omega
      go_enter Try.func42, Try.ntmps42
      go_upto_region 1 with fail
      generalize w.alloc (imgO h m) = w1 at *
      obtain ⟨q0, q1, q2, q3, q4, q5, q6⟩ := HBX.out
      go_wp2_with fail
      go_ret2
      exact ⟨rfl, HW.out⟩
theorem rslot_is {m : Img} {h : Hnd} {w0 w : World} {c n : Int} {o : Option Int} (HI : Hid (ImgIn w0 w0.heap.size h m)) (HX : Hid (Below w0.heap.size w0 w)) (HO : Hid (slotOf m.classes c n = o)) :
    Calls Try.prog 42 #[imgV h m, .int .i64 c, .int .i64 n] w (SlotOut o w) := by
  have H := rslot_any m c n h w (HI.out.now HX.out)
  rw [HO.out] at H
  exact H
end Go.Proofs.Ytefgepppcmhphaa
namespace Go.Proofs.Ytefgepppcmhphaa
set_option maxRecDepth 100000
set_option linter.unusedVariables false
set_option linter.unusedSimpArgs false
open Go.ChangeShapes Go.WideShapes Go.ChangeAt Go.RowKit

structure MthC (w : World) (p : Addr) (hx : MHnd) (x : Mth) : Prop where
  c0 : w.cell? p = some (.slice hx.A0 x.args.length hx.k0)
  c1 : w.cell? (off_ p 1) = some (.slice hx.A1 x.locals.length hx.k1)
  c2 : w.cell? (off_ p 2) = some (.int .i64 x.ret.1)
  c3 : w.cell? (off_ p 3) = some (.int .i64 x.ret.2)
  c4 : w.cell? (off_ p 4) = some (.slice hx.A4 x.code.length hx.k4)
  c5 : w.cell? (off_ p 5) = some (.int .i64 x.depth)
  c6 : w.cell? (off_ p 6) = some (.int .i64 x.pot)
  c7 : w.cell? (off_ p 7) = some (.slice hx.A7 x.phi.length hx.k7)
theorem MthC.keep {w w' : World} {p : Addr} {hx : MHnd} {x : Mth} {B : Nat} (h : MthC w p hx x) (hb : Below B w w') (hp : p.block < B) : MthC w' p hx x :=
  ⟨(hb.cell hp).trans h.c0, (hb.cell (p := off_ p 1) hp).trans h.c1, (hb.cell (p := off_ p 2) hp).trans h.c2, (hb.cell (p := off_ p 3) hp).trans h.c3, (hb.cell (p := off_ p 4) hp).trans h.c4,
    (hb.cell (p := off_ p 5) hp).trans h.c5, (hb.cell (p := off_ p 6) hp).trans h.c6, (hb.cell (p := off_ p 7) hp).trans h.c7⟩
theorem mthAt_in {w : World} {B : Nat} {p : Addr} {x : Mth} (h : MthAt w B p x) : ∃ hx, MthIn w B hx x ∧ MthC w p hx x := by
  obtain ⟨⟨A0, k0, s0, hs0⟩, ⟨A1, k1, s1, hs1⟩, s2, s3, ⟨A4, k4, s4, hs4⟩, s5, s6, ⟨A7, k7, s7, hs7⟩⟩ := h
  exact ⟨⟨A0, A1, A4, A7, k0, k1, k4, k7⟩, ⟨hs0, hs1, hs4, hs7⟩, ⟨s0, s1, s2, s3, s4, s5, s6, s7⟩⟩
/-- A method among an image's. -/
theorem img_mth {w : World} {B : Nat} {h : Hnd} {m : Img} (H : ImgIn w B h m) {k : Nat} (hk : k < m.methods.length) : ∃ ad hx, h.A3 = some ad ∧ ad.block < B ∧ MthIn w B hx m.methods[k] ∧ MthC w (ad.add (k * 8)) hx m.methods[k] := by
  obtain ⟨ad, e, hb, hm⟩ := H.methods.row.at_ hk
  obtain ⟨hx, h1, h2⟩ := mthAt_in hm
  exact ⟨ad, hx, e, hb, h1, h2⟩
end Go.Proofs.Ytefgepppcmhphaa
namespace Go.Proofs.Ytefgepppcmhphaa
set_option maxRecDepth 100000
set_option linter.unusedVariables false
set_option linter.unusedSimpArgs false
open Go.ChangeShapes Go.WideShapes Go.ChangeAt Go.RowKit

set_option maxHeartbeats 1600000 in
theorem rbelow_any (m : Img) (c : Int) (h : Hnd) (w : World) (H : ImgIn w w.heap.size h m) (hn : m.classes.length ≤ 1000) :
    Calls Try.prog 41 #[imgV h m, .int .i64 c] w (OwnInts (belowOf m.classes c) w) := by
  obtain ⟨i0, hi, hz0, hz1, hz2⟩ := info_parts info_int
  have HW := Lib.hid ((Below.refl w.heap.size w).alloc (Nat.le_refl _) (imgO h m))
  have HIM := Lib.hid (H.now HW.out)
  have HBX := Lib.hid (img_box w h m)
  have HZ : Hid (w.heap.size < (w.alloc (imgO h m)).heap.size) := Lib.hid (by simp)
  have HS := Lib.hid (supers_of HIM.out.classes.row)
  have hsl : (supsOf m.classes).length = m.classes.length := supsOf_len _
  have hle := H.classes.le
  have hcap := H.classes.cap
  have HE := Lib.hid (show belowOf m.classes c = belowTo (supsOf m.classes) c m.classes.length from rfl)
  obtain ⟨sup, hsup⟩ : ∃ sup, supsOf m.classes = sup := ⟨_, rfl⟩
  rw [hsup] at hsl HS HE
  have HSl := Lib.hid hsl
  clear hsl hsup H
  go_enter Try.func41, Try.ntmps41
  go_upto_region 1 with fail
  generalize w.alloc (imgO h m) = w1 at *
  go_wp2
  go_loopw [5, 6] (fun v i wr => ∃ k : Nat, k ≤ m.classes.length ∧ i = .int .i64 k ∧ Hid (wr.ownsRow w1.heap.size 3 1 v (belowTo sup c k).length ((belowTo sup c k).map (Value.int .i64))) ∧ Hid (Below w1.heap.size w1 wr)) (fun _ i _ => m.classes.length - (intOf i).toNat)
  case atStart => exact ⟨0, Nat.zero_le _, rfl, Lib.hid (own_empty w1 _), Lib.hid ((Below.refl _ _).alloc (Nat.le_refl _) _)⟩
  case round =>
    obtain ⟨k, hk, rfl, HO, HX⟩ := hrel
    obtain ⟨q0, q1, q2, q3, q4, q5, q6⟩ := HBX.out.keep HX.out HZ.out
    have hbl := belowTo_len sup c k
    by_cases hlt : k < m.classes.length
    · obtain ⟨b, hb⟩ : ∃ b, inB (aboveI sup k) c = b := ⟨_, rfl⟩
      have HST := Lib.hid (show belowTo sup c (k + 1) = if b = true then belowTo sup c k ++ [(k : Int)] else belowTo sup c k by rw [← hb]; rfl)
      obtain ⟨U, hU⟩ : ∃ U, aboveI sup k = U := ⟨_, rfl⟩
      have hUl : U.length ≤ 9223372036854775807 := by rw [← hU]; have := aboveI_len sup k; have := HSl.out; omega
      have HU := Lib.hid hU
      rw [hU] at hb
      have HB := Lib.hid hb
      clear hU hb
      have HSr := Lib.hid ((HS.out.below_to HX.out (Nat.le_refl _)) : Supers wr w1.heap.size h.A0 sup)
      generalize belowTo sup c k = L at *
      have hsz := HX.out.size
      have HSw : Hid (Supers wr wr.heap.size h.A0 sup) := Lib.hid (fun i s hs => by obtain ⟨ad, e, a0, a1⟩ := HSr.out i s hs; exact ⟨ad, e, Nat.lt_of_lt_of_le a0 hsz, a1⟩)
      have hn' : m.classes.length ≤ 1048576 := by omega
      cases b
      · have e1 : belowTo sup c (k + 1) = L := HST.out
        have HST1 := Lib.hid e1
        clear e1 HST
        go_wp2_with (first
          | (go_at_call 54; (with_reducible refine (rabove_is HSl hn' HU HSw).mono ?_); rintro e w2 ⟨v2, rfl, ho, hb⟩; have HX2 := Lib.hid (HX.out.trans (hb.mono hsz)); have HO2 := Lib.hid (own_below HO.out hb (own_block_lt HO.out)); obtain ⟨A2, c2, rfl, hl2, g1, g2⟩ := own_ints ho; have HL2 := Lib.hid hl2; have hsz2 := HX2.out.size; clear hb ho hl2)
          | (go_at_call 25; (with_reducible refine (rin_any _ _ _ _ _ _ hUl HL2.out).mono ?_); rintro e w' ⟨he, rfl⟩; rw [HB.out] at he; subst he; obtain ⟨q0, q1, q2, q3, q4, q5, q6⟩ := HBX.out.keep HX2.out HZ.out))
        go_roundw
        case rel => exact ⟨k + 1, by omega, by go_num, Lib.hid (by rw [HST1.out]; exact HO2.out), HX2⟩
        case measure => simp [intOf]; omega
      · have e1 : belowTo sup c (k + 1) = L ++ [(k : Int)] := HST.out
        have HST1 := Lib.hid e1
        clear e1 HST
        go_wp2_with (first
          | (go_at_call 54; (with_reducible refine (rabove_is HSl hn' HU HSw).mono ?_); rintro e w2 ⟨v2, rfl, ho, hb⟩; have HX2 := Lib.hid (HX.out.trans (hb.mono hsz)); have HO2 := Lib.hid (own_below HO.out hb (own_block_lt HO.out)); obtain ⟨A2, c2, rfl, hl2, g1, g2⟩ := own_ints ho; have HL2 := Lib.hid hl2; have hsz2 := HX2.out.size; clear hb ho hl2)
          | (go_at_call 25; (with_reducible refine (rin_any _ _ _ _ _ _ hUl HL2.out).mono ?_); rintro e w' ⟨he, rfl⟩; rw [HB.out] at he; subst he; obtain ⟨q0, q1, q2, q3, q4, q5, q6⟩ := HBX.out.keep HX2.out HZ.out)
          | (at_builtin; refine wpList_append_own _ rfl _ _ 26 rfl w1.heap.size 3 i0 (.int .i64 0) 1 8 Try.underlying26 hi hz0 hz1 hz2 rfl (by decide) _ _ _ rfl (HO2.out.alloc _) ⟨_, 0, none⟩ 1 1 [.int .i64 (k : Int)] rfl rfl (own_one _ _) (one_cell _) (by unfold maxLen; omega) (by omega) (by simp; omega) ?_; intro v' w3 hown' hgrow _; have hR := own_snoc64 HO2.out hsz2 HX2.out hown' hgrow; have HO3 := Lib.hid hR.1; have HX3 := Lib.hid hR.2; clear hown' hgrow hR))
        go_roundw
        case rel => exact ⟨k + 1, by omega, by go_num, Lib.hid (by rw [HST1.out]; exact HO3.out), HX3⟩
        case measure => simp [intOf]; omega
    · obtain rfl : k = m.classes.length := by omega
      go_wp2_with fail
      go_ret
      refine ⟨_, rfl, ?_, HW.out.trans (HX.out.mono HW.out.size)⟩
      rw [HE.out]
      exact own_lower HO.out HW.out.size
section
variable {m : Img} {h : Hnd} {w0 w : World} {c : Int}
theorem rbelow_is {L : List Int} (HI : Hid (ImgIn w0 w0.heap.size h m)) (HX : Hid (Below w0.heap.size w0 w)) (HL : Hid (belowOf m.classes c = L)) (hn : m.classes.length ≤ 1000) :
    Calls Try.prog 41 #[imgV h m, .int .i64 c] w (OwnInts L w) := by
  have H := rbelow_any m c h w (HI.out.now HX.out) hn
  rw [HL.out] at H
  exact H
end
end Go.Proofs.Ytefgepppcmhphaa
