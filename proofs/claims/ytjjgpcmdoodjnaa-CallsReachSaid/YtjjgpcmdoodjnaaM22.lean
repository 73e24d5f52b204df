/-
  A method where it stands: its cells, and what it stands for. Plain lemmas; no conditions.
  What the document's own answer for all classes below one (Below) comes to.
  What the document's own answer for where an instruction may call to (Targets) comes to.
-/
import Derived.Test.YtjjgpcmdoodjnaaM09
import Derived.Test.YtjjgpcmdoodjnaaM20
import Derived.Test.YtjjgpcmdoodjnaaM05
import Derived.Test.YtjjgpcmdoodjnaaM21
namespace Go.Proofs.Ytjjgpcmdoodjnaa
set_option maxRecDepth 100000
set_option linter.unusedVariables false
set_option linter.unusedSimpArgs false
open Go.ChangeShapes Go.WideShapes Go.ChangeAt Go.RowKit

structure MthC (w : World) (p : Addr) (hx : MHnd) (x : Mth) : Prop where
  c0 : w.cell? p = some (.slice hx.A0 x.args.length hx.k0)
  c1 : w.cell? (off_ p 1) = some (.slice hx.A1 x.locals.length hx.k1)
  c2 : w.cell? (off_ p 2) = some (.int .i64 x.ret.1)
  c3 : w.cell? (off_ p 3) = some (.int .i64 x.ret.2)
  c4 : w.cell? (off_ p 4) = some (.slice hx.A4 x.code.length hx.k4)
  c5 : w.cell? (off_ p 5) = some (.int .i64 x.depth)
  c6 : w.cell? (off_ p 6) = some (.int .i64 x.pot)
  c7 : w.cell? (off_ p 7) = some (.slice hx.A7 x.phi.length hx.k7)
theorem MthC.keep {w w' : World} {p : Addr} {hx : MHnd} {x : Mth} {B : Nat} (h : MthC w p hx x) (hb : Below B w w') (hp : p.block < B) : MthC w' p hx x :=
  ⟨(hb.cell hp).trans h.c0, (hb.cell (p := off_ p 1) hp).trans h.c1, (hb.cell (p := off_ p 2) hp).trans h.c2, (hb.cell (p := off_ p 3) hp).trans h.c3, (hb.cell (p := off_ p 4) hp).trans h.c4,
    (hb.cell (p := off_ p 5) hp).trans h.c5, (hb.cell (p := off_ p 6) hp).trans h.c6, (hb.cell (p := off_ p 7) hp).trans h.c7⟩
theorem mthAt_in {w : World} {B : Nat} {p : Addr} {x : Mth} (h : MthAt w B p x) : ∃ hx, MthIn w B hx x ∧ MthC w p hx x := by
  obtain ⟨⟨A0, k0, s0, hs0⟩, ⟨A1, k1, s1, hs1⟩, s2, s3, ⟨A4, k4, s4, hs4⟩, s5, s6, ⟨A7, k7, s7, hs7⟩⟩ := h
  exact ⟨⟨A0, A1, A4, A7, k0, k1, k4, k7⟩, ⟨hs0, hs1, hs4, hs7⟩, ⟨s0, s1, s2, s3, s4, s5, s6, s7⟩⟩
/-- A method among an image's. -/
theorem img_mth {w : World} {B : Nat} {h : Hnd} {m : Img} (H : ImgIn w B h m) {k : Nat} (hk : k < m.methods.length) : ∃ ad hx, h.A3 = some ad ∧ ad.block < B ∧ MthIn w B hx m.methods[k] ∧ MthC w (ad.add (k * 8)) hx m.methods[k] := by
  obtain ⟨ad, e, hb, hm⟩ := H.methods.row.at_ hk
  obtain ⟨hx, h1, h2⟩ := mthAt_in hm
  exact ⟨ad, hx, e, hb, h1, h2⟩
end Go.Proofs.Ytjjgpcmdoodjnaa
namespace Go.Proofs.Ytjjgpcmdoodjnaa
set_option maxRecDepth 100000
set_option linter.unusedVariables false
set_option linter.unusedSimpArgs false
open Go.ChangeShapes Go.WideShapes Go.ChangeAt Go.RowKit

set_option maxHeartbeats 1600000 in
theorem rbelow_any (m : Img) (c : Int) (h : Hnd) (w : World) (H : ImgIn w w.heap.size h m) (hn : m.classes.length ≤ 1000) :
    Calls Try.prog 36 #[imgV h m, .int .i64 c] w (OwnInts (belowOf m.classes c) w) := by
  obtain ⟨i0, hi, hz0, hz1, hz2⟩ := info_parts info_int
  have HW := Lib.hid ((Below.refl w.heap.size w).alloc (Nat.le_refl _) (imgO h m))
  have HIM := Lib.hid (H.now HW.out)
  have HBX := Lib.hid (img_box w h m)
  have HZ : Hid (w.heap.size < (w.alloc (imgO h m)).heap.size) := Lib.hid (by simp)
  have HS := Lib.hid (supers_of HIM.out.classes.row)
  have hsl : (supsOf m.classes).length = m.classes.length := supsOf_len _
  have hle := H.classes.le
  have hcap := H.classes.cap
  have HE := Lib.hid (show belowOf m.classes c = belowTo (supsOf m.classes) c m.classes.length from rfl)
  obtain ⟨sup, hsup⟩ : ∃ sup, supsOf m.classes = sup := ⟨_, rfl⟩
  rw [hsup] at hsl HS HE
  have HSl := Lib.hid hsl
  clear hsl hsup H
  go_enter Try.func36, Try.ntmps36
  go_upto_region 1 with fail
  generalize w.alloc (imgO h m) = w1 at *
  go_wp2
  go_loopw [5, 6] (fun v i wr => ∃ k : Nat, k ≤ m.classes.length ∧ i = .int .i64 k ∧ Hid (wr.ownsRow w1.heap.size 3 1 v (belowTo sup c k).length ((belowTo sup c k).map (Value.int .i64))) ∧ Hid (Below w1.heap.size w1 wr)) (fun _ i _ => m.classes.length - (intOf i).toNat)
  case atStart => exact ⟨0, Nat.zero_le _, rfl, Lib.hid (own_empty w1 _), Lib.hid ((Below.refl _ _).alloc (Nat.le_refl _) _)⟩
  case round =>
    obtain ⟨k, hk, rfl, HO, HX⟩ := hrel
    obtain ⟨q0, q1, q2, q3, q4, q5, q6⟩ := HBX.out.keep HX.out HZ.out
    have hbl := belowTo_len sup c k
    by_cases hlt : k < m.classes.length
    · obtain ⟨b, hb⟩ : ∃ b, inB (aboveI sup k) c = b := ⟨_, rfl⟩
      have HST := Lib.hid (show belowTo sup c (k + 1) = if b = true then belowTo sup c k ++ [(k : Int)] else belowTo sup c k by rw [← hb]; rfl)
      obtain ⟨U, hU⟩ : ∃ U, aboveI sup k = U := ⟨_, rfl⟩
      have hUl : U.length ≤ 9223372036854775807 := by rw [← hU]; have := aboveI_len sup k; have := HSl.out; omega
      have HU := Lib.hid hU
      rw [hU] at hb
      have HB := Lib.hid hb
      clear hU hb
      have HSr := Lib.hid ((HS.out.below_to HX.out (Nat.le_refl _)) : Supers wr w1.heap.size h.A0 sup)
      generalize belowTo sup c k = L at *
      have hsz := HX.out.size
      have HSw : Hid (Supers wr wr.heap.size h.A0 sup) := Lib.hid (fun i s hs => by obtain ⟨ad, e, a0, a1⟩ := HSr.out i s hs; exact ⟨ad, e, Nat.lt_of_lt_of_le a0 hsz, a1⟩)
      have hn' : m.classes.length ≤ 1048576 := by omega
      cases b
      · have e1 : belowTo sup c (k + 1) = L := HST.out
        have HST1 := Lib.hid e1
        clear e1 HST
        go_wp2_with (first
          | (go_at_call 43; (with_reducible refine (rabove_is HSl hn' HU HSw).mono ?_); rintro e w2 ⟨v2, rfl, ho, hb⟩; have HX2 := Lib.hid (HX.out.trans (hb.mono hsz)); have HO2 := Lib.hid (own_below HO.out hb (own_block_lt HO.out)); obtain ⟨A2, c2, rfl, hl2, g1, g2⟩ := own_ints ho; have HL2 := Lib.hid hl2; have hsz2 := HX2.out.size; clear hb ho hl2)
          | (go_at_call 13; (with_reducible refine (rin_any _ _ _ _ _ _ hUl HL2.out).mono ?_); rintro e w' ⟨he, rfl⟩; rw [HB.out] at he; subst he; obtain ⟨q0, q1, q2, q3, q4, q5, q6⟩ := HBX.out.keep HX2.out HZ.out))
        go_roundw
        case rel => exact ⟨k + 1, by omega, by go_num, Lib.hid (by rw [HST1.out]; exact HO2.out), HX2⟩
        case measure => simp [intOf]; omega
      · have e1 : belowTo sup c (k + 1) = L ++ [(k : Int)] := HST.out
        have HST1 := Lib.hid e1
        clear e1 HST
        go_wp2_with (first
          | (go_at_call 43; (with_reducible refine (rabove_is HSl hn' HU HSw).mono ?_); rintro e w2 ⟨v2, rfl, ho, hb⟩; have HX2 := Lib.hid (HX.out.trans (hb.mono hsz)); have HO2 := Lib.hid (own_below HO.out hb (own_block_lt HO.out)); obtain ⟨A2, c2, rfl, hl2, g1, g2⟩ := own_ints ho; have HL2 := Lib.hid hl2; have hsz2 := HX2.out.size; clear hb ho hl2)
          | (go_at_call 13; (with_reducible refine (rin_any _ _ _ _ _ _ hUl HL2.out).mono ?_); rintro e w' ⟨he, rfl⟩; rw [HB.out] at he; subst he; obtain ⟨q0, q1, q2, q3, q4, q5, q6⟩ := HBX.out.keep HX2.out HZ.out)
          | (at_builtin; refine wpList_append_own _ rfl _ _ 26 rfl w1.heap.size 3 i0 (.int .i64 0) 1 8 Try.underlying26 hi hz0 hz1 hz2 rfl (by decide) _ _ _ rfl (HO2.out.alloc _) ⟨_, 0, none⟩ 1 1 [.int .i64 (k : Int)] rfl rfl (own_one _ _) (one_cell _) (by unfold maxLen; omega) (by omega) (by simp; omega) ?_; intro v' w3 hown' hgrow _; have hR := own_snoc64 HO2.out hsz2 HX2.out hown' hgrow; have HO3 := Lib.hid hR.1; have HX3 := Lib.hid hR.2; clear hown' hgrow hR))
        go_roundw
        case rel => exact ⟨k + 1, by omega, by go_num, Lib.hid (by rw [HST1.out]; exact HO3.out), HX3⟩
        case measure => simp [intOf]; omega
    · obtain rfl : k = m.classes.length := by omega
      go_wp2_with fail
      go_ret
      refine ⟨_, rfl, ?_, HW.out.trans (HX.out.mono HW.out.size)⟩
      rw [HE.out]
      exact own_lower HO.out HW.out.size
section
variable {m : Img} {h : Hnd} {w0 w : World} {c : Int}
theorem rbelow_is {L : List Int} (HI : Hid (ImgIn w0 w0.heap.size h m)) (HX : Hid (Below w0.heap.size w0 w)) (HL : Hid (belowOf m.classes c = L)) (hn : m.classes.length ≤ 1000) :
    Calls Try.prog 36 #[imgV h m, .int .i64 c] w (OwnInts L w) := by
  have H := rbelow_any m c h w (HI.out.now HX.out) hn
  rw [HL.out] at H
  exact H
end
end Go.Proofs.Ytjjgpcmdoodjnaa
namespace Go.Proofs.Ytjjgpcmdoodjnaa
set_option maxRecDepth 100000
set_option linter.unusedVariables false
set_option linter.unusedSimpArgs false
open Go.ChangeShapes Go.WideShapes Go.ChangeAt Go.RowKit

/-- What lies in a slot of each of these classes. -/
def slotsIn (m : Img) (b : Int) (l : List Int) : List Int := l.filterMap fun k => slotOf m.classes k b
def targetsOf (m : Img) (op a b : Int) : List Int := if op = 31 then [a] else if op = 32 then slotsIn m b (belowOf m.classes a) else []
theorem slotsIn_snoc {m : Img} {b : Int} {l : List Int} {k : Nat} (hk : k < l.length) : slotsIn m b (l.take (k + 1)) = slotsIn m b (l.take k) ++ (slotOf m.classes l[k] b).toList := by
  unfold slotsIn
  rw [List.take_add_one, List.getElem?_eq_getElem hk, List.filterMap_append]
  congr 1
theorem slotsIn_len (m : Img) (b : Int) (l : List Int) : (slotsIn m b l).length ≤ l.length := List.length_filterMap_le _ _
theorem tgt_parts (h : Hnd) (m : Img) (op a b : Int) (w : World) : ImgBox ((w.alloc (imgO h m)).alloc (.cells #[.int .i64 op, .int .i64 a, .int .i64 b] 45)) w.heap.size h m ∧
    Cells ((w.alloc (imgO h m)).alloc (.cells #[.int .i64 op, .int .i64 a, .int .i64 b] 45)) (w.heap.size + 1) [.int .i64 op, .int .i64 a, .int .i64 b] ∧
    Below w.heap.size w ((w.alloc (imgO h m)).alloc (.cells #[.int .i64 op, .int .i64 a, .int .i64 b] 45)) ∧ ((w.alloc (imgO h m)).alloc (.cells #[.int .i64 op, .int .i64 a, .int .i64 b] 45)).heap.size = w.heap.size + 2 := by
  have z0 : (w.alloc (imgO h m)).heap.size = w.heap.size + 1 := by simp
  obtain ⟨c1, z1, b1⟩ := cells_step z0 [.int .i64 op, .int .i64 a, .int .i64 b] 45
  exact ⟨(img_box w h m).keep b1 (by omega), c1, ((Below.refl w.heap.size w).alloc (Nat.le_refl _) (imgO h m)).trans (b1.mono (by omega)), z1⟩

set_option maxHeartbeats 1600000 in
theorem rtargets_none (m : Img) (op a b : Int) (n31 : ¬ op = 31) (n32 : ¬ op = 32) (h : Hnd) (w : World) :
    Calls Try.prog 23 #[imgV h m, insV op a b] w (OwnInts (targetsOf m op a b) w) := by
  have e0 : targetsOf m op a b = [] := by unfold targetsOf; rw [if_neg n31, if_neg n32]
  rw [e0]
  clear e0
  obtain ⟨hq, hc, hb, hz⟩ := tgt_parts h m op a b w
  have HW := Lib.hid hb
  have HC := Lib.hid hc
  have HZ := Lib.hid hz
  clear hb hq hc hz
  go_enter Try.func23, Try.ntmps23
  go_upto_region 1 with fail
  generalize (w.alloc (imgO h m)).alloc (.cells #[.int .i64 op, .int .i64 a, .int .i64 b] 45) = w1 at *
  have j0 := (HC.out.keep ((Below.refl w1.heap.size w1).alloc (Nat.le_refl _) (.cells #[] 3)) (by have := HZ.out; omega)) 0 _ rfl
  go_wp2_with fail
  go_ret
  exact ⟨_, rfl, own_lower (own_empty w1 _) HW.out.size, HW.out.trans (((Below.refl w1.heap.size w1).alloc (Nat.le_refl _) _).mono HW.out.size)⟩

set_option maxHeartbeats 1600000 in
theorem rtargets_call (m : Img) (a b : Int) (h : Hnd) (w : World) :
    Calls Try.prog 23 #[imgV h m, insV 31 a b] w (OwnInts (targetsOf m 31 a b) w) := by
  rw [show targetsOf m 31 a b = [] ++ [a] from rfl]
  obtain ⟨i0, hi, hz0, hz1, hz2⟩ := info_parts info_int
  obtain ⟨hq, hc, hb, hz⟩ := tgt_parts h m 31 a b w
  have HW := Lib.hid hb
  have HC := Lib.hid hc
  have HZ := Lib.hid hz
  clear hb hq hc hz
  go_enter Try.func23, Try.ntmps23
  go_upto_region 1 with fail
  generalize (w.alloc (imgO h m)).alloc (.cells #[.int .i64 31, .int .i64 a, .int .i64 b] 45) = w1 at *
  go_upto_region 2 with fail
  have HO := Lib.hid (own_empty w1 3)
  have HX := Lib.hid ((Below.refl w1.heap.size w1).alloc (Nat.le_refl _) (.cells #[] 3))
  generalize w1.alloc (.cells #[] 3) = w2 at *
  have hlt : w.heap.size + 1 < w1.heap.size := by have := HZ.out; omega
  have HL := Lib.hid hlt
  clear hlt
  have j0 := (HC.out.keep HX.out HL.out) 0 _ rfl
  have j1 := (HC.out.keep HX.out HL.out) 1 _ rfl
  have hsz := HX.out.size
  go_wp2_with (first
    | (at_builtin; refine wpList_append_own _ rfl _ _ 26 rfl w1.heap.size 3 i0 (.int .i64 0) 1 8 Try.underlying26 hi hz0 hz1 hz2 rfl (by decide) _ _ _ rfl (HO.out.alloc _) ⟨_, 0, none⟩ 1 1 [.int .i64 a] rfl rfl (own_one _ _) (one_cell _) (by unfold maxLen; omega) (by omega) (by simp; omega) ?_; intro v' w3 hown' hgrow _; have hR := own_snoc64 (pre := []) HO.out hsz HX.out hown' hgrow; have HO3 := Lib.hid hR.1; have HX3 := Lib.hid hR.2; have j0 := (HC.out.keep HX3.out HL.out) 0 _ rfl; clear hown' hgrow hR))
  go_ret
  exact ⟨_, rfl, own_lower HO3.out HW.out.size, HW.out.trans (HX3.out.mono HW.out.size)⟩
end Go.Proofs.Ytjjgpcmdoodjnaa
