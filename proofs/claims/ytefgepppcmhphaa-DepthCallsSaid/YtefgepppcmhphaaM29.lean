/-
  slices.BinarySearch of numbers, from the library: of rising numbers it tells whether one is among them.
  All classes that are below one (Below), by the program.
  The method in a slot of a class (Slot), and how many cells an object takes (Size), by the program and by the document.
  What calls' own small words come to: is there a method of that number (isMethod), the methods in a slot of all classes below one (slots), those that an instruction may call (named).
  The methods that instructions may call, as a set that grows; a list elsewhere while a map is stored into. Plain lemmas; no conditions.
-/
import Derived.Test.YtefgepppcmhphaaM02
import Derived.Test.YtefgepppcmhphaaM01
import Derived.Lib.Hide
import Derived.Deep.LoopGhost
import Derived.Deep.QuietTactic
import Derived.BigQuiet
import Derived.WalkKit
import Derived.Test.YtefgepppcmhphaaM28
import Derived.Test.YtefgepppcmhphaaM13
import Derived.Test.YtefgepppcmhphaaM15
import Derived.RegionTactic
import Derived.ChangeAlike
import Derived.Deep.RegionHeld3
import Derived.Test.YtefgepppcmhphaaM16
namespace Go.Proofs.Ytefgepppcmhphaa
set_option maxRecDepth 100000
set_option linter.unusedVariables false
set_option linter.unusedSimpArgs false
open Go.ChangeShapes Go.WideShapes Go.ChangeAt Go.RowKit

theorem cmpNaN_any (x : Int) (w : World) : Calls Try.prog 68 #[.int .i64 x] w fun e w' => e = .returned (.bool false) ∧ w = w' := by
  go_enter Try.func68, Try.ntmps68
  go_wp2
  go_ret
  exact ⟨by simp, rfl⟩
theorem sliceNaN_any (x : Int) (w : World) : Calls Try.prog 61 #[.int .i64 x] w fun e w' => e = .returned (.bool false) ∧ w = w' := by
  go_enter Try.func61, Try.ntmps61
  go_wp2
  go_ret
  exact ⟨by simp, rfl⟩
theorem cmpLess_any (x y : Int) (w : World) : Calls Try.prog 60 #[.int .i64 x, .int .i64 y] w fun e w' => e = .returned (.bool (decide (x < y))) ∧ w = w' := by
  go_enter Try.func60, Try.ntmps60
  go_wp2_with (go_at_call 68; (with_reducible refine (cmpNaN_any _ _).mono ?_); rintro e w' ⟨rfl, rfl⟩)
  go_ret
  exact ⟨rfl, rfl⟩

theorem getD_at {l : List Int} {t : Nat} (h : t < l.length) : l.getD t 0 = l[t] := by simp [List.getD, List.getElem?_eq_getElem h]
theorem rise_at {l : List Int} (h : l.Pairwise (· < ·)) {a b : Nat} (hab : a ≤ b) (hb : b < l.length) : l.getD a 0 ≤ l.getD b 0 := by
  rcases Nat.lt_or_ge a b with g | g
  · have := List.pairwise_iff_getElem.mp h a b (by omega) hb g
    rw [getD_at (by omega), getD_at hb]
    omega
  · obtain rfl : a = b := by omega
    exact Int.le_refl _
theorem rise_in {l : List Int} {x : Int} {lo : Nat} (h1 : ∀ t, t < lo → l.getD t 0 < x) (h2 : ∀ t, lo ≤ t → t < l.length → x ≤ l.getD t 0) (h : l.Pairwise (· < ·)) : inB l x = (decide (lo < l.length) && decide (l.getD lo 0 = x)) := by
  unfold inB
  rw [Bool.eq_iff_iff]
  simp only [decide_eq_true_eq, Bool.and_eq_true]
  constructor
  · intro hm
    obtain ⟨t, ht, e⟩ := List.mem_iff_getElem.mp hm
    have et : l.getD t 0 = x := by rw [getD_at ht]; exact e
    have hlt : lo ≤ t := by
      rcases Nat.lt_or_ge t lo with g | g
      · have := h1 t g; omega
      · exact g
    refine ⟨by omega, ?_⟩
    have := rise_at h hlt ht
    have := h2 lo (Nat.le_refl _) (by omega)
    omega
  · rintro ⟨hl, e⟩
    rw [getD_at hl] at e
    rw [← e]
    exact List.getElem_mem hl

def FoundIn (b : Bool) (w : World) (e : Ending) (w' : World) : Prop := ∃ p : Int, e = .returned (.tuple #[.int .i64 p, .bool b]) ∧ Below w.heap.size w w'

set_option maxHeartbeats 4000000 in
theorem search_any (l : List Int) (x : Int) (A : Option Addr) (cap : Nat) (w : World) (hl : l.length ≤ 1048576) (h : Lies w w.heap.size A (l.map (Value.int .i64))) (hs : l.Pairwise (· < ·)) :
    Calls Try.prog 39 #[.slice A l.length cap, .int .i64 x] w (FoundIn (inB l x) w) := by
  have HL := Lib.hid h
  have HS := Lib.hid hs
  obtain ⟨b, hb⟩ : ∃ b, inB l x = b := ⟨_, rfl⟩
  have E := Lib.hid hb
  rw [hb]
  clear h hs hb
  obtain ⟨n, hn⟩ : ∃ n, l.length = n := ⟨_, rfl⟩
  have HN := Lib.hid hn
  rw [hn] at hl ⊢
  clear hn
  go_enter Try.func39, Try.ntmps39
  go_wp2
  go_loopg [7, 8] n (fun g s7 s8 wr => ∃ lo hi : Nat, s7 = .int .i64 lo ∧ s8 = .int .i64 hi ∧ lo ≤ hi ∧ hi ≤ n ∧ hi - lo ≤ g ∧ Hid (Below w.heap.size w wr) ∧ Hid ((∀ t, t < lo → l.getD t 0 < x) ∧ (∀ t, hi ≤ t → t < n → x ≤ l.getD t 0)))
  case atStart => exact ⟨0, n, rfl, rfl, Nat.zero_le _, Nat.le_refl _, by omega, Lib.hid (Below.refl _ _), Lib.hid ⟨fun t ht => absurd ht (Nat.not_lt_zero _), fun t h1 h2 => by omega⟩⟩
  case round =>
    obtain ⟨lo, hi, rfl, rfl, hlh, hin, hg, HX, I⟩ := hrel
    by_cases hlt : lo < hi
    · have hmn : (lo + hi) / 2 < n := by omega
      obtain ⟨ad, rfl, hab, hc0⟩ := (HL.out.below HX.out).at_ (k := (lo + hi) / 2) (by rw [List.length_map, HN.out]; exact hmn)
      have Y := Lib.hid (show l.getD ((lo + hi) / 2) 0 = l[(lo + hi) / 2]'(by rw [HN.out]; exact hmn) from getD_at _)
      rw [List.getElem_map] at hc0
      generalize l[(lo + hi) / 2]'(by rw [HN.out]; exact hmn) = y at *
      by_cases hyx : y < x
      · go_wp2_with (first | (go_at_call 60; (with_reducible refine (cmpLess_any _ _ _).mono ?_); rintro e w' ⟨rfl, rfl⟩) | (go_at_call 61; (with_reducible refine (sliceNaN_any _ _).mono ?_); rintro e w' ⟨rfl, rfl⟩))
        go_roundg (hi - ((lo + hi) / 2 + 1))
        case measure => omega
        case rel =>
          refine ⟨(lo + hi) / 2 + 1, hi, by rw [show ((lo : Int) + (hi : Int)) / 2 + 1 = (((lo + hi) / 2 + 1 : Nat) : Int) by omega], rfl, by omega, hin, Nat.le_refl _, HX, Lib.hid ⟨fun t ht => ?_, I.out.2⟩⟩
          have := rise_at HS.out (a := t) (b := (lo + hi) / 2) (by omega) (by rw [HN.out]; exact hmn)
          rw [Y.out] at this
          omega
      · go_wp2_with (first | (go_at_call 60; (with_reducible refine (cmpLess_any _ _ _).mono ?_); rintro e w' ⟨rfl, rfl⟩) | (go_at_call 61; (with_reducible refine (sliceNaN_any _ _).mono ?_); rintro e w' ⟨rfl, rfl⟩))
        go_roundg ((lo + hi) / 2 - lo)
        case measure => omega
        case rel =>
          refine ⟨lo, (lo + hi) / 2, rfl, by rw [show ((lo : Int) + (hi : Int)) / 2 = (((lo + hi) / 2 : Nat) : Int) by omega], by omega, by omega, Nat.le_refl _, HX, Lib.hid ⟨I.out.1, fun t ht htn => ?_⟩⟩
          have := rise_at HS.out (a := (lo + hi) / 2) (b := t) ht (by rw [HN.out]; exact htn)
          rw [Y.out] at this
          omega
    · obtain rfl : lo = hi := by omega
      have E2 := Lib.hid (E.out.symm.trans (rise_in I.out.1 (fun t h0 h1 => I.out.2 t h0 (by rw [← HN.out]; exact h1)) HS.out))
      by_cases hln : lo < n
      · obtain ⟨ad, rfl, hab, hc0⟩ := (HL.out.below HX.out).at_ (k := lo) (by rw [List.length_map, HN.out]; exact hln)
        have Y := Lib.hid (show l.getD lo 0 = l[lo]'(by rw [HN.out]; exact hln) from getD_at _)
        rw [List.getElem_map] at hc0
        generalize l[lo]'(by rw [HN.out]; exact hln) = y at *
        have E3 : Hid (b = decide (y = x)) := Lib.hid (by rw [E2.out, Y.out, HN.out]; simp [hln])
        by_cases hyx : y = x
        · subst hyx
          go_wp2_with (go_at_call 61; (with_reducible refine (sliceNaN_any _ _).mono ?_); rintro e w' ⟨rfl, rfl⟩)
          go_ret2
          exact ⟨(lo : Int), by rw [E3.out]; simp, HX.out⟩
        · have hne : ((y : Int) == x) = false := by simpa using hyx
          go_wp2_with (go_at_call 61; (with_reducible refine (sliceNaN_any _ _).mono ?_); rintro e w' ⟨rfl, rfl⟩)
          go_ret2
          exact ⟨(lo : Int), by rw [E3.out]; simp [hyx], HX.out⟩
      · have E3 : Hid (b = false) := Lib.hid (by rw [E2.out, HN.out]; simp [hln])
        go_wp2_with fail
        go_ret2
        exact ⟨_, by rw [E3.out]; rfl, HX.out⟩
end Go.Proofs.Ytefgepppcmhphaa
namespace Go.Proofs.Ytefgepppcmhphaa
set_option maxRecDepth 100000
set_option linter.unusedVariables false
set_option linter.unusedSimpArgs false
open Go.ChangeShapes Go.WideShapes Go.ChangeAt Go.RowKit

/-- Behind a class: one is below it just if what stands above it is. -/
theorem belowTo_next {sup : List Int} {c k : Nat} (hc : c < k) (hk : k < sup.length) : inB (aboveI sup (k : Int)) c = inB (belowTo sup c k) (supI sup k) := by
  rw [Bool.eq_iff_iff, inB_iff, inB_iff, belowTo_mem, inB_iff, above_sup (by omega) (by omega), List.mem_cons]
  have hb := supI_bounds sup (k : Int)
  constructor
  · rintro (h | h)
    · omega
    · have hr := above_range h
      exact ⟨by omega, by have := hb.2 (by omega); omega, h⟩
  · rintro ⟨_, _, h⟩
    exact .inr h

theorem search_is {l : List Int} {x : Int} {n : Nat} {b : Bool} {A : Option Addr} {cap : Nat} {w : World} (HN : Hid (l.length = n)) (HB : Hid (inB l x = b)) (hl : n ≤ 1048576) (h : Lies w w.heap.size A (l.map (Value.int .i64))) (hs : l.Pairwise (· < ·)) :
    Calls Try.prog 39 #[.slice A n cap, .int .i64 x] w (FoundIn b w) := by
  obtain rfl := HN.out
  have H := search_any l x A cap w hl h hs
  rw [HB.out] at H
  exact H

set_option maxHeartbeats 1600000 in
theorem cbelow_any (m : Img) (c : Int) (h : Hnd) (w : World) (H : ImgIn w w.heap.size h m) (hn : m.classes.length ≤ 1000) :
    Calls Try.prog 69 #[imgV h m, .int .i64 c] w (OwnInts (belowOf m.classes c) w) := by
  obtain ⟨i0, hi, hz0, hz1, hz2⟩ := info_parts info_int
  have HW := Lib.hid ((Below.refl w.heap.size w).alloc (Nat.le_refl _) (imgO h m))
  have HIM := Lib.hid (H.now HW.out)
  have HBX := Lib.hid (img_box w h m)
  have HZ : Hid (w.heap.size < (w.alloc (imgO h m)).heap.size) := Lib.hid (by simp)
  have HS := Lib.hid (supers_of HIM.out.classes.row)
  have hsl : (supsOf m.classes).length = m.classes.length := supsOf_len _
  have hle := H.classes.le
  have hcap := H.classes.cap
  have HE := Lib.hid (show belowOf m.classes c = belowTo (supsOf m.classes) c m.classes.length from rfl)
  obtain ⟨sup, hsup⟩ : ∃ sup, supsOf m.classes = sup := ⟨_, rfl⟩
  rw [hsup] at hsl HS HE
  clear hsup H
  by_cases hc : 0 ≤ c ∧ c < m.classes.length
  · obtain ⟨c0, c1⟩ := hc
    obtain ⟨i, rfl⟩ := Int.eq_ofNat_of_zero_le c0
    have hil : i < m.classes.length := by omega
    have HSELF := Lib.hid (belowTo_self (sup := sup) (c := i) (by omega))
    have hsl1 : sup.length ≤ 1048576 := by omega
    have HSl := Lib.hid hsl
    clear hsl c0 c1
    go_enter Try.func69, Try.ntmps69
    go_upto_region 1 with fail
    generalize w.alloc (imgO h m) = w1 at *
    obtain ⟨q0, q1, q2, q3, q4, q5, q6⟩ := HBX.out
    go_wp2_with (go_at_call 74; (with_reducible refine (isclass_yes m.classes i hil h.A0 h.c0 w1 HIM.out.classes).mono ?_); rintro e w2 ⟨rfl, hb⟩; have HB2 := Lib.hid hb; clear hb)
    clear q0 q1 q2 q3 q4 q5 q6
    have hs2 := HB2.out.size
    go_loopw [5, 6] (fun v s6 wr => ∃ k : Nat, i < k ∧ k ≤ m.classes.length ∧ s6 = .int .i64 k ∧ Hid (wr.ownsRow w1.heap.size 3 1 v (belowTo sup (i : Int) k).length ((belowTo sup (i : Int) k).map (Value.int .i64))) ∧ Hid (Below w1.heap.size w1 wr)) (fun _ s6 _ => m.classes.length - (intOf s6).toNat)
    case atStart =>
      refine ⟨i + 1, by omega, by omega, by go_num, Lib.hid ?_, Lib.hid (HB2.out.alloc hs2 _)⟩
      rw [HSELF.out]
      exact ⟨rfl, .inr ⟨w2.heap.size, 1, #[.int .i64 (i : Int)], rfl, hs2, heap_alloc_new _ _, Nat.le_refl _, by unfold maxLen; omega, rfl, rfl⟩⟩
    case round =>
      obtain ⟨k, hik, hk, rfl, HO, HX⟩ := hrel
      obtain ⟨q0, q1, q2, q3, q4, q5, q6⟩ := HBX.out.keep HX.out HZ.out
      have hbl := belowTo_len sup (i : Int) k
      by_cases hlt : k < m.classes.length
      · obtain ⟨b, hb⟩ : ∃ b, inB (aboveI sup k) (i : Int) = b := ⟨_, rfl⟩
        have HST := Lib.hid (show belowTo sup (i : Int) (k + 1) = if b = true then belowTo sup (i : Int) k ++ [(k : Int)] else belowTo sup (i : Int) k by rw [← hb]; rfl)
        have hks : k < sup.length := by rw [HSl.out]; exact hlt
        have hbn := belowTo_next hik hks
        rw [hb] at hbn
        have HBN := Lib.hid hbn.symm
        have HRI := Lib.hid (belowTo_rise sup (i : Int) k)
        clear hb hbn
        have HSr := Lib.hid ((HS.out.below_to HX.out (Nat.le_refl _)) : Supers wr w1.heap.size h.A0 sup)
        generalize belowTo sup (i : Int) k = L at *
        have hsz := HX.out.size
        have hk0 : (0 : Int) ≤ k := by omega
        have hk1 : (k : Int) < sup.length := by omega
        have hLl : L.length ≤ 1048576 := by omega
        obtain ⟨Av, cv, rfl, hl0, g1, g2⟩ := own_ints HO.out
        have HL0 := Lib.hid hl0
        clear hl0
        cases b
        · have e1 : belowTo sup (i : Int) (k + 1) = L := HST.out
          have HST1 := Lib.hid e1
          clear e1 HST
          go_wp2_with (first
            | (go_at_call 75; (with_reducible refine (cabove_is HSl hk0 hk1 h.A0 h.c0 w1.heap.size wr hsl1 hsz HSr.out).mono ?_); rintro e w2 ⟨rfl, hb⟩; have HX2 := Lib.hid (HX.out.trans (hb.mono hsz)); have HO2 := Lib.hid (own_below HO.out hb (own_block_lt HO.out)); have HL2 := Lib.hid ((HL0.out.below hb).more hb.size); have hsz2 := HX2.out.size; clear hb)
            | (go_at_call 39; (with_reducible refine (search_is (Lib.hid rfl) HBN hLl HL2.out HRI.out).mono ?_); rintro e w3 ⟨p, rfl, hb⟩; have HX3 := Lib.hid (HX2.out.trans (hb.mono hsz2)); have HO3 := Lib.hid (own_below HO2.out hb (own_block_lt HO2.out)); have hsz3 := HX3.out.size; clear hb; obtain ⟨q0, q1, q2, q3, q4, q5, q6⟩ := HBX.out.keep HX3.out HZ.out))
          go_roundw
          case rel => exact ⟨k + 1, by omega, by omega, by go_num, Lib.hid (by rw [HST1.out]; exact HO3.out), HX3⟩
          case measure => simp [intOf]; omega
        · have e1 : belowTo sup (i : Int) (k + 1) = L ++ [(k : Int)] := HST.out
          have HST1 := Lib.hid e1
          clear e1 HST
          go_wp2_with (first
            | (go_at_call 75; (with_reducible refine (cabove_is HSl hk0 hk1 h.A0 h.c0 w1.heap.size wr hsl1 hsz HSr.out).mono ?_); rintro e w2 ⟨rfl, hb⟩; have HX2 := Lib.hid (HX.out.trans (hb.mono hsz)); have HO2 := Lib.hid (own_below HO.out hb (own_block_lt HO.out)); have HL2 := Lib.hid ((HL0.out.below hb).more hb.size); have hsz2 := HX2.out.size; clear hb)
            | (go_at_call 39; (with_reducible refine (search_is (Lib.hid rfl) HBN hLl HL2.out HRI.out).mono ?_); rintro e w3 ⟨p, rfl, hb⟩; have HX3 := Lib.hid (HX2.out.trans (hb.mono hsz2)); have HO3 := Lib.hid (own_below HO2.out hb (own_block_lt HO2.out)); have hsz3 := HX3.out.size; clear hb; obtain ⟨q0, q1, q2, q3, q4, q5, q6⟩ := HBX.out.keep HX3.out HZ.out)
            | (at_builtin; refine wpList_append_own _ rfl _ _ 26 rfl w1.heap.size 3 i0 (.int .i64 0) 1 8 Try.underlying26 hi hz0 hz1 hz2 rfl (by decide) _ _ _ rfl (HO3.out.alloc _) ⟨_, 0, none⟩ 1 1 [.int .i64 (k : Int)] rfl rfl (own_one _ _) (one_cell _) (by unfold maxLen; omega) (by omega) (by simp; omega) ?_; intro v' w4 hown' hgrow _; have hR := own_snoc64 HO3.out hsz3 HX3.out hown' hgrow; have HO4 := Lib.hid hR.1; have HX4 := Lib.hid hR.2; clear hown' hgrow hR))
          go_roundw
          case rel => exact ⟨k + 1, by omega, by omega, by go_num, Lib.hid (by rw [HST1.out]; exact HO4.out), HX4⟩
          case measure => simp [intOf]; omega
      · obtain rfl : k = m.classes.length := by omega
        go_wp2_with fail
        go_ret
        refine ⟨_, rfl, ?_, HW.out.trans (HX.out.mono HW.out.size)⟩
        rw [HE.out]
        exact own_lower HO.out HW.out.size
  · have hno : c < 0 ∨ (m.classes.length : Int) ≤ c := by omega
    have HE2 := Lib.hid (show belowOf m.classes c = [] by rw [HE.out]; exact belowTo_no (by omega) _ (by omega))
    clear hc hsl
    go_enter Try.func69, Try.ntmps69
    go_upto_region 1 with fail
    generalize w.alloc (imgO h m) = w1 at *
    obtain ⟨q0, q1, q2, q3, q4, q5, q6⟩ := HBX.out
    go_wp2_with (go_at_call 74; (with_reducible refine (isclass_no m.classes c hno h.A0 h.c0 w1 HIM.out.classes).mono ?_); rintro e w2 ⟨rfl, hb⟩; have HB2 := Lib.hid hb; clear hb)
    go_ret
    refine ⟨_, rfl, ?_, HW.out.trans (HB2.out.mono HW.out.size)⟩
    rw [HE2.out]
    exact World.ownsRow_nil _ _ _ _

section
variable {m : Img} {h : Hnd} {w0 w : World} {c : Int}
theorem cbelow_is {L : List Int} (HI : Hid (ImgIn w0 w0.heap.size h m)) (HX : Hid (Below w0.heap.size w0 w)) (HL : Hid (belowOf m.classes c = L)) (hn : m.classes.length ≤ 1000) :
    Calls Try.prog 69 #[imgV h m, .int .i64 c] w (OwnInts L w) := by
  have H := cbelow_any m c h w (HI.out.now HX.out) hn
  rw [HL.out] at H
  exact H
end
end Go.Proofs.Ytefgepppcmhphaa
namespace Go.Proofs.Ytefgepppcmhphaa
set_option maxRecDepth 100000
set_option linter.unusedVariables false
set_option linter.unusedSimpArgs false
open Go.ChangeShapes Go.WideShapes Go.ChangeAt Go.RowKit

theorem cslot_any (m : Img) (c n : Int) (h : Hnd) (w : World) (H : ImgIn w w.heap.size h m) :
    Calls Try.prog 70 #[imgV h m, .int .i64 c, .int .i64 n] w (SlotOut (slotOf m.classes c n) w) := by
  have HW := Lib.hid ((Below.refl w.heap.size w).alloc (Nat.le_refl _) (imgO h m))
  have HIM := Lib.hid (H.now HW.out)
  have HBX := Lib.hid (img_box w h m)
  have hle := H.classes.le
  have hcap := H.classes.cap
  have hn63 : m.classes.length ≤ 9223372036854775807 := by omega
  clear H hle hcap
  by_cases hc : 0 ≤ c ∧ c < m.classes.length
  · obtain ⟨c0, c1⟩ := hc
    obtain ⟨i, rfl⟩ := Int.eq_ofNat_of_zero_le c0
    have hi : i < m.classes.length := by omega
    obtain ⟨ad, e0, hab, s0, ⟨A1, k1, s1, hs1⟩, ⟨A2, k2, s2, hs2⟩, _⟩ := HIM.out.classes.row.at_ hi
    have HE := Lib.hid e0
    clear e0
    have l1 := hs2.le
    have l2 := hs2.cap
    have hs63 : m.classes[i].slots.length ≤ 9223372036854775807 := by omega
    have HSL := Lib.hid hs2
    clear hs1 hs2
    by_cases hnn : 0 ≤ n ∧ n < m.classes[i].slots.length
    · obtain ⟨n0, n1⟩ := hnn
      obtain ⟨j, rfl⟩ := Int.eq_ofNat_of_zero_le n0
      have hj : j < m.classes[i].slots.length := by omega
      rw [slotOf_yes hi hj]
      obtain ⟨ad2, rfl, hab2, z0⟩ := HSL.out.row.at_ hj
      clear HSL
      rw [Nat.mul_one] at z0
      generalize m.classes[i].slots[j] = f at *
      generalize m.classes[i] = x at *
      go_enter Try.func70, Try.ntmps70
      go_upto_region 1 with fail
      generalize w.alloc (imgO h m) = w1 at *
      obtain ⟨q0, q1, q2, q3, q4, q5, q6⟩ := HBX.out
      rw [HE.out] at q0
      have HZ : Hid (∀ W, Below w1.heap.size w1 W → W.cell? (ad2.add j) = some (.int .i64 f)) := Lib.hid (fun W hW => (hW.cell (p := ad2.add j) (by rw [addr_add_block]; exact hab2)).trans z0)
      go_upto_region 2 with (go_at_call 76; (with_reducible refine (atcls_yes i m.classes.length h.c0 ad _ _ _ _ _ _ _ w1 hi hn63 hab s0 s1 s2).mono ?_); rintro e w2 ⟨rfl, hb⟩; have HB2 := Lib.hid hb; clear hb)
      have z2 := HZ.out _ (HB2.out.alloc HB2.out.size (.cells #[.int .i64 x.sup, .slice A1 x.fields.length k1, .slice (some ad2) x.slots.length k2] 92))
      go_wp2_with (go_at_call 77; (with_reducible refine (atint_yes j x.slots.length k2 ad2 f _ hj hs63 z2).mono ?_); rintro e w3 ⟨rfl, rfl⟩)
      go_ret2
      exact ⟨rfl, HW.out.trans ((HB2.out.alloc HB2.out.size _).mono HW.out.size)⟩
    · rw [slotOf_slot hi (by omega)]
      have hno : n < 0 ∨ (m.classes[i].slots.length : Int) ≤ n := by omega
      clear hnn HSL
      generalize m.classes[i] = x at *
      go_enter Try.func70, Try.ntmps70
      go_upto_region 1 with fail
      generalize w.alloc (imgO h m) = w1 at *
      obtain ⟨q0, q1, q2, q3, q4, q5, q6⟩ := HBX.out
      rw [HE.out] at q0
      go_upto_region 2 with (go_at_call 76; (with_reducible refine (atcls_yes i m.classes.length h.c0 ad _ _ _ _ _ _ _ w1 hi hn63 hab s0 s1 s2).mono ?_); rintro e w2 ⟨rfl, hb⟩; have HB2 := Lib.hid hb; clear hb)
      go_wp2_with (go_at_call 77; (with_reducible refine (atint_no n x.slots.length k2 A2 _ hs63 hno).mono ?_); rintro e w3 ⟨rfl, hb⟩; have HB3 := Lib.hid hb; clear hb)
      go_ret2
      exact ⟨rfl, HW.out.trans (((HB2.out.alloc HB2.out.size _).trans (HB3.out.mono (HB2.out.alloc HB2.out.size _).size)).mono HW.out.size)⟩
  · have hno : c < 0 ∨ (m.classes.length : Int) ≤ c := by omega
    rw [slotOf_class hno]
    have hz : n < 0 ∨ ((0 : Nat) : Int) ≤ n := by omega
    clear hc
    go_enter Try.func70, Try.ntmps70
    go_upto_region 1 with fail
    generalize w.alloc (imgO h m) = w1 at *
    obtain ⟨q0, q1, q2, q3, q4, q5, q6⟩ := HBX.out
    go_upto_region 2 with (go_at_call 76; (with_reducible refine (atcls_no c m.classes.length h.c0 h.A0 w1 hn63 hno).mono ?_); rintro e w2 ⟨rfl, hb⟩; have HB2 := Lib.hid hb; clear hb)
    go_wp2_with (go_at_call 77; (with_reducible refine (atint_no n 0 0 none _ (by omega) hz).mono ?_); rintro e w3 ⟨rfl, hb⟩; have HB3 := Lib.hid hb; clear hb)
    go_ret2
    exact ⟨rfl, HW.out.trans (((HB2.out.alloc HB2.out.size _).trans (HB3.out.mono (HB2.out.alloc HB2.out.size _).size)).mono HW.out.size)⟩
theorem cslot_is {m : Img} {h : Hnd} {w0 w : World} {c n : Int} {o : Option Int} (HI : Hid (ImgIn w0 w0.heap.size h m)) (HX : Hid (Below w0.heap.size w0 w)) (HO : Hid (slotOf m.classes c n = o)) :
    Calls Try.prog 70 #[imgV h m, .int .i64 c, .int .i64 n] w (SlotOut o w) := by
  have H := cslot_any m c n h w (HI.out.now HX.out)
  rw [HO.out] at H
  exact H
end Go.Proofs.Ytefgepppcmhphaa
namespace Go.Proofs.Ytefgepppcmhphaa
set_option maxRecDepth 100000
set_option linter.unusedVariables false
set_option linter.unusedSimpArgs false
open Go.ChangeShapes Go.WideShapes Go.ChangeAt Go.RowKit

set_option maxHeartbeats 1600000 in
theorem cismethod_any (m : Img) (f : Int) (r : Bool) (hr : (decide (0 ≤ f) && decide (f < m.methods.length)) = r) (h : Hnd) (w : World) (H : ImgIn w w.heap.size h m) :
    Calls Try.prog 55 #[imgV h m, .int .i64 f] w fun e w' => e = .returned (.bool r) ∧ Below w.heap.size w w' := by
  have HW := Lib.hid ((Below.refl w.heap.size w).alloc (Nat.le_refl _) (imgO h m))
  have HBX := Lib.hid (img_box w h m)
  have hle := H.methods.le
  have hcap := H.methods.cap
  clear H
  by_cases h0 : 0 ≤ f
  · by_cases h1 : f < m.methods.length
    · have e : r = true := by rw [← hr, decide_eq_true h0, decide_eq_true h1]; rfl
      subst e
      clear hr
      go_enter Try.func55, Try.ntmps55
      go_upto_region 1 with fail
      generalize w.alloc (imgO h m) = w1 at *
      obtain ⟨q0, q1, q2, q3, q4, q5, q6⟩ := HBX.out
      go_wp2_with fail
      go_ret
      exact ⟨rfl, HW.out⟩
    · have e : r = false := by rw [← hr, decide_eq_false h1, Bool.and_false]
      subst e
      clear hr
      go_enter Try.func55, Try.ntmps55
      go_upto_region 1 with fail
      generalize w.alloc (imgO h m) = w1 at *
      obtain ⟨q0, q1, q2, q3, q4, q5, q6⟩ := HBX.out
      go_wp2_with fail
      go_ret
      exact ⟨rfl, HW.out⟩
  · have e : r = false := by rw [← hr, decide_eq_false h0, Bool.false_and]
    subst e
    clear hr
    go_enter Try.func55, Try.ntmps55
    go_upto_region 1 with fail
    generalize w.alloc (imgO h m) = w1 at *
    obtain ⟨q0, q1, q2, q3, q4, q5, q6⟩ := HBX.out
    go_wp2_with fail
    go_ret
    exact ⟨rfl, HW.out⟩
theorem cismethod_is {m : Img} {f : Int} {r : Bool} {h : Hnd} {w0 w : World} (HI : Hid (ImgIn w0 w0.heap.size h m)) (HX : Hid (Below w0.heap.size w0 w)) (HR : Hid ((decide (0 ≤ f) && decide (f < m.methods.length)) = r)) :
    Calls Try.prog 55 #[imgV h m, .int .i64 f] w fun e w' => e = .returned (.bool r) ∧ Below w.heap.size w w' := by
  exact cismethod_any m f r HR.out h w (HI.out.now HX.out)

set_option maxHeartbeats 3200000 in
theorem cslots_any (m : Img) (a b : Int) (h : Hnd) (w : World) (H : ImgIn w w.heap.size h m) (hn : m.classes.length ≤ 1000) :
    Calls Try.prog 65 #[imgV h m, .int .i64 a, .int .i64 b] w (OwnInts (slotsIn m b (belowOf m.classes a)) w) := by
  obtain ⟨L, hL⟩ : ∃ L, belowOf m.classes a = L := ⟨_, rfl⟩
  rw [hL]
  have hLl : L.length ≤ 1000 := by rw [← hL]; exact Nat.le_trans (belowTo_len _ _ _) hn
  have HLB := Lib.hid hL
  clear hL
  obtain ⟨i0, hi, hz0, hz1, hz2⟩ := info_parts info_int
  have HW := Lib.hid ((Below.refl w.heap.size w).alloc (Nat.le_refl _) (imgO h m))
  have HIM := Lib.hid (H.now HW.out)
  have HBX := Lib.hid (img_box w h m)
  have HZ : Hid (w.heap.size < (w.alloc (imgO h m)).heap.size) := Lib.hid (by simp)
  have hn1 := hn
  have hkc := H.classes.cap
  clear H
  go_enter Try.func65, Try.ntmps65
  go_upto_region 1 with fail
  generalize w.alloc (imgO h m) = w1 at *
  have HX0 : Hid (Below w1.heap.size w1 w1) := Lib.hid (Below.refl _ _)
  obtain ⟨q0, q1, q2, q3, q4, q5, q6⟩ := HBX.out
  go_wp2_with (go_at_call 69; (with_reducible refine (cbelow_is HIM HX0 HLB hn1).mono ?_); rintro e w5 ⟨v5, rfl, ho, hb⟩; have HX := Lib.hid hb; obtain ⟨A5, c5, rfl, hl5, g1, g2⟩ := own_ints ho; have HL5 := Lib.hid hl5; clear hb ho hl5)
  go_loopw [7, 16] (fun v i wr => ∃ k : Nat, k ≤ L.length ∧ i = .int .i64 k ∧ Hid (wr.ownsRow w1.heap.size 3 1 v (slotsIn m b (L.take k)).length ((slotsIn m b (L.take k)).map (Value.int .i64))) ∧ Hid (Below w1.heap.size w1 wr) ∧ Hid (Lies wr w5.heap.size A5 (L.map (Value.int .i64))) ∧ Hid (Apart v A5) ∧ Hid (w5.heap.size ≤ wr.heap.size)) (fun _ i _ => L.length - (intOf i).toNat)
  case atStart => exact ⟨0, Nat.zero_le _, rfl, Lib.hid (World.ownsRow_nil _ _ _ _), HX, HL5, Lib.hid (fun g hg => by simp [Value.ownBlock] at hg), Lib.hid (Nat.le_refl _)⟩
  case round =>
    clear HX HL5 q0 q1 q2 q3 q4 q5 q6
    obtain ⟨k, hk, rfl, HO, HX, HL5, HAP, HSZ⟩ := hrel
    by_cases hlt : k < L.length
    · obtain ⟨ad, rfl, hab, hc0⟩ := HL5.out k (.int .i64 L[k]) (by rw [List.getElem?_map, List.getElem?_eq_getElem hlt]; rfl)
      have hs := slotsIn_snoc (m := m) (b := b) hlt
      have hyl : (slotsIn m b (L.take k)).length ≤ 1000 := Nat.le_trans (slotsIn_len _ _ _) (by rw [List.length_take]; omega)
      obtain ⟨q, hq⟩ : ∃ q, L[k] = q := ⟨_, rfl⟩
      rw [hq] at hs hc0
      have p := hc0
      have HLT5 : Hid (∀ ad', some ad = some ad' → ad'.block < w5.heap.size) := Lib.hid (fun ad' e => by injection e with e; subst e; exact hab)
      obtain ⟨o, ho⟩ : ∃ o, slotOf m.classes q b = o := ⟨_, rfl⟩
      rw [ho] at hs
      have HSV := Lib.hid ho
      have HS := Lib.hid hs
      clear hs ho hq hab hc0
      generalize slotsIn m b (L.take k) = Y at *
      obtain ⟨q0, q1, q2, q3, q4, q5, q6⟩ := HBX.out.keep HX.out HZ.out
      have hszr := HX.out.size
      cases o with
      | none =>
        go_wp2_with (go_at_call 70; (with_reducible refine (cslot_is HIM HX HSV).mono ?_); rintro e w2 ⟨rfl, hb⟩; have HX2 := Lib.hid (HX.out.trans (hb.mono HX.out.size)); have HL52 := Lib.hid ((HL5.out.below_to hb HSZ.out) : Lies w2 w5.heap.size (some ad) (L.map (Value.int .i64))); have HSZ2 : Hid (w5.heap.size ≤ w2.heap.size) := Lib.hid (Nat.le_trans HSZ.out hb.size); have HO2 := Lib.hid (own_below HO.out hb (own_block_lt HO.out)); clear hb)
        go_roundw
        case rel => exact ⟨k + 1, by omega, by go_num, Lib.hid (by rw [HS.out, Option.toList_none, List.append_nil]; exact HO2.out), HX2, HL52, HAP, HSZ2⟩
        case measure => simp [intOf]; omega
      | some g =>
        go_wp2_with (first
          | (go_at_call 70; (with_reducible refine (cslot_is HIM HX HSV).mono ?_); rintro e w2 ⟨rfl, hb⟩; have HX2 := Lib.hid (HX.out.trans (hb.mono HX.out.size)); have HL52 := Lib.hid ((HL5.out.below_to hb HSZ.out) : Lies w2 w5.heap.size (some ad) (L.map (Value.int .i64))); have HSZ2 : Hid (w5.heap.size ≤ w2.heap.size) := Lib.hid (Nat.le_trans HSZ.out hb.size); have HO2 := Lib.hid (own_below HO.out hb (own_block_lt HO.out)); have hsz2 := HX2.out.size; clear hb)
          | (at_builtin; refine wpList_append_lies _ rfl _ _ 26 rfl w1.heap.size 3 i0 (.int .i64 0) 1 8 Try.underlying26 hi hz0 hz1 hz2 rfl (by decide) _ _ _ rfl (HO2.out.alloc _) ⟨_, 0, none⟩ 1 1 [.int .i64 g] rfl rfl (own_one _ _) (one_cell _) (by decide) (by unfold maxLen; omega) (by omega) (by simp; omega) _ rfl ?_; intro g9 c9 w3 hown' hgrow hor hlt9; have hR := own_snoc64 HO2.out hsz2 HX2.out hown' hgrow; have HO3 := Lib.hid hR.1; have HX3 := Lib.hid hR.2; have HL53 := Lib.hid (lies_grown HL52.out HSZ2.out hgrow HAP.out); have HAP3 : Hid (Apart (.slice (some ⟨g9, 0, none⟩) (Y.length + 1) c9) (some ad)) := Lib.hid (apart_next HAP.out HLT5.out hor (by have := HSZ2.out; simp; omega)); have HSZ3 : Hid (w5.heap.size ≤ w3.heap.size) := Lib.hid (by have h1 := hgrow.size; have h2 := HSZ2.out; simp at h1; omega); clear hown' hgrow hR hor hlt9))
        go_roundw
        case rel => exact ⟨k + 1, by omega, by go_num, Lib.hid (by rw [HS.out]; exact HO3.out), HX3, HL53, HAP3, HSZ3⟩
        case measure => simp [intOf]; omega
    · obtain rfl : k = L.length := by omega
      go_wp2_with fail
      go_ret
      rw [List.take_length] at HO
      exact ⟨_, rfl, own_lower HO.out HW.out.size, HW.out.trans (HX.out.mono HW.out.size)⟩
theorem cslots_is {m : Img} {a b : Int} {L : List Int} {h : Hnd} {w0 w : World} (HI : Hid (ImgIn w0 w0.heap.size h m)) (HX : Hid (Below w0.heap.size w0 w)) (hn : m.classes.length ≤ 1000) (HL : Hid (slotsIn m b (belowOf m.classes a) = L)) :
    Calls Try.prog 65 #[imgV h m, .int .i64 a, .int .i64 b] w (OwnInts L w) := by
  have H := cslots_any m a b h w (HI.out.now HX.out) hn
  rw [HL.out] at H
  exact H

set_option maxHeartbeats 1600000 in
theorem cnamed_any (m : Img) (op a b : Int) (h : Hnd) (w : World) (H : ImgIn w w.heap.size h m) (hn : m.classes.length ≤ 1000) :
    Calls Try.prog 56 #[imgV h m, insV op a b] w (OwnInts (targetsOf m op a b) w) := by
  obtain ⟨T, hT⟩ : ∃ T, targetsOf m op a b = T := ⟨_, rfl⟩
  rw [hT]
  have HT := Lib.hid hT
  clear hT
  obtain ⟨hq, hc, hb, hz⟩ := tgt_parts h m op a b w
  have HW := Lib.hid hb
  have HC := Lib.hid hc
  have HZ := Lib.hid hz
  have HBX := Lib.hid hq
  have HIM := Lib.hid (H.now hb)
  have hn1 := hn
  clear hb hq hc hz H hn
  go_enter Try.func56, Try.ntmps56
  go_upto_region 1 with fail
  generalize (w.alloc (imgO h m)).alloc (.cells #[.int .i64 op, .int .i64 a, .int .i64 b] 51) = w1 at *
  have HX0 : Hid (Below w1.heap.size w1 w1) := Lib.hid (Below.refl _ _)
  obtain ⟨q0, q1, q2, q3, q4, q5, q6⟩ := HBX.out
  have j0 := HC.out 0 _ rfl
  have j1 := HC.out 1 _ rfl
  have j2 := HC.out 2 _ rfl
  by_cases h31 : op = 31
  · subst h31
    have e : [a] = T := HT.out
    subst e
    go_wp2_with fail
    go_ret
    have hb : Below w1.heap.size w1 (w1.alloc (.cells #[.int .i64 a] 3)) := (Below.refl _ _).alloc (Nat.le_refl _) _
    refine ⟨_, rfl, ⟨rfl, .inr ⟨w1.heap.size, 1, #[.int .i64 a], rfl, HW.out.size, heap_alloc_new _ _, Nat.le_refl _, by unfold maxLen; omega, rfl, rfl⟩⟩, HW.out.trans (hb.mono HW.out.size)⟩
  · by_cases h32 : op = 32
    · subst h32
      have HL : Hid (slotsIn m b (belowOf m.classes a) = T) := Lib.hid HT.out
      go_wp2_with (go_at_call 65; (with_reducible refine (cslots_is HIM HX0 hn1 HL).mono ?_); rintro e w5 ⟨v5, rfl, ho, hb⟩; have HO := Lib.hid ho; have HX := Lib.hid hb; clear hb ho)
      go_ret
      exact ⟨v5, rfl, own_lower HO.out HW.out.size, HW.out.trans (HX.out.mono HW.out.size)⟩
    · have e : [] = T := by have := HT.out; unfold targetsOf at this; rw [if_neg h31, if_neg h32] at this; exact this
      subst e
      go_wp2_with fail
      go_ret
      exact ⟨_, rfl, World.ownsRow_nil _ _ _ _, HW.out⟩
theorem cnamed_is {m : Img} {op a b : Int} {L : List Int} {h : Hnd} {w0 w : World} (HI : Hid (ImgIn w0 w0.heap.size h m)) (HX : Hid (Below w0.heap.size w0 w)) (hn : m.classes.length ≤ 1000) (HL : Hid (targetsOf m op a b = L)) :
    Calls Try.prog 56 #[imgV h m, insV op a b] w (OwnInts L w) := by
  have H := cnamed_any m op a b h w (HI.out.now HX.out) hn
  rw [HL.out] at H
  exact H
end Go.Proofs.Ytefgepppcmhphaa
namespace Go.Proofs.Ytefgepppcmhphaa
set_option maxRecDepth 100000
set_option linter.unusedVariables false
set_option linter.unusedSimpArgs false
open Go.ChangeShapes Go.WideShapes Go.ChangeAt Go.RowKit

/-- Does one of these instructions call that method? -/
def metTo (m : Img) (cs : List (Int × Int × Int)) (g : Nat) : Bool := cs.any fun i => inB (targetsOf m i.1 i.2.1 i.2.2) (g : Int)
theorem metTo_snoc {m : Img} {cs : List (Int × Int × Int)} {t : Nat} (h : t < cs.length) (g : Nat) : metTo m (cs.take (t + 1)) g = (metTo m (cs.take t) g || inB (targetsOf m cs[t].1 cs[t].2.1 cs[t].2.2) (g : Int)) := by
  unfold metTo
  rw [List.take_add_one, List.getElem?_eq_getElem h, List.any_append]
  simp
theorem metTo_calls (m : Img) (x : Mth) (g : Nat) : metTo m x.code g = callsB m x (g : Int) := by
  unfold metTo callsB
  rw [Bool.eq_iff_iff]
  simp
theorem calls_pick {m : Img} {x : Mth} {k : Nat} (hk : k < m.methods.length) (hx : m.methods[k] = x) : callsOf m (k : Int) = pickTo (fun g => metTo m x.code g) m.methods.length := by
  have e : mthN m (k : Int) = x := by unfold mthN; rw [Int.toNat_natCast, List.getElem?_eq_getElem hk, hx]; rfl
  unfold callsOf
  rw [if_pos ⟨by omega, by omega⟩, e, show rowTo m x m.methods.length = pickTo (fun g => callsB m x (g : Int)) m.methods.length from rfl]
  exact pick_same fun g _ => (metTo_calls m x g).symm
theorem inB_snoc {l : List Int} {s : Nat} (h : s < l.length) (g : Int) : inB (l.take (s + 1)) g = (inB (l.take s) g || decide (g = l[s])) := by
  unfold inB
  rw [Bool.eq_iff_iff, Bool.or_eq_true, decide_eq_true_eq, decide_eq_true_eq, decide_eq_true_eq, List.take_add_one, List.getElem?_eq_getElem h, List.mem_append]
  simp only [Option.toList_some, List.mem_singleton]
theorem lies_other {w w' : World} {A : Option Addr} {xs : List Value} {b : Nat} (h : Lies w w.heap.size A xs) (hg : w.grownBy w' (some b)) (hf : ∀ ad, A = some ad → ad.block ≠ b) : Lies w' w'.heap.size A xs := fun j u hu => by
  obtain ⟨ad, e, hb, hc⟩ := h j u hu
  refine ⟨ad, e, Nat.lt_of_lt_of_le hb hg.size, ?_⟩
  have hk : (ad.add j).block = ad.block := by rw [addr_add_block]
  exact (World.cell?_of_block (hg.block _ (by rw [hk]; omega) (fun e' => hf ad e (by injection e' with e'; rw [hk] at e'; exact e')))).trans hc
theorem own_intsOut {L : List Int} {w w' : World} {e : Ending} (h : OwnInts L w e w') : IntsOut L w e w' := by
  obtain ⟨v, rfl, ho, hb⟩ := h
  obtain ⟨A, c, rfl, hl, h1, h2⟩ := own_ints ho
  exact ⟨A, c, rfl, ⟨h1, h2, fun i x hi => by
    obtain ⟨ad, e, hb, hc⟩ := hl i (.int .i64 x) (by rw [List.getElem?_map, hi]; rfl)
    exact ⟨ad, e, hb, by show w'.cell? (ad.add (i * 1)) = _; rw [Nat.mul_one]; exact hc⟩⟩, hb⟩
end Go.Proofs.Ytefgepppcmhphaa
