/-
  slices.BinarySearch of numbers, from the library: of rising numbers it tells whether one is among them.
  All classes that are below one (Below), by the program.
-/
import Derived.Test.YtjjgpcmdoodjnaaM02
import Derived.Test.YtjjgpcmdoodjnaaM03
import Derived.Lib.Hide
import Derived.Deep.LoopGhost
import Derived.Deep.QuietTactic
import Derived.BigQuiet
import Derived.WalkKit
import Derived.Test.YtjjgpcmdoodjnaaM29
import Derived.Test.YtjjgpcmdoodjnaaM04
import Derived.Test.YtjjgpcmdoodjnaaM20
namespace Go.Proofs.Ytjjgpcmdoodjnaa
set_option maxRecDepth 100000
set_option linter.unusedVariables false
set_option linter.unusedSimpArgs false
open Go.ChangeShapes Go.WideShapes Go.ChangeAt Go.RowKit

theorem cmpNaN_any (x : Int) (w : World) : Calls Try.prog 68 #[.int .i64 x] w fun e w' => e = .returned (.bool false) ∧ w = w' := by
  go_enter Try.func68, Try.ntmps68
  go_wp2
  go_ret
  exact ⟨by simp, rfl⟩
theorem sliceNaN_any (x : Int) (w : World) : Calls Try.prog 61 #[.int .i64 x] w fun e w' => e = .returned (.bool false) ∧ w = w' := by
  go_enter Try.func61, Try.ntmps61
  go_wp2
  go_ret
  exact ⟨by simp, rfl⟩
theorem cmpLess_any (x y : Int) (w : World) : Calls Try.prog 56 #[.int .i64 x, .int .i64 y] w fun e w' => e = .returned (.bool (decide (x < y))) ∧ w = w' := by
  go_enter Try.func56, Try.ntmps56
  go_wp2_with (go_at_call 68; (with_reducible refine (cmpNaN_any _ _).mono ?_); rintro e w' ⟨rfl, rfl⟩)
  go_ret
  exact ⟨rfl, rfl⟩

theorem getD_at {l : List Int} {t : Nat} (h : t < l.length) : l.getD t 0 = l[t] := by simp [List.getD, List.getElem?_eq_getElem h]
theorem rise_at {l : List Int} (h : l.Pairwise (· < ·)) {a b : Nat} (hab : a ≤ b) (hb : b < l.length) : l.getD a 0 ≤ l.getD b 0 := by
  rcases Nat.lt_or_ge a b with g | g
  · have := List.pairwise_iff_getElem.mp h a b (by omega) hb g
    rw [getD_at (by omega), getD_at hb]
    omega
  · obtain rfl : a = b := by omega
    exact Int.le_refl _
theorem rise_in {l : List Int} {x : Int} {lo : Nat} (h1 : ∀ t, t < lo → l.getD t 0 < x) (h2 : ∀ t, lo ≤ t → t < l.length → x ≤ l.getD t 0) (h : l.Pairwise (· < ·)) : inB l x = (decide (lo < l.length) && decide (l.getD lo 0 = x)) := by
  unfold inB
  rw [Bool.eq_iff_iff]
  simp only [decide_eq_true_eq, Bool.and_eq_true]
  constructor
  · intro hm
    obtain ⟨t, ht, e⟩ := List.mem_iff_getElem.mp hm
    have et : l.getD t 0 = x := by rw [getD_at ht]; exact e
    have hlt : lo ≤ t := by
      rcases Nat.lt_or_ge t lo with g | g
      · have := h1 t g; omega
      · exact g
    refine ⟨by omega, ?_⟩
    have := rise_at h hlt ht
    have := h2 lo (Nat.le_refl _) (by omega)
    omega
  · rintro ⟨hl, e⟩
    rw [getD_at hl] at e
    rw [← e]
    exact List.getElem_mem hl

def FoundIn (b : Bool) (w : World) (e : Ending) (w' : World) : Prop := ∃ p : Int, e = .returned (.tuple #[.int .i64 p, .bool b]) ∧ Below w.heap.size w w'

set_option maxHeartbeats 4000000 in
theorem search_any (l : List Int) (x : Int) (A : Option Addr) (cap : Nat) (w : World) (hl : l.length ≤ 1048576) (h : Lies w w.heap.size A (l.map (Value.int .i64))) (hs : l.Pairwise (· < ·)) :
    Calls Try.prog 46 #[.slice A l.length cap, .int .i64 x] w (FoundIn (inB l x) w) := by
  have HL := Lib.hid h
  have HS := Lib.hid hs
  obtain ⟨b, hb⟩ : ∃ b, inB l x = b := ⟨_, rfl⟩
  have E := Lib.hid hb
  rw [hb]
  clear h hs hb
  obtain ⟨n, hn⟩ : ∃ n, l.length = n := ⟨_, rfl⟩
  have HN := Lib.hid hn
  rw [hn] at hl ⊢
  clear hn
  go_enter Try.func46, Try.ntmps46
  go_wp2
  go_loopg [7, 8] n (fun g s7 s8 wr => ∃ lo hi : Nat, s7 = .int .i64 lo ∧ s8 = .int .i64 hi ∧ lo ≤ hi ∧ hi ≤ n ∧ hi - lo ≤ g ∧ Hid (Below w.heap.size w wr) ∧ Hid ((∀ t, t < lo → l.getD t 0 < x) ∧ (∀ t, hi ≤ t → t < n → x ≤ l.getD t 0)))
  case atStart => exact ⟨0, n, rfl, rfl, Nat.zero_le _, Nat.le_refl _, by omega, Lib.hid (Below.refl _ _), Lib.hid ⟨fun t ht => absurd ht (Nat.not_lt_zero _), fun t h1 h2 => by omega⟩⟩
  case round =>
    obtain ⟨lo, hi, rfl, rfl, hlh, hin, hg, HX, I⟩ := hrel
    by_cases hlt : lo < hi
    · have hmn : (lo + hi) / 2 < n := by omega
      obtain ⟨ad, rfl, hab, hc0⟩ := (HL.out.below HX.out).at_ (k := (lo + hi) / 2) (by rw [List.length_map, HN.out]; exact hmn)
      have Y := Lib.hid (show l.getD ((lo + hi) / 2) 0 = l[(lo + hi) / 2]'(by rw [HN.out]; exact hmn) from getD_at _)
      rw [List.getElem_map] at hc0
      generalize l[(lo + hi) / 2]'(by rw [HN.out]; exact hmn) = y at *
      by_cases hyx : y < x
      · go_wp2_with (first | (go_at_call 56; (with_reducible refine (cmpLess_any _ _ _).mono ?_); rintro e w' ⟨rfl, rfl⟩) | (go_at_call 61; (with_reducible refine (sliceNaN_any _ _).mono ?_); rintro e w' ⟨rfl, rfl⟩))
        go_roundg (hi - ((lo + hi) / 2 + 1))
        case measure => omega
        case rel =>
          refine ⟨(lo + hi) / 2 + 1, hi, by rw [show ((lo : Int) + (hi : Int)) / 2 + 1 = (((lo + hi) / 2 + 1 : Nat) : Int) by omega], rfl, by omega, hin, Nat.le_refl _, HX, Lib.hid ⟨fun t ht => ?_, I.out.2⟩⟩
          have := rise_at HS.out (a := t) (b := (lo + hi) / 2) (by omega) (by rw [HN.out]; exact hmn)
          rw [Y.out] at this
          omega
      · go_wp2_with (first | (go_at_call 56; (with_reducible refine (cmpLess_any _ _ _).mono ?_); rintro e w' ⟨rfl, rfl⟩) | (go_at_call 61; (with_reducible refine (sliceNaN_any _ _).mono ?_); rintro e w' ⟨rfl, rfl⟩))
        go_roundg ((lo + hi) / 2 - lo)
        case measure => omega
        case rel =>
          refine ⟨lo, (lo + hi) / 2, rfl, by rw [show ((lo : Int) + (hi : Int)) / 2 = (((lo + hi) / 2 : Nat) : Int) by omega], by omega, by omega, Nat.le_refl _, HX, Lib.hid ⟨I.out.1, fun t ht htn => ?_⟩⟩
          have := rise_at HS.out (a := (lo + hi) / 2) (b := t) ht (by rw [HN.out]; exact htn)
          rw [Y.out] at this
          omega
    · obtain rfl : lo = hi := by omega
      have E2 := Lib.hid (E.out.symm.trans (rise_in I.out.1 (fun t h0 h1 => I.out.2 t h0 (by rw [← HN.out]; exact h1)) HS.out))
      by_cases hln : lo < n
      · obtain ⟨ad, rfl, hab, hc0⟩ := (HL.out.below HX.out).at_ (k := lo) (by rw [List.length_map, HN.out]; exact hln)
        have Y := Lib.hid (show l.getD lo 0 = l[lo]'(by rw [HN.out]; exact hln) from getD_at _)
        rw [List.getElem_map] at hc0
        generalize l[lo]'(by rw [HN.out]; exact hln) = y at *
        have E3 : Hid (b = decide (y = x)) := Lib.hid (by rw [E2.out, Y.out, HN.out]; simp [hln])
        by_cases hyx : y = x
        · subst hyx
          go_wp2_with (go_at_call 61; (with_reducible refine (sliceNaN_any _ _).mono ?_); rintro e w' ⟨rfl, rfl⟩)
          go_ret2
          exact ⟨(lo : Int), by rw [E3.out]; simp, HX.out⟩
        · have hne : ((y : Int) == x) = false := by simpa using hyx
          go_wp2_with (go_at_call 61; (with_reducible refine (sliceNaN_any _ _).mono ?_); rintro e w' ⟨rfl, rfl⟩)
          go_ret2
          exact ⟨(lo : Int), by rw [E3.out]; simp [hyx], HX.out⟩
      · have E3 : Hid (b = false) := Lib.hid (by rw [E2.out, HN.out]; simp [hln])
        go_wp2_with fail
        go_ret2
        exact ⟨_, by rw [E3.out]; rfl, HX.out⟩
end Go.Proofs.Ytjjgpcmdoodjnaa
namespace Go.Proofs.Ytjjgpcmdoodjnaa
set_option maxRecDepth 100000
set_option linter.unusedVariables false
set_option linter.unusedSimpArgs false
open Go.ChangeShapes Go.WideShapes Go.ChangeAt Go.RowKit

/-- Behind a class: one is below it just if what stands above it is. -/
theorem belowTo_next {sup : List Int} {c k : Nat} (hc : c < k) (hk : k < sup.length) : inB (aboveI sup (k : Int)) c = inB (belowTo sup c k) (supI sup k) := by
  rw [Bool.eq_iff_iff, inB_iff, inB_iff, belowTo_mem, inB_iff, above_sup (by omega) (by omega), List.mem_cons]
  have hb := supI_bounds sup (k : Int)
  constructor
  · rintro (h | h)
    · omega
    · have hr := above_range h
      exact ⟨by omega, by have := hb.2 (by omega); omega, h⟩
  · rintro ⟨_, _, h⟩
    exact .inr h

theorem search_is {l : List Int} {x : Int} {n : Nat} {b : Bool} {A : Option Addr} {cap : Nat} {w : World} (HN : Hid (l.length = n)) (HB : Hid (inB l x = b)) (hl : n ≤ 1048576) (h : Lies w w.heap.size A (l.map (Value.int .i64))) (hs : l.Pairwise (· < ·)) :
    Calls Try.prog 46 #[.slice A n cap, .int .i64 x] w (FoundIn b w) := by
  obtain rfl := HN.out
  have H := search_any l x A cap w hl h hs
  rw [HB.out] at H
  exact H

set_option maxHeartbeats 1600000 in
theorem cbelow_any (m : Img) (c : Int) (h : Hnd) (w : World) (H : ImgIn w w.heap.size h m) (hn : m.classes.length ≤ 1000) :
    Calls Try.prog 38 #[imgV h m, .int .i64 c] w (OwnInts (belowOf m.classes c) w) := by
  obtain ⟨i0, hi, hz0, hz1, hz2⟩ := info_parts info_int
  have HW := Lib.hid ((Below.refl w.heap.size w).alloc (Nat.le_refl _) (imgO h m))
  have HIM := Lib.hid (H.now HW.out)
  have HBX := Lib.hid (img_box w h m)
  have HZ : Hid (w.heap.size < (w.alloc (imgO h m)).heap.size) := Lib.hid (by simp)
  have HS := Lib.hid (supers_of HIM.out.classes.row)
  have hsl : (supsOf m.classes).length = m.classes.length := supsOf_len _
  have hle := H.classes.le
  have hcap := H.classes.cap
  have HE := Lib.hid (show belowOf m.classes c = belowTo (supsOf m.classes) c m.classes.length from rfl)
  obtain ⟨sup, hsup⟩ : ∃ sup, supsOf m.classes = sup := ⟨_, rfl⟩
  rw [hsup] at hsl HS HE
  clear hsup H
  by_cases hc : 0 ≤ c ∧ c < m.classes.length
  · obtain ⟨c0, c1⟩ := hc
    obtain ⟨i, rfl⟩ := Int.eq_ofNat_of_zero_le c0
    have hil : i < m.classes.length := by omega
    have HSELF := Lib.hid (belowTo_self (sup := sup) (c := i) (by omega))
    have hsl1 : sup.length ≤ 1048576 := by omega
    have HSl := Lib.hid hsl
    clear hsl c0 c1
    go_enter Try.func38, Try.ntmps38
    go_upto_region 1 with fail
    generalize w.alloc (imgO h m) = w1 at *
    obtain ⟨q0, q1, q2, q3, q4, q5, q6⟩ := HBX.out
    go_wp2_with (go_at_call 45; (with_reducible refine (isclass_yes m.classes i hil h.A0 h.c0 w1 HIM.out.classes).mono ?_); rintro e w2 ⟨rfl, hb⟩; have HB2 := Lib.hid hb; clear hb)
    clear q0 q1 q2 q3 q4 q5 q6
    have hs2 := HB2.out.size
    go_loopw [5, 6] (fun v s6 wr => ∃ k : Nat, i < k ∧ k ≤ m.classes.length ∧ s6 = .int .i64 k ∧ Hid (wr.ownsRow w1.heap.size 3 1 v (belowTo sup (i : Int) k).length ((belowTo sup (i : Int) k).map (Value.int .i64))) ∧ Hid (Below w1.heap.size w1 wr)) (fun _ s6 _ => m.classes.length - (intOf s6).toNat)
    case atStart =>
      refine ⟨i + 1, by omega, by omega, by go_num, Lib.hid ?_, Lib.hid (HB2.out.alloc hs2 _)⟩
      rw [HSELF.out]
      exact ⟨rfl, .inr ⟨w2.heap.size, 1, #[.int .i64 (i : Int)], rfl, hs2, heap_alloc_new _ _, Nat.le_refl _, by unfold maxLen; omega, rfl, rfl⟩⟩
    case round =>
      obtain ⟨k, hik, hk, rfl, HO, HX⟩ := hrel
      obtain ⟨q0, q1, q2, q3, q4, q5, q6⟩ := HBX.out.keep HX.out HZ.out
      have hbl := belowTo_len sup (i : Int) k
      by_cases hlt : k < m.classes.length
      · obtain ⟨b, hb⟩ : ∃ b, inB (aboveI sup k) (i : Int) = b := ⟨_, rfl⟩
        have HST := Lib.hid (show belowTo sup (i : Int) (k + 1) = if b = true then belowTo sup (i : Int) k ++ [(k : Int)] else belowTo sup (i : Int) k by rw [← hb]; rfl)
        have hks : k < sup.length := by rw [HSl.out]; exact hlt
        have hbn := belowTo_next hik hks
        rw [hb] at hbn
        have HBN := Lib.hid hbn.symm
        have HRI := Lib.hid (belowTo_rise sup (i : Int) k)
        clear hb hbn
        have HSr := Lib.hid ((HS.out.below_to HX.out (Nat.le_refl _)) : Supers wr w1.heap.size h.A0 sup)
        generalize belowTo sup (i : Int) k = L at *
        have hsz := HX.out.size
        have hk0 : (0 : Int) ≤ k := by omega
        have hk1 : (k : Int) < sup.length := by omega
        have hLl : L.length ≤ 1048576 := by omega
        obtain ⟨Av, cv, rfl, hl0, g1, g2⟩ := own_ints HO.out
        have HL0 := Lib.hid hl0
        clear hl0
        cases b
        · have e1 : belowTo sup (i : Int) (k + 1) = L := HST.out
          have HST1 := Lib.hid e1
          clear e1 HST
          go_wp2_with (first
            | (go_at_call 47; (with_reducible refine (cabove_is HSl hk0 hk1 h.A0 h.c0 w1.heap.size wr hsl1 hsz HSr.out).mono ?_); rintro e w2 ⟨rfl, hb⟩; have HX2 := Lib.hid (HX.out.trans (hb.mono hsz)); have HO2 := Lib.hid (own_below HO.out hb (own_block_lt HO.out)); have HL2 := Lib.hid ((HL0.out.below hb).more hb.size); have hsz2 := HX2.out.size; clear hb)
            | (go_at_call 46; (with_reducible refine (search_is (Lib.hid rfl) HBN hLl HL2.out HRI.out).mono ?_); rintro e w3 ⟨p, rfl, hb⟩; have HX3 := Lib.hid (HX2.out.trans (hb.mono hsz2)); have HO3 := Lib.hid (own_below HO2.out hb (own_block_lt HO2.out)); have hsz3 := HX3.out.size; clear hb; obtain ⟨q0, q1, q2, q3, q4, q5, q6⟩ := HBX.out.keep HX3.out HZ.out))
          go_roundw
          case rel => exact ⟨k + 1, by omega, by omega, by go_num, Lib.hid (by rw [HST1.out]; exact HO3.out), HX3⟩
          case measure => simp [intOf]; omega
        · have e1 : belowTo sup (i : Int) (k + 1) = L ++ [(k : Int)] := HST.out
          have HST1 := Lib.hid e1
          clear e1 HST
          go_wp2_with (first
            | (go_at_call 47; (with_reducible refine (cabove_is HSl hk0 hk1 h.A0 h.c0 w1.heap.size wr hsl1 hsz HSr.out).mono ?_); rintro e w2 ⟨rfl, hb⟩; have HX2 := Lib.hid (HX.out.trans (hb.mono hsz)); have HO2 := Lib.hid (own_below HO.out hb (own_block_lt HO.out)); have HL2 := Lib.hid ((HL0.out.below hb).more hb.size); have hsz2 := HX2.out.size; clear hb)
            | (go_at_call 46; (with_reducible refine (search_is (Lib.hid rfl) HBN hLl HL2.out HRI.out).mono ?_); rintro e w3 ⟨p, rfl, hb⟩; have HX3 := Lib.hid (HX2.out.trans (hb.mono hsz2)); have HO3 := Lib.hid (own_below HO2.out hb (own_block_lt HO2.out)); have hsz3 := HX3.out.size; clear hb; obtain ⟨q0, q1, q2, q3, q4, q5, q6⟩ := HBX.out.keep HX3.out HZ.out)
            | (at_builtin; refine wpList_append_own _ rfl _ _ 26 rfl w1.heap.size 3 i0 (.int .i64 0) 1 8 Try.underlying26 hi hz0 hz1 hz2 rfl (by decide) _ _ _ rfl (HO3.out.alloc _) ⟨_, 0, none⟩ 1 1 [.int .i64 (k : Int)] rfl rfl (own_one _ _) (one_cell _) (by unfold maxLen; omega) (by omega) (by simp; omega) ?_; intro v' w4 hown' hgrow _; have hR := own_snoc64 HO3.out hsz3 HX3.out hown' hgrow; have HO4 := Lib.hid hR.1; have HX4 := Lib.hid hR.2; clear hown' hgrow hR))
          go_roundw
          case rel => exact ⟨k + 1, by omega, by omega, by go_num, Lib.hid (by rw [HST1.out]; exact HO4.out), HX4⟩
          case measure => simp [intOf]; omega
      · obtain rfl : k = m.classes.length := by omega
        go_wp2_with fail
        go_ret
        refine ⟨_, rfl, ?_, HW.out.trans (HX.out.mono HW.out.size)⟩
        rw [HE.out]
        exact own_lower HO.out HW.out.size
  · have hno : c < 0 ∨ (m.classes.length : Int) ≤ c := by omega
    have HE2 := Lib.hid (show belowOf m.classes c = [] by rw [HE.out]; exact belowTo_no (by omega) _ (by omega))
    clear hc hsl
    go_enter Try.func38, Try.ntmps38
    go_upto_region 1 with fail
    generalize w.alloc (imgO h m) = w1 at *
    obtain ⟨q0, q1, q2, q3, q4, q5, q6⟩ := HBX.out
    go_wp2_with (go_at_call 45; (with_reducible refine (isclass_no m.classes c hno h.A0 h.c0 w1 HIM.out.classes).mono ?_); rintro e w2 ⟨rfl, hb⟩; have HB2 := Lib.hid hb; clear hb)
    go_ret
    refine ⟨_, rfl, ?_, HW.out.trans (HB2.out.mono HW.out.size)⟩
    rw [HE2.out]
    exact World.ownsRow_nil _ _ _ _

section
variable {m : Img} {h : Hnd} {w0 w : World} {c : Int}
theorem cbelow_is {L : List Int} (HI : Hid (ImgIn w0 w0.heap.size h m)) (HX : Hid (Below w0.heap.size w0 w)) (HL : Hid (belowOf m.classes c = L)) (hn : m.classes.length ≤ 1000) :
    Calls Try.prog 38 #[imgV h m, .int .i64 c] w (OwnInts L w) := by
  have H := cbelow_any m c h w (HI.out.now HX.out) hn
  rw [HL.out] at H
  exact H
end
end Go.Proofs.Ytjjgpcmdoodjnaa
