/-
  All classes that are below one (Below), by the program and by the document.
-/
import Derived.Test.YtcehkmnneimdeaaClassFields
import Derived.Test.YtcehkmnneimdeaaSearch
namespace Go.Proofs.Ytcehkmnneimdeaa
set_option maxRecDepth 100000
set_option linter.unusedVariables false
set_option linter.unusedSimpArgs false
open Go.ChangeShapes Go.WideShapes Go.ChangeAt Go.RowKit

/-- Of the first k classes those that are below one, rising. -/
def belowTo (sup : List Int) (c : Int) : Nat → List Int
  | 0 => []
  | k + 1 => if inB (aboveI sup k) c then belowTo sup c k ++ [(k : Int)] else belowTo sup c k
def belowOf (cl : List Cls) (c : Int) : List Int := belowTo (supsOf cl) c cl.length
theorem belowTo_len (sup : List Int) (c : Int) : ∀ k, (belowTo sup c k).length ≤ k
  | 0 => Nat.le_refl _
  | k + 1 => by
    unfold belowTo
    have := belowTo_len sup c k
    split
    · simp; omega
    · omega
theorem belowTo_mem (sup : List Int) (c : Int) : ∀ (k : Nat) (x : Int), x ∈ belowTo sup c k ↔ 0 ≤ x ∧ x < k ∧ inB (aboveI sup x) c = true
  | 0, x => by simp [belowTo]; omega
  | k + 1, x => by
    unfold belowTo
    have ih := belowTo_mem sup c k x
    split
    · rename_i g
      rw [List.mem_append, ih, List.mem_singleton]
      constructor
      · rintro (⟨a, b, d⟩ | rfl)
        · exact ⟨a, by omega, d⟩
        · exact ⟨by omega, by omega, g⟩
      · rintro ⟨a, b, d⟩
        by_cases e : x = k
        · exact .inr e
        · exact .inl ⟨a, by omega, d⟩
    · rename_i g
      rw [ih]
      constructor
      · rintro ⟨a, b, d⟩; exact ⟨a, by omega, d⟩
      · rintro ⟨a, b, d⟩
        refine ⟨a, ?_, d⟩
        by_cases e : x = k
        · subst e; exact absurd d g
        · omega
theorem belowTo_rise (sup : List Int) (c : Int) : ∀ k, (belowTo sup c k).Pairwise (· < ·)
  | 0 => List.Pairwise.nil
  | k + 1 => by
    unfold belowTo
    split
    · rw [List.pairwise_append]
      refine ⟨belowTo_rise sup c k, by simp, fun a ha b hb => ?_⟩
      rw [List.mem_singleton] at hb
      subst hb
      exact ((belowTo_mem sup c k a).mp ha).2.1
    · exact belowTo_rise sup c k
theorem belowTo_self {sup : List Int} {c : Nat} (h : c < sup.length) : belowTo sup c (c + 1) = [(c : Int)] := by
  have e : belowTo sup (c : Int) c = [] := by
    apply List.eq_nil_iff_forall_not_mem.mpr
    intro x hx
    obtain ⟨h0, h1, h2⟩ := (belowTo_mem sup c c x).mp hx
    have := above_range (inB_iff.mp h2)
    omega
  unfold belowTo
  rw [if_pos (inB_iff.mpr (above_self (by omega) (by omega))), e]
  rfl
theorem belowTo_no {sup : List Int} {c : Int} (h : c < 0 ∨ (sup.length : Int) ≤ c) (k : Nat) (hk : k ≤ sup.length) : belowTo sup c k = [] := by
  apply List.eq_nil_iff_forall_not_mem.mpr
  intro x hx
  obtain ⟨h0, h1, h2⟩ := (belowTo_mem sup c k x).mp hx
  have := above_range (inB_iff.mp h2)
  omega
/-- Behind a class: one is below it just if what stands above it is. -/
theorem belowTo_next {sup : List Int} {c k : Nat} (hc : c < k) (hk : k < sup.length) : inB (aboveI sup (k : Int)) c = inB (belowTo sup c k) (supI sup k) := by
  rw [Bool.eq_iff_iff, inB_iff, inB_iff, belowTo_mem, inB_iff, above_sup (by omega) (by omega), List.mem_cons]
  have hb := supI_bounds sup (k : Int)
  constructor
  · rintro (h | h)
    · omega
    · have hr := above_range h
      exact ⟨by omega, by have := hb.2 (by omega); omega, h⟩
  · rintro ⟨_, _, h⟩
    exact .inr h

theorem own_one (w : World) (z : Int) {N : Nat} {T : TypeId} (hN : w.heap.size = N := by rfl) : ∀ j u, [Value.int .i64 z][j]? = some u → (w.alloc (.cells #[.int .i64 z] T)).cell? ((⟨N, 0, none⟩ : Addr).add j) = some u := by
  subst hN
  intro j u hj
  match j, hj with
  | 0, hj => simp at hj; subst hj; simp [Addr.add]
theorem one_cell (z : Int) : ∀ u ∈ [Value.int .i64 z], u.oneCell' = true := by intro u hu; simp at hu; subst hu; rfl
set_option maxHeartbeats 1600000 in
theorem rbelow_any (m : Img) (c : Int) (h : Hnd) (w : World) (H : ImgIn w w.heap.size h m) (hn : m.classes.length ≤ 1000) :
    Calls Try.prog 17 #[imgV h m, .int .i64 c] w (OwnInts (belowOf m.classes c) w) := by
  obtain ⟨i0, hi, hz0, hz1, hz2⟩ := info_parts info_int
  have HW := Lib.hid ((Below.refl w.heap.size w).alloc (Nat.le_refl _) (imgO h m))
  have HIM := Lib.hid (H.now HW.out)
  have HBX := Lib.hid (img_box w h m)
  have HZ : Hid (w.heap.size < (w.alloc (imgO h m)).heap.size) := Lib.hid (by simp)
  have HS := Lib.hid (supers_of HIM.out.classes.row)
  have hsl : (supsOf m.classes).length = m.classes.length := supsOf_len _
  have hle := H.classes.le
  have hcap := H.classes.cap
  have HE := Lib.hid (show belowOf m.classes c = belowTo (supsOf m.classes) c m.classes.length from rfl)
  obtain ⟨sup, hsup⟩ : ∃ sup, supsOf m.classes = sup := ⟨_, rfl⟩
  rw [hsup] at hsl HS HE
  have HSl := Lib.hid hsl
  clear hsl hsup H
  go_enter Try.func17, Try.ntmps17
  go_upto_region 1 with fail
  generalize w.alloc (imgO h m) = w1 at *
  go_wp2
  go_loopw [5, 6] (fun v i wr => ∃ k : Nat, k ≤ m.classes.length ∧ i = .int .i64 k ∧ Hid (wr.ownsRow w1.heap.size 3 1 v (belowTo sup c k).length ((belowTo sup c k).map (Value.int .i64))) ∧ Hid (Below w1.heap.size w1 wr)) (fun _ i _ => m.classes.length - (intOf i).toNat)
  case atStart => exact ⟨0, Nat.zero_le _, rfl, Lib.hid (own_empty w1 _), Lib.hid ((Below.refl _ _).alloc (Nat.le_refl _) _)⟩
  case round =>
    obtain ⟨k, hk, rfl, HO, HX⟩ := hrel
    obtain ⟨q0, q1, q2, q3, q4, q5, q6⟩ := HBX.out.keep HX.out HZ.out
    have hbl := belowTo_len sup c k
    by_cases hlt : k < m.classes.length
    · obtain ⟨b, hb⟩ : ∃ b, inB (aboveI sup k) c = b := ⟨_, rfl⟩
      have HST := Lib.hid (show belowTo sup c (k + 1) = if b = true then belowTo sup c k ++ [(k : Int)] else belowTo sup c k by rw [← hb]; rfl)
      obtain ⟨U, hU⟩ : ∃ U, aboveI sup k = U := ⟨_, rfl⟩
      have hUl : U.length ≤ 9223372036854775807 := by rw [← hU]; have := aboveI_len sup k; have := HSl.out; omega
      have HU := Lib.hid hU
      rw [hU] at hb
      have HB := Lib.hid hb
      clear hU hb
      have HSr := Lib.hid ((HS.out.below_to HX.out (Nat.le_refl _)) : Supers wr w1.heap.size h.A0 sup)
      generalize belowTo sup c k = L at *
      have hsz := HX.out.size
      have HSw : Hid (Supers wr wr.heap.size h.A0 sup) := Lib.hid (fun i s hs => by obtain ⟨ad, e, a0, a1⟩ := HSr.out i s hs; exact ⟨ad, e, Nat.lt_of_lt_of_le a0 hsz, a1⟩)
      have hn' : m.classes.length ≤ 1048576 := by omega
      cases b
      · have e1 : belowTo sup c (k + 1) = L := HST.out
        have HST1 := Lib.hid e1
        clear e1 HST
        go_wp2_with (first
          | (go_at_call 24; (with_reducible refine (rabove_is HSl hn' HU HSw).mono ?_); rintro e w2 ⟨v2, rfl, ho, hb⟩; have HX2 := Lib.hid (HX.out.trans (hb.mono hsz)); have HO2 := Lib.hid (own_below HO.out hb (own_block_lt HO.out)); obtain ⟨A2, c2, rfl, hl2, g1, g2⟩ := own_ints ho; have HL2 := Lib.hid hl2; have hsz2 := HX2.out.size; clear hb ho hl2)
          | (go_at_call 20; (with_reducible refine (rin_any _ _ _ _ _ _ hUl HL2.out).mono ?_); rintro e w' ⟨he, rfl⟩; rw [HB.out] at he; subst he; obtain ⟨q0, q1, q2, q3, q4, q5, q6⟩ := HBX.out.keep HX2.out HZ.out))
        go_roundw
        case rel => exact ⟨k + 1, by omega, by go_num, Lib.hid (by rw [HST1.out]; exact HO2.out), HX2⟩
        case measure => simp [intOf]; omega
      · have e1 : belowTo sup c (k + 1) = L ++ [(k : Int)] := HST.out
        have HST1 := Lib.hid e1
        clear e1 HST
        go_wp2_with (first
          | (go_at_call 24; (with_reducible refine (rabove_is HSl hn' HU HSw).mono ?_); rintro e w2 ⟨v2, rfl, ho, hb⟩; have HX2 := Lib.hid (HX.out.trans (hb.mono hsz)); have HO2 := Lib.hid (own_below HO.out hb (own_block_lt HO.out)); obtain ⟨A2, c2, rfl, hl2, g1, g2⟩ := own_ints ho; have HL2 := Lib.hid hl2; have hsz2 := HX2.out.size; clear hb ho hl2)
          | (go_at_call 20; (with_reducible refine (rin_any _ _ _ _ _ _ hUl HL2.out).mono ?_); rintro e w' ⟨he, rfl⟩; rw [HB.out] at he; subst he; obtain ⟨q0, q1, q2, q3, q4, q5, q6⟩ := HBX.out.keep HX2.out HZ.out)
          | (at_builtin; refine wpList_append_own _ rfl _ _ 26 rfl w1.heap.size 3 i0 (.int .i64 0) 1 8 Try.underlying26 hi hz0 hz1 hz2 rfl (by decide) _ _ _ rfl (HO2.out.alloc _) ⟨_, 0, none⟩ 1 1 [.int .i64 (k : Int)] rfl rfl (own_one _ _) (one_cell _) (by unfold maxLen; omega) (by omega) (by simp; omega) ?_; intro v' w3 hown' hgrow _; have hR := own_snoc64 HO2.out hsz2 HX2.out hown' hgrow; have HO3 := Lib.hid hR.1; have HX3 := Lib.hid hR.2; clear hown' hgrow hR))
        go_roundw
        case rel => exact ⟨k + 1, by omega, by go_num, Lib.hid (by rw [HST1.out]; exact HO3.out), HX3⟩
        case measure => simp [intOf]; omega
    · obtain rfl : k = m.classes.length := by omega
      go_wp2_with fail
      go_ret
      refine ⟨_, rfl, ?_, HW.out.trans (HX.out.mono HW.out.size)⟩
      rw [HE.out]
      exact own_lower HO.out HW.out.size

theorem search_is {l : List Int} {x : Int} {n : Nat} {b : Bool} {A : Option Addr} {cap : Nat} {w : World} (HN : Hid (l.length = n)) (HB : Hid (inB l x = b)) (hl : n ≤ 1048576) (h : Lies w w.heap.size A (l.map (Value.int .i64))) (hs : l.Pairwise (· < ·)) :
    Calls Try.prog 28 #[.slice A n cap, .int .i64 x] w (FoundIn b w) := by
  obtain rfl := HN.out
  have H := search_any l x A cap w hl h hs
  rw [HB.out] at H
  exact H

set_option maxHeartbeats 1600000 in
theorem cbelow_any (m : Img) (c : Int) (h : Hnd) (w : World) (H : ImgIn w w.heap.size h m) (hn : m.classes.length ≤ 1000) :
    Calls Try.prog 16 #[imgV h m, .int .i64 c] w (OwnInts (belowOf m.classes c) w) := by
  obtain ⟨i0, hi, hz0, hz1, hz2⟩ := info_parts info_int
  have HW := Lib.hid ((Below.refl w.heap.size w).alloc (Nat.le_refl _) (imgO h m))
  have HIM := Lib.hid (H.now HW.out)
  have HBX := Lib.hid (img_box w h m)
  have HZ : Hid (w.heap.size < (w.alloc (imgO h m)).heap.size) := Lib.hid (by simp)
  have HS := Lib.hid (supers_of HIM.out.classes.row)
  have hsl : (supsOf m.classes).length = m.classes.length := supsOf_len _
  have hle := H.classes.le
  have hcap := H.classes.cap
  have HE := Lib.hid (show belowOf m.classes c = belowTo (supsOf m.classes) c m.classes.length from rfl)
  obtain ⟨sup, hsup⟩ : ∃ sup, supsOf m.classes = sup := ⟨_, rfl⟩
  rw [hsup] at hsl HS HE
  clear hsup H
  by_cases hc : 0 ≤ c ∧ c < m.classes.length
  · obtain ⟨c0, c1⟩ := hc
    obtain ⟨i, rfl⟩ := Int.eq_ofNat_of_zero_le c0
    have hil : i < m.classes.length := by omega
    have HSELF := Lib.hid (belowTo_self (sup := sup) (c := i) (by omega))
    have hsl1 : sup.length ≤ 1048576 := by omega
    have HSl := Lib.hid hsl
    clear hsl c0 c1
    go_enter Try.func16, Try.ntmps16
    go_upto_region 1 with fail
    generalize w.alloc (imgO h m) = w1 at *
    obtain ⟨q0, q1, q2, q3, q4, q5, q6⟩ := HBX.out
    go_wp2_with (go_at_call 27; (with_reducible refine (isclass_yes m.classes i hil h.A0 h.c0 w1 HIM.out.classes).mono ?_); rintro e w2 ⟨rfl, hb⟩; have HB2 := Lib.hid hb; clear hb)
    clear q0 q1 q2 q3 q4 q5 q6
    have hs2 := HB2.out.size
    go_loopw [5, 6] (fun v s6 wr => ∃ k : Nat, i < k ∧ k ≤ m.classes.length ∧ s6 = .int .i64 k ∧ Hid (wr.ownsRow w1.heap.size 3 1 v (belowTo sup (i : Int) k).length ((belowTo sup (i : Int) k).map (Value.int .i64))) ∧ Hid (Below w1.heap.size w1 wr)) (fun _ s6 _ => m.classes.length - (intOf s6).toNat)
    case atStart =>
      refine ⟨i + 1, by omega, by omega, by go_num, Lib.hid ?_, Lib.hid (HB2.out.alloc hs2 _)⟩
      rw [HSELF.out]
      exact ⟨rfl, .inr ⟨w2.heap.size, 1, #[.int .i64 (i : Int)], rfl, hs2, heap_alloc_new _ _, Nat.le_refl _, by unfold maxLen; omega, rfl, rfl⟩⟩
    case round =>
      obtain ⟨k, hik, hk, rfl, HO, HX⟩ := hrel
      obtain ⟨q0, q1, q2, q3, q4, q5, q6⟩ := HBX.out.keep HX.out HZ.out
      have hbl := belowTo_len sup (i : Int) k
      by_cases hlt : k < m.classes.length
      · obtain ⟨b, hb⟩ : ∃ b, inB (aboveI sup k) (i : Int) = b := ⟨_, rfl⟩
        have HST := Lib.hid (show belowTo sup (i : Int) (k + 1) = if b = true then belowTo sup (i : Int) k ++ [(k : Int)] else belowTo sup (i : Int) k by rw [← hb]; rfl)
        have hks : k < sup.length := by rw [HSl.out]; exact hlt
        have hbn := belowTo_next hik hks
        rw [hb] at hbn
        have HBN := Lib.hid hbn.symm
        have HRI := Lib.hid (belowTo_rise sup (i : Int) k)
        clear hb hbn
        have HSr := Lib.hid ((HS.out.below_to HX.out (Nat.le_refl _)) : Supers wr w1.heap.size h.A0 sup)
        generalize belowTo sup (i : Int) k = L at *
        have hsz := HX.out.size
        have hk0 : (0 : Int) ≤ k := by omega
        have hk1 : (k : Int) < sup.length := by omega
        have hLl : L.length ≤ 1048576 := by omega
        obtain ⟨Av, cv, rfl, hl0, g1, g2⟩ := own_ints HO.out
        have HL0 := Lib.hid hl0
        clear hl0
        cases b
        · have e1 : belowTo sup (i : Int) (k + 1) = L := HST.out
          have HST1 := Lib.hid e1
          clear e1 HST
          go_wp2_with (first
            | (go_at_call 29; (with_reducible refine (cabove_is HSl hk0 hk1 h.A0 h.c0 w1.heap.size wr hsl1 hsz HSr.out).mono ?_); rintro e w2 ⟨rfl, hb⟩; have HX2 := Lib.hid (HX.out.trans (hb.mono hsz)); have HO2 := Lib.hid (own_below HO.out hb (own_block_lt HO.out)); have HL2 := Lib.hid ((HL0.out.below hb).more hb.size); have hsz2 := HX2.out.size; clear hb)
            | (go_at_call 28; (with_reducible refine (search_is (Lib.hid rfl) HBN hLl HL2.out HRI.out).mono ?_); rintro e w3 ⟨p, rfl, hb⟩; have HX3 := Lib.hid (HX2.out.trans (hb.mono hsz2)); have HO3 := Lib.hid (own_below HO2.out hb (own_block_lt HO2.out)); have hsz3 := HX3.out.size; clear hb; obtain ⟨q0, q1, q2, q3, q4, q5, q6⟩ := HBX.out.keep HX3.out HZ.out))
          go_roundw
          case rel => exact ⟨k + 1, by omega, by omega, by go_num, Lib.hid (by rw [HST1.out]; exact HO3.out), HX3⟩
          case measure => simp [intOf]; omega
        · have e1 : belowTo sup (i : Int) (k + 1) = L ++ [(k : Int)] := HST.out
          have HST1 := Lib.hid e1
          clear e1 HST
          go_wp2_with (first
            | (go_at_call 29; (with_reducible refine (cabove_is HSl hk0 hk1 h.A0 h.c0 w1.heap.size wr hsl1 hsz HSr.out).mono ?_); rintro e w2 ⟨rfl, hb⟩; have HX2 := Lib.hid (HX.out.trans (hb.mono hsz)); have HO2 := Lib.hid (own_below HO.out hb (own_block_lt HO.out)); have HL2 := Lib.hid ((HL0.out.below hb).more hb.size); have hsz2 := HX2.out.size; clear hb)
            | (go_at_call 28; (with_reducible refine (search_is (Lib.hid rfl) HBN hLl HL2.out HRI.out).mono ?_); rintro e w3 ⟨p, rfl, hb⟩; have HX3 := Lib.hid (HX2.out.trans (hb.mono hsz2)); have HO3 := Lib.hid (own_below HO2.out hb (own_block_lt HO2.out)); have hsz3 := HX3.out.size; clear hb; obtain ⟨q0, q1, q2, q3, q4, q5, q6⟩ := HBX.out.keep HX3.out HZ.out)
            | (at_builtin; refine wpList_append_own _ rfl _ _ 26 rfl w1.heap.size 3 i0 (.int .i64 0) 1 8 Try.underlying26 hi hz0 hz1 hz2 rfl (by decide) _ _ _ rfl (HO3.out.alloc _) ⟨_, 0, none⟩ 1 1 [.int .i64 (k : Int)] rfl rfl (own_one _ _) (one_cell _) (by unfold maxLen; omega) (by omega) (by simp; omega) ?_; intro v' w4 hown' hgrow _; have hR := own_snoc64 HO3.out hsz3 HX3.out hown' hgrow; have HO4 := Lib.hid hR.1; have HX4 := Lib.hid hR.2; clear hown' hgrow hR))
          go_roundw
          case rel => exact ⟨k + 1, by omega, by omega, by go_num, Lib.hid (by rw [HST1.out]; exact HO4.out), HX4⟩
          case measure => simp [intOf]; omega
      · obtain rfl : k = m.classes.length := by omega
        go_wp2_with fail
        go_ret
        refine ⟨_, rfl, ?_, HW.out.trans (HX.out.mono HW.out.size)⟩
        rw [HE.out]
        exact own_lower HO.out HW.out.size
  · have hno : c < 0 ∨ (m.classes.length : Int) ≤ c := by omega
    have HE2 := Lib.hid (show belowOf m.classes c = [] by rw [HE.out]; exact belowTo_no (by omega) _ (by omega))
    clear hc hsl
    go_enter Try.func16, Try.ntmps16
    go_upto_region 1 with fail
    generalize w.alloc (imgO h m) = w1 at *
    obtain ⟨q0, q1, q2, q3, q4, q5, q6⟩ := HBX.out
    go_wp2_with (go_at_call 27; (with_reducible refine (isclass_no m.classes c hno h.A0 h.c0 w1 HIM.out.classes).mono ?_); rintro e w2 ⟨rfl, hb⟩; have HB2 := Lib.hid hb; clear hb)
    go_ret
    refine ⟨_, rfl, ?_, HW.out.trans (HB2.out.mono HW.out.size)⟩
    rw [HE2.out]
    exact World.ownsRow_nil _ _ _ _

section
variable {m : Img} {h : Hnd} {w0 w : World} {c : Int}
theorem cfields_is {L : List (Int × Int)} (HI : Hid (ImgIn w0 w0.heap.size h m)) (HX : Hid (Below w0.heap.size w0 w)) (HL : Hid (fieldsOf m.classes c = L)) (hn : m.classes.length ≤ 1000) (HF : Hid (∀ x ∈ m.classes, x.fields.length ≤ 1000)) :
    Calls Try.prog 13 #[imgV h m, .int .i64 c] w (OwnTypes L w) := by
  have H := cfields_any m c h w (HI.out.now HX.out) hn HF.out
  rw [HL.out] at H
  exact H
theorem rfields_is {L : List (Int × Int)} (HI : Hid (ImgIn w0 w0.heap.size h m)) (HX : Hid (Below w0.heap.size w0 w)) (HL : Hid (fieldsOf m.classes c = L)) (hn : m.classes.length ≤ 1000) (HF : Hid (∀ x ∈ m.classes, x.fields.length ≤ 1000)) :
    Calls Try.prog 11 #[imgV h m, .int .i64 c] w (OwnTypes L w) := by
  have H := rfields_any m c h w (HI.out.now HX.out) hn HF.out
  rw [HL.out] at H
  exact H
theorem cbelow_is {L : List Int} (HI : Hid (ImgIn w0 w0.heap.size h m)) (HX : Hid (Below w0.heap.size w0 w)) (HL : Hid (belowOf m.classes c = L)) (hn : m.classes.length ≤ 1000) :
    Calls Try.prog 16 #[imgV h m, .int .i64 c] w (OwnInts L w) := by
  have H := cbelow_any m c h w (HI.out.now HX.out) hn
  rw [HL.out] at H
  exact H
theorem rbelow_is {L : List Int} (HI : Hid (ImgIn w0 w0.heap.size h m)) (HX : Hid (Below w0.heap.size w0 w)) (HL : Hid (belowOf m.classes c = L)) (hn : m.classes.length ≤ 1000) :
    Calls Try.prog 17 #[imgV h m, .int .i64 c] w (OwnInts L w) := by
  have H := rbelow_any m c h w (HI.out.now HX.out) hn
  rw [HL.out] at H
  exact H
end

theorem fieldsOf_len {cl : List Cls} (h : ∀ c ∈ cl, c.fields.length ≤ 1000) (hn : cl.length ≤ 1000) (c : Int) : (fieldsOf cl c).length ≤ 1000000 := by
  have h1 := fields_sum h (aboveI (supsOf cl) c).reverse
  have h2 := aboveI_len (supsOf cl) c
  rw [supsOf_len] at h2
  rw [List.length_reverse] at h1
  show ((aboveI (supsOf cl) c).reverse.flatMap (fieldsAt cl)).length ≤ 1000000
  omega
theorem csize_any (m : Img) (c : Int) (h : Hnd) (w : World) (H : ImgIn w w.heap.size h m) (hn : m.classes.length ≤ 1000) (hf : ∀ x ∈ m.classes, x.fields.length ≤ 1000) :
    Calls Try.prog 14 #[imgV h m, .int .i64 c] w fun e w' => e = .returned (.int .i64 (1 + ((fieldsOf m.classes c).length : Int))) ∧ Below w.heap.size w w' := by
  have HW := Lib.hid ((Below.refl w.heap.size w).alloc (Nat.le_refl _) (imgO h m))
  have HIM := Lib.hid (H.now HW.out)
  have HBX := Lib.hid (img_box w h m)
  have HF := Lib.hid hf
  have hL := fieldsOf_len hf hn c
  obtain ⟨L, e⟩ : ∃ L, fieldsOf m.classes c = L := ⟨_, rfl⟩
  rw [e] at hL ⊢
  have HL := Lib.hid e
  clear e hf H
  go_enter Try.func14, Try.ntmps14
  go_upto_region 1 with fail
  generalize w.alloc (imgO h m) = w1 at *
  obtain ⟨q0, q1, q2, q3, q4, q5, q6⟩ := HBX.out
  go_wp2_with (go_at_call 13; (with_reducible refine (cfields_is HIM (Lib.hid (Below.refl _ _)) HL hn HF).mono ?_); rintro e w2 ⟨v2, rfl, ho, hb⟩; have HB2 := Lib.hid hb; obtain ⟨A2, c2, rfl, hl2, _⟩ := own_types ho; clear hb ho hl2)
  go_ret
  exact ⟨by first | rfl | simp, HW.out.trans (HB2.out.mono HW.out.size)⟩
end Go.Proofs.Ytcehkmnneimdeaa
