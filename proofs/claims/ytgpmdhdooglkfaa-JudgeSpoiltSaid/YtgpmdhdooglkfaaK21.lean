/-
  What the document's own answer for all classes below one (Below) comes to.
  What the document's own answer for where an instruction may call to (Targets) comes to.
  What the document's own answer for where a virtual call may go (Targets) comes to.
-/
import Derived.Test.YtgpmdhdooglkfaaK19
import Derived.Test.YtgpmdhdooglkfaaK03
import Derived.Deep.AppendLies
namespace Go.Proofs.Ytgpmdhdooglkfaa
set_option maxRecDepth 100000
set_option linter.unusedVariables false
set_option linter.unusedSimpArgs false
open Go.ChangeShapes Go.WideShapes Go.ChangeAt Go.RowKit

set_option maxHeartbeats 1600000 in
theorem rbelow_any (m : Img) (c : Int) (h : Hnd) (w : World) (H : ImgIn w w.heap.size h m) (hn : m.classes.length ≤ 1000) :
    Calls Try.prog 71 #[imgV h m, .int .i64 c] w (OwnInts (belowOf m.classes c) w) := by
  obtain ⟨i0, hi, hz0, hz1, hz2⟩ := info_parts info_int
  have HW := Lib.hid ((Below.refl w.heap.size w).alloc (Nat.le_refl _) (imgO h m))
  have HIM := Lib.hid (H.now HW.out)
  have HBX := Lib.hid (img_box w h m)
  have HZ : Hid (w.heap.size < (w.alloc (imgO h m)).heap.size) := Lib.hid (by simp)
  have HS := Lib.hid (supers_of HIM.out.classes.row)
  have hsl : (supsOf m.classes).length = m.classes.length := supsOf_len _
  have hle := H.classes.le
  have hcap := H.classes.cap
  have HE := Lib.hid (show belowOf m.classes c = belowTo (supsOf m.classes) c m.classes.length from rfl)
  obtain ⟨sup, hsup⟩ : ∃ sup, supsOf m.classes = sup := ⟨_, rfl⟩
  rw [hsup] at hsl HS HE
  have HSl := Lib.hid hsl
  clear hsl hsup H
  go_enter Try.func71, Try.ntmps71
  go_upto_region 1 with fail
  generalize w.alloc (imgO h m) = w1 at *
  go_wp2
  go_loopw [5, 6] (fun v i wr => ∃ k : Nat, k ≤ m.classes.length ∧ i = .int .i64 k ∧ Hid (wr.ownsRow w1.heap.size 3 1 v (belowTo sup c k).length ((belowTo sup c k).map (Value.int .i64))) ∧ Hid (Below w1.heap.size w1 wr)) (fun _ i _ => m.classes.length - (intOf i).toNat)
  case atStart => exact ⟨0, Nat.zero_le _, rfl, Lib.hid (own_empty w1 _), Lib.hid ((Below.refl _ _).alloc (Nat.le_refl _) _)⟩
  case round =>
    obtain ⟨k, hk, rfl, HO, HX⟩ := hrel
    obtain ⟨q0, q1, q2, q3, q4, q5, q6⟩ := HBX.out.keep HX.out HZ.out
    have hbl := belowTo_len sup c k
    by_cases hlt : k < m.classes.length
    · obtain ⟨b, hb⟩ : ∃ b, inB (aboveI sup k) c = b := ⟨_, rfl⟩
      have HST := Lib.hid (show belowTo sup c (k + 1) = if b = true then belowTo sup c k ++ [(k : Int)] else belowTo sup c k by rw [← hb]; rfl)
      obtain ⟨U, hU⟩ : ∃ U, aboveI sup k = U := ⟨_, rfl⟩
      have hUl : U.length ≤ 9223372036854775807 := by rw [← hU]; have := aboveI_len sup k; have := HSl.out; omega
      have HU := Lib.hid hU
      rw [hU] at hb
      have HB := Lib.hid hb
      clear hU hb
      have HSr := Lib.hid ((HS.out.below_to HX.out (Nat.le_refl _)) : Supers wr w1.heap.size h.A0 sup)
      generalize belowTo sup c k = L at *
      have hsz := HX.out.size
      have HSw : Hid (Supers wr wr.heap.size h.A0 sup) := Lib.hid (fun i s hs => by obtain ⟨ad, e, a0, a1⟩ := HSr.out i s hs; exact ⟨ad, e, Nat.lt_of_lt_of_le a0 hsz, a1⟩)
      have hn' : m.classes.length ≤ 1048576 := by omega
      cases b
      · have e1 : belowTo sup c (k + 1) = L := HST.out
        have HST1 := Lib.hid e1
        clear e1 HST
        go_wp2_with (first
          | (go_at_call 66; (with_reducible refine (rabove_is HSl hn' HU HSw).mono ?_); rintro e w2 ⟨v2, rfl, ho, hb⟩; have HX2 := Lib.hid (HX.out.trans (hb.mono hsz)); have HO2 := Lib.hid (own_below HO.out hb (own_block_lt HO.out)); obtain ⟨A2, c2, rfl, hl2, g1, g2⟩ := own_ints ho; have HL2 := Lib.hid hl2; have hsz2 := HX2.out.size; clear hb ho hl2)
          | (go_at_call 51; (with_reducible refine (rin_any _ _ _ _ _ _ hUl HL2.out).mono ?_); rintro e w' ⟨he, rfl⟩; rw [HB.out] at he; subst he; obtain ⟨q0, q1, q2, q3, q4, q5, q6⟩ := HBX.out.keep HX2.out HZ.out))
        go_roundw
        case rel => exact ⟨k + 1, by omega, by go_num, Lib.hid (by rw [HST1.out]; exact HO2.out), HX2⟩
        case measure => simp [intOf]; omega
      · have e1 : belowTo sup c (k + 1) = L ++ [(k : Int)] := HST.out
        have HST1 := Lib.hid e1
        clear e1 HST
        go_wp2_with (first
          | (go_at_call 66; (with_reducible refine (rabove_is HSl hn' HU HSw).mono ?_); rintro e w2 ⟨v2, rfl, ho, hb⟩; have HX2 := Lib.hid (HX.out.trans (hb.mono hsz)); have HO2 := Lib.hid (own_below HO.out hb (own_block_lt HO.out)); obtain ⟨A2, c2, rfl, hl2, g1, g2⟩ := own_ints ho; have HL2 := Lib.hid hl2; have hsz2 := HX2.out.size; clear hb ho hl2)
          | (go_at_call 51; (with_reducible refine (rin_any _ _ _ _ _ _ hUl HL2.out).mono ?_); rintro e w' ⟨he, rfl⟩; rw [HB.out] at he; subst he; obtain ⟨q0, q1, q2, q3, q4, q5, q6⟩ := HBX.out.keep HX2.out HZ.out)
          | (at_builtin; refine wpList_append_own _ rfl _ _ 26 rfl w1.heap.size 3 i0 (.int .i64 0) 1 8 Try.underlying26 hi hz0 hz1 hz2 rfl (by decide) _ _ _ rfl (HO2.out.alloc _) ⟨_, 0, none⟩ 1 1 [.int .i64 (k : Int)] rfl rfl (own_one _ _) (one_cell _) (by unfold maxLen; omega) (by omega) (by simp; omega) ?_; intro v' w3 hown' hgrow _; have hR := own_snoc64 HO2.out hsz2 HX2.out hown' hgrow; have HO3 := Lib.hid hR.1; have HX3 := Lib.hid hR.2; clear hown' hgrow hR))
        go_roundw
        case rel => exact ⟨k + 1, by omega, by go_num, Lib.hid (by rw [HST1.out]; exact HO3.out), HX3⟩
        case measure => simp [intOf]; omega
    · obtain rfl : k = m.classes.length := by omega
      go_wp2_with fail
      go_ret
      refine ⟨_, rfl, ?_, HW.out.trans (HX.out.mono HW.out.size)⟩
      rw [HE.out]
      exact own_lower HO.out HW.out.size
section
variable {m : Img} {h : Hnd} {w0 w : World} {c : Int}
theorem rbelow_is {L : List Int} (HI : Hid (ImgIn w0 w0.heap.size h m)) (HX : Hid (Below w0.heap.size w0 w)) (HL : Hid (belowOf m.classes c = L)) (hn : m.classes.length ≤ 1000) :
    Calls Try.prog 71 #[imgV h m, .int .i64 c] w (OwnInts L w) := by
  have H := rbelow_any m c h w (HI.out.now HX.out) hn
  rw [HL.out] at H
  exact H
end

/-- What lies in a slot of each of these classes. -/
def slotsIn (m : Img) (b : Int) (l : List Int) : List Int := l.filterMap fun k => slotOf m.classes k b
def targetsOf (m : Img) (op a b : Int) : List Int := if op = 31 then [a] else if op = 32 then slotsIn m b (belowOf m.classes a) else []
theorem slotsIn_snoc {m : Img} {b : Int} {l : List Int} {k : Nat} (hk : k < l.length) : slotsIn m b (l.take (k + 1)) = slotsIn m b (l.take k) ++ (slotOf m.classes l[k] b).toList := by
  unfold slotsIn
  rw [List.take_add_one, List.getElem?_eq_getElem hk, List.filterMap_append]
  congr 1
theorem slotsIn_len (m : Img) (b : Int) (l : List Int) : (slotsIn m b l).length ≤ l.length := List.length_filterMap_le _ _
theorem tgt_parts (h : Hnd) (m : Img) (op a b : Int) (w : World) : ImgBox ((w.alloc (imgO h m)).alloc (.cells #[.int .i64 op, .int .i64 a, .int .i64 b] 49)) w.heap.size h m ∧
    Cells ((w.alloc (imgO h m)).alloc (.cells #[.int .i64 op, .int .i64 a, .int .i64 b] 49)) (w.heap.size + 1) [.int .i64 op, .int .i64 a, .int .i64 b] ∧
    Below w.heap.size w ((w.alloc (imgO h m)).alloc (.cells #[.int .i64 op, .int .i64 a, .int .i64 b] 49)) ∧ ((w.alloc (imgO h m)).alloc (.cells #[.int .i64 op, .int .i64 a, .int .i64 b] 49)).heap.size = w.heap.size + 2 := by
  have z0 : (w.alloc (imgO h m)).heap.size = w.heap.size + 1 := by simp
  obtain ⟨c1, z1, b1⟩ := cells_step z0 [.int .i64 op, .int .i64 a, .int .i64 b] 49
  exact ⟨(img_box w h m).keep b1 (by omega), c1, ((Below.refl w.heap.size w).alloc (Nat.le_refl _) (imgO h m)).trans (b1.mono (by omega)), z1⟩

set_option maxHeartbeats 1600000 in
theorem rtargets_none (m : Img) (op a b : Int) (n31 : ¬ op = 31) (n32 : ¬ op = 32) (h : Hnd) (w : World) :
    Calls Try.prog 52 #[imgV h m, insV op a b] w (OwnInts (targetsOf m op a b) w) := by
  have e0 : targetsOf m op a b = [] := by unfold targetsOf; rw [if_neg n31, if_neg n32]
  rw [e0]
  clear e0
  obtain ⟨hq, hc, hb, hz⟩ := tgt_parts h m op a b w
  have HW := Lib.hid hb
  have HC := Lib.hid hc
  have HZ := Lib.hid hz
  clear hb hq hc hz
  go_enter Try.func52, Try.ntmps52
  go_upto_region 1 with fail
  generalize (w.alloc (imgO h m)).alloc (.cells #[.int .i64 op, .int .i64 a, .int .i64 b] 49) = w1 at *
  have j0 := (HC.out.keep ((Below.refl w1.heap.size w1).alloc (Nat.le_refl _) (.cells #[] 3)) (by have := HZ.out; omega)) 0 _ rfl
  go_wp2_with fail
  go_ret
  exact ⟨_, rfl, own_lower (own_empty w1 _) HW.out.size, HW.out.trans (((Below.refl w1.heap.size w1).alloc (Nat.le_refl _) _).mono HW.out.size)⟩

set_option maxHeartbeats 1600000 in
theorem rtargets_call (m : Img) (a b : Int) (h : Hnd) (w : World) :
    Calls Try.prog 52 #[imgV h m, insV 31 a b] w (OwnInts (targetsOf m 31 a b) w) := by
  rw [show targetsOf m 31 a b = [] ++ [a] from rfl]
  obtain ⟨i0, hi, hz0, hz1, hz2⟩ := info_parts info_int
  obtain ⟨hq, hc, hb, hz⟩ := tgt_parts h m 31 a b w
  have HW := Lib.hid hb
  have HC := Lib.hid hc
  have HZ := Lib.hid hz
  clear hb hq hc hz
  go_enter Try.func52, Try.ntmps52
  go_upto_region 1 with fail
  generalize (w.alloc (imgO h m)).alloc (.cells #[.int .i64 31, .int .i64 a, .int .i64 b] 49) = w1 at *
  go_upto_region 2 with fail
  have HO := Lib.hid (own_empty w1 3)
  have HX := Lib.hid ((Below.refl w1.heap.size w1).alloc (Nat.le_refl _) (.cells #[] 3))
  generalize w1.alloc (.cells #[] 3) = w2 at *
  have hlt : w.heap.size + 1 < w1.heap.size := by have := HZ.out; omega
  have HL := Lib.hid hlt
  clear hlt
  have j0 := (HC.out.keep HX.out HL.out) 0 _ rfl
  have j1 := (HC.out.keep HX.out HL.out) 1 _ rfl
  have hsz := HX.out.size
  go_wp2_with (first
    | (at_builtin; refine wpList_append_own _ rfl _ _ 26 rfl w1.heap.size 3 i0 (.int .i64 0) 1 8 Try.underlying26 hi hz0 hz1 hz2 rfl (by decide) _ _ _ rfl (HO.out.alloc _) ⟨_, 0, none⟩ 1 1 [.int .i64 a] rfl rfl (own_one _ _) (one_cell _) (by unfold maxLen; omega) (by omega) (by simp; omega) ?_; intro v' w3 hown' hgrow _; have hR := own_snoc64 (pre := []) HO.out hsz HX.out hown' hgrow; have HO3 := Lib.hid hR.1; have HX3 := Lib.hid hR.2; have j0 := (HC.out.keep HX3.out HL.out) 0 _ rfl; clear hown' hgrow hR))
  go_ret
  exact ⟨_, rfl, own_lower HO3.out HW.out.size, HW.out.trans (HX3.out.mono HW.out.size)⟩

/-- A row of the call's own, apart from a list that lies elsewhere. -/
def Apart (v : Value) (A : Option Addr) : Prop := ∀ g, v.ownBlock = some g → ∀ ad, A = some ad → g ≠ ad.block
theorem lies_grown {w w3 : World} {o : Obj} {B : Nat} {A : Option Addr} {xs : List Value} {v : Value} (h : Lies w B A xs) (hB : B ≤ w.heap.size) (hg : (w.alloc o).grownBy w3 v.ownBlock) (ha : Apart v A) : Lies w3 B A xs := fun j u hu => by
  obtain ⟨ad, e, hb, hc⟩ := h j u hu
  refine ⟨ad, e, hb, ?_⟩
  have hk : (ad.add j).block = ad.block := by rw [addr_add_block]
  have h1 : w3.cell? (ad.add j) = (w.alloc o).cell? (ad.add j) := World.cell?_of_block (hg.block _ (by rw [hk]; simp; omega) (fun e' => ha _ e'.symm ad e hk))
  rw [h1]
  exact (((Below.refl w.heap.size w).alloc (Nat.le_refl _) o).cell (by rw [hk]; omega)).trans hc
theorem apart_first {w : World} {A : Option Addr} {B N e n c : Nat} {xs : List Value} (ho : w.ownsRow B e 1 (.slice A n c) n xs) (h : N < B) : Apart (.slice (some ⟨N, 0, none⟩) 0 0) A := fun g hg ad e => by
  have h1 : N = g := by simpa [Value.ownBlock] using hg
  have h2 := (ho.lt ad.block (by rw [e]; rfl)).1
  omega
theorem apart_next {v : Value} {A : Option Addr} {B g9 H n c : Nat} (h : Apart v A) (hlt : ∀ ad, A = some ad → ad.block < B) (hor : v.ownBlock = some g9 ∨ g9 = H) (hH : B ≤ H) : Apart (.slice (some ⟨g9, 0, none⟩) n c) A := fun g hg ad e => by
  have : g9 = g := by simpa [Value.ownBlock] using hg
  subst this
  rcases hor with q | q
  · exact h _ q ad e
  · have := hlt ad e; omega

set_option maxHeartbeats 3200000 in
theorem rtargets_virt (m : Img) (a b : Int) (h : Hnd) (w : World) (H : ImgIn w w.heap.size h m) (hn : m.classes.length ≤ 1000) :
    Calls Try.prog 52 #[imgV h m, insV 32 a b] w (OwnInts (targetsOf m 32 a b) w) := by
  obtain ⟨L, hL⟩ : ∃ L, belowOf m.classes a = L := ⟨_, rfl⟩
  rw [show targetsOf m 32 a b = slotsIn m b (belowOf m.classes a) from rfl, hL]
  have hLl : L.length ≤ 1000 := by rw [← hL]; exact Nat.le_trans (belowTo_len _ _ _) hn
  have HLB := Lib.hid hL
  clear hL
  obtain ⟨i0, hi, hz0, hz1, hz2⟩ := info_parts info_int
  obtain ⟨hq, hc, hb, hz⟩ := tgt_parts h m 32 a b w
  have HW := Lib.hid hb
  have HC := Lib.hid hc
  have HZ := Lib.hid hz
  have HBX := Lib.hid hq
  have HIM := Lib.hid (H.now hb)
  have hn1 := hn
  have hkc := H.classes.cap
  clear hb hq hc hz H
  go_enter Try.func52, Try.ntmps52
  go_upto_region 1 with fail
  generalize (w.alloc (imgO h m)).alloc (.cells #[.int .i64 32, .int .i64 a, .int .i64 b] 49) = w1 at *
  go_upto_region 2 with fail
  have HO := Lib.hid (own_empty w1 3)
  have HX := Lib.hid ((Below.refl w1.heap.size w1).alloc (Nat.le_refl _) (.cells #[] 3))
  have HZ12 : Hid (w1.heap.size < (w1.alloc (.cells #[] 3)).heap.size) := Lib.hid (by simp)
  generalize w1.alloc (.cells #[] 3) = w2 at *
  have hlt : w.heap.size + 1 < w1.heap.size := by have := HZ.out; omega
  have HL := Lib.hid hlt
  have HLB0 : Hid (w.heap.size < w1.heap.size) := Lib.hid (by omega)
  clear hlt
  have j0 := (HC.out.keep HX.out HL.out) 0 _ rfl
  have j1 := (HC.out.keep HX.out HL.out) 1 _ rfl
  obtain ⟨q0, q1, q2, q3, q4, q5, q6⟩ := HBX.out.keep HX.out HLB0.out
  have hsz := HX.out.size
  go_wp2_with (first | (go_at_call 71; (with_reducible refine (rbelow_is HIM HX HLB hn1).mono ?_); rintro e w5 ⟨v5, rfl, ho, hb⟩; have HO := Lib.hid (own_below HO.out hb (own_block_lt HO.out)); have HX := Lib.hid (HX.out.trans (hb.mono HX.out.size)); obtain ⟨A5, c5, rfl, hl5, g1, g2⟩ := own_ints ho; have HL5 := Lib.hid hl5; have HAP := Lib.hid (apart_first ho HZ12.out); clear hb ho hl5))
  go_loopw [5, 7] (fun v i wr => ∃ k : Nat, k ≤ L.length ∧ i = .int .i64 k ∧ Hid (wr.ownsRow w1.heap.size 3 1 v (slotsIn m b (L.take k)).length ((slotsIn m b (L.take k)).map (Value.int .i64))) ∧ Hid (Below w1.heap.size w1 wr) ∧ Hid (Lies wr w5.heap.size A5 (L.map (Value.int .i64))) ∧ Hid (Apart v A5) ∧ Hid (w5.heap.size ≤ wr.heap.size)) (fun _ i _ => L.length - (intOf i).toNat)
  case atStart => exact ⟨0, Nat.zero_le _, rfl, HO, HX, HL5, HAP, Lib.hid (Nat.le_refl _)⟩
  case round =>
    clear HO HX HL5 HAP j0 j1 q0 q1 q2 q3 q4 q5 q6
    obtain ⟨k, hk, rfl, HO, HX, HL5, HAP, HSZ⟩ := hrel
    by_cases hlt : k < L.length
    · obtain ⟨ad, rfl, hab, hc0⟩ := HL5.out k (.int .i64 L[k]) (by rw [List.getElem?_map, List.getElem?_eq_getElem hlt]; rfl)
      have hs := slotsIn_snoc (m := m) (b := b) hlt
      have hyl : (slotsIn m b (L.take k)).length ≤ 1000 := Nat.le_trans (slotsIn_len _ _ _) (by rw [List.length_take]; omega)
      obtain ⟨q, hq⟩ : ∃ q, L[k] = q := ⟨_, rfl⟩
      rw [hq] at hs hc0
      have HPB : Hid ((ad.add k).block < wr.heap.size) := Lib.hid (by rw [addr_add_block]; exact Nat.lt_of_lt_of_le hab HSZ.out)
      have p := hc0
      have HLT5 : Hid (∀ ad', some ad = some ad' → ad'.block < w5.heap.size) := Lib.hid (fun ad' e => by injection e with e; subst e; exact hab)
      obtain ⟨o, ho⟩ : ∃ o, slotOf m.classes q b = o := ⟨_, rfl⟩
      rw [ho] at hs
      have HSV := Lib.hid ho
      have HS := Lib.hid hs
      clear hs ho hq hab hc0
      generalize slotsIn m b (L.take k) = Y at *
      obtain ⟨q0, q1, q2, q3, q4, q5, q6⟩ := HBX.out.keep HX.out HLB0.out
      have j2 := (HC.out.keep HX.out HL.out) 2 _ rfl
      have HXd : Hid (Below w1.heap.size w1 wr.drew) := Lib.hid HX.out.drew
      have HBr : Hid (Below wr.heap.size wr wr.drew) := Lib.hid (Below.refl wr.heap.size wr).drew
      have HL5d : Hid (Lies wr.drew w5.heap.size (some ad) (L.map (Value.int .i64))) := Lib.hid (HL5.out.below_to HBr.out HSZ.out)
      have HOd : Hid (wr.drew.ownsRow w1.heap.size 3 1 u5 Y.length (Y.map (Value.int .i64))) := Lib.hid (own_below HO.out (Below.refl wr.heap.size wr).drew (own_block_lt HO.out))
      cases o with
      | none =>
        go_wp2_with fail
        go_region_held3 (fun w' => w'.cell? ⟨w.heap.size, 0, none⟩ = some (.slice h.A0 m.classes.length h.c0) ∧ w'.cell? ⟨w.heap.size, 1, none⟩ = some (.slice h.A1 m.statics.length h.c1) ∧ w'.cell? ⟨w.heap.size, 2, none⟩ = some (.slice h.A2 m.ints.length h.c2) ∧ w'.cell? ⟨w.heap.size, 3, none⟩ = some (.slice h.A3 m.methods.length h.c3) ∧ w'.cell? ⟨w.heap.size, 4, none⟩ = some (.slice h.A4 m.entries.length h.c4) ∧ w'.cell? ⟨w.heap.size, 5, none⟩ = some (.int .i64 m.stack) ∧ w'.cell? ⟨w.heap.size, 6, none⟩ = some (.int .i64 m.heap) ∧ w'.cell? ⟨w.heap.size + 1, 2, none⟩ = some (.int .i64 b) ∧ w'.cell? (ad.add k) = some (.int .i64 q)) (first | exact ⟨q0, q1, q2, q3, q4, q5, q6, j2, p⟩) (first | (go_at_call 69; (with_reducible refine (rslot_is HIM HXd HSV).mono ?_); rintro e w2 ⟨rfl, hb⟩; have HX2 := Lib.hid (HXd.out.trans (hb.mono HXd.out.size)); have HL52 := Lib.hid ((HL5d.out.below_to hb HSZ.out) : Lies w2 w5.heap.size (some ad) (L.map (Value.int .i64))); have HSZ2 : Hid (w5.heap.size ≤ w2.heap.size) := Lib.hid (Nat.le_trans HSZ.out hb.size); have HO2 := Lib.hid (own_below HOd.out hb (own_block_lt HOd.out)); have hsz2 := HX2.out.size; obtain ⟨q0, q1, q2, q3, q4, q5, q6⟩ := HBX.out.keep HX2.out HLB0.out; have j2 := (HC.out.keep HX2.out HL.out) 2 _ rfl; have p := (hb.cell (p := ad.add k) HPB.out).trans p; clear hb))
        go_wp2_with fail
        go_roundw
        case rel => exact ⟨k + 1, by omega, by go_num, Lib.hid (by rw [HS.out, Option.toList_none, List.append_nil]; exact HO2.out), HX2, HL52, HAP, HSZ2⟩
        case measure => simp [intOf]; omega
      | some g =>
        go_wp2_with fail
        go_region_held3 (fun w' => w'.cell? ⟨w.heap.size, 0, none⟩ = some (.slice h.A0 m.classes.length h.c0) ∧ w'.cell? ⟨w.heap.size, 1, none⟩ = some (.slice h.A1 m.statics.length h.c1) ∧ w'.cell? ⟨w.heap.size, 2, none⟩ = some (.slice h.A2 m.ints.length h.c2) ∧ w'.cell? ⟨w.heap.size, 3, none⟩ = some (.slice h.A3 m.methods.length h.c3) ∧ w'.cell? ⟨w.heap.size, 4, none⟩ = some (.slice h.A4 m.entries.length h.c4) ∧ w'.cell? ⟨w.heap.size, 5, none⟩ = some (.int .i64 m.stack) ∧ w'.cell? ⟨w.heap.size, 6, none⟩ = some (.int .i64 m.heap) ∧ w'.cell? ⟨w.heap.size + 1, 2, none⟩ = some (.int .i64 b) ∧ w'.cell? (ad.add k) = some (.int .i64 q)) (first | exact ⟨q0, q1, q2, q3, q4, q5, q6, j2, p⟩) (first | (go_at_call 69; (with_reducible refine (rslot_is HIM HXd HSV).mono ?_); rintro e w2 ⟨rfl, hb⟩; have HX2 := Lib.hid (HXd.out.trans (hb.mono HXd.out.size)); have HL52 := Lib.hid ((HL5d.out.below_to hb HSZ.out) : Lies w2 w5.heap.size (some ad) (L.map (Value.int .i64))); have HSZ2 : Hid (w5.heap.size ≤ w2.heap.size) := Lib.hid (Nat.le_trans HSZ.out hb.size); have HO2 := Lib.hid (own_below HOd.out hb (own_block_lt HOd.out)); have hsz2 := HX2.out.size; obtain ⟨q0, q1, q2, q3, q4, q5, q6⟩ := HBX.out.keep HX2.out HLB0.out; have j2 := (HC.out.keep HX2.out HL.out) 2 _ rfl; have p := (hb.cell (p := ad.add k) HPB.out).trans p; clear hb))
        go_wp2_with (first | (at_builtin; refine wpList_append_lies _ rfl _ _ 26 rfl w1.heap.size 3 i0 (.int .i64 0) 1 8 Try.underlying26 hi hz0 hz1 hz2 rfl (by decide) _ _ _ rfl (HO2.out.alloc _) ⟨_, 0, none⟩ 1 1 [.int .i64 g] rfl rfl (own_one _ _) (one_cell _) (by decide) (by unfold maxLen; omega) (by omega) (by simp; omega) _ rfl ?_; intro g9 c9 w3 hown' hgrow hor hlt9; have hR := own_snoc64 HO2.out hsz2 HX2.out hown' hgrow; have HO3 := Lib.hid hR.1; have HX3 := Lib.hid hR.2; have HL53 := Lib.hid (lies_grown HL52.out HSZ2.out hgrow HAP.out); have HAP3 : Hid (Apart (.slice (some ⟨g9, 0, none⟩) (Y.length + 1) c9) (some ad)) := Lib.hid (apart_next HAP.out HLT5.out hor (by have := HSZ2.out; simp; omega)); have HSZ3 : Hid (w5.heap.size ≤ w3.heap.size) := Lib.hid (by have h1 := hgrow.size; have h2 := HSZ2.out; simp at h1; omega); clear hown' hgrow hR hor hlt9))
        go_roundw
        case rel => exact ⟨k + 1, by omega, by go_num, Lib.hid (by rw [HS.out]; exact HO3.out), HX3, HL53, HAP3, HSZ3⟩
        case measure => simp [intOf]; omega
    · obtain rfl : k = L.length := by omega
      go_wp2_with fail
      go_ret
      rw [List.take_length] at HO
      exact ⟨_, rfl, own_lower HO.out HW.out.size, HW.out.trans (HX.out.mono HW.out.size)⟩
end Go.Proofs.Ytgpmdhdooglkfaa
