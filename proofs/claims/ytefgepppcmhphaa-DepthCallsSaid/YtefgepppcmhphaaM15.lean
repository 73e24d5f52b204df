/-
  What the document's own answer for where an instruction may call to (Targets) comes to.
  What the document's own answer for where a virtual call may go (Targets) comes to.
  What the document's own answer for whether a method may call another (Calls) comes to.
  Rows of the call's own that are turned in place. Plain lemmas; no conditions.
-/
import Derived.Test.YtefgepppcmhphaaM14
import Derived.Deep.AppendLies
import Derived.Test.YtefgepppcmhphaaM02
import Derived.ChangeOld
namespace Go.Proofs.Ytefgepppcmhphaa
set_option maxRecDepth 100000
set_option linter.unusedVariables false
set_option linter.unusedSimpArgs false
open Go.ChangeShapes Go.WideShapes Go.ChangeAt Go.RowKit

/-- What lies in a slot of each of these classes. -/
def slotsIn (m : Img) (b : Int) (l : List Int) : List Int := l.filterMap fun k => slotOf m.classes k b
def targetsOf (m : Img) (op a b : Int) : List Int := if op = 31 then [a] else if op = 32 then slotsIn m b (belowOf m.classes a) else []
theorem slotsIn_snoc {m : Img} {b : Int} {l : List Int} {k : Nat} (hk : k < l.length) : slotsIn m b (l.take (k + 1)) = slotsIn m b (l.take k) ++ (slotOf m.classes l[k] b).toList := by
  unfold slotsIn
  rw [List.take_add_one, List.getElem?_eq_getElem hk, List.filterMap_append]
  congr 1
theorem slotsIn_len (m : Img) (b : Int) (l : List Int) : (slotsIn m b l).length ≤ l.length := List.length_filterMap_le _ _
theorem tgt_parts (h : Hnd) (m : Img) (op a b : Int) (w : World) : ImgBox ((w.alloc (imgO h m)).alloc (.cells #[.int .i64 op, .int .i64 a, .int .i64 b] 51)) w.heap.size h m ∧
    Cells ((w.alloc (imgO h m)).alloc (.cells #[.int .i64 op, .int .i64 a, .int .i64 b] 51)) (w.heap.size + 1) [.int .i64 op, .int .i64 a, .int .i64 b] ∧
    Below w.heap.size w ((w.alloc (imgO h m)).alloc (.cells #[.int .i64 op, .int .i64 a, .int .i64 b] 51)) ∧ ((w.alloc (imgO h m)).alloc (.cells #[.int .i64 op, .int .i64 a, .int .i64 b] 51)).heap.size = w.heap.size + 2 := by
  have z0 : (w.alloc (imgO h m)).heap.size = w.heap.size + 1 := by simp
  obtain ⟨c1, z1, b1⟩ := cells_step z0 [.int .i64 op, .int .i64 a, .int .i64 b] 51
  exact ⟨(img_box w h m).keep b1 (by omega), c1, ((Below.refl w.heap.size w).alloc (Nat.le_refl _) (imgO h m)).trans (b1.mono (by omega)), z1⟩

set_option maxHeartbeats 1600000 in
theorem rtargets_none (m : Img) (op a b : Int) (n31 : ¬ op = 31) (n32 : ¬ op = 32) (h : Hnd) (w : World) :
    Calls Try.prog 26 #[imgV h m, insV op a b] w (OwnInts (targetsOf m op a b) w) := by
  have e0 : targetsOf m op a b = [] := by unfold targetsOf; rw [if_neg n31, if_neg n32]
  rw [e0]
  clear e0
  obtain ⟨hq, hc, hb, hz⟩ := tgt_parts h m op a b w
  have HW := Lib.hid hb
  have HC := Lib.hid hc
  have HZ := Lib.hid hz
  clear hb hq hc hz
  go_enter Try.func26, Try.ntmps26
  go_upto_region 1 with fail
  generalize (w.alloc (imgO h m)).alloc (.cells #[.int .i64 op, .int .i64 a, .int .i64 b] 51) = w1 at *
  have j0 := (HC.out.keep ((Below.refl w1.heap.size w1).alloc (Nat.le_refl _) (.cells #[] 3)) (by have := HZ.out; omega)) 0 _ rfl
  go_wp2_with fail
  go_ret
  exact ⟨_, rfl, own_lower (own_empty w1 _) HW.out.size, HW.out.trans (((Below.refl w1.heap.size w1).alloc (Nat.le_refl _) _).mono HW.out.size)⟩

set_option maxHeartbeats 1600000 in
theorem rtargets_call (m : Img) (a b : Int) (h : Hnd) (w : World) :
    Calls Try.prog 26 #[imgV h m, insV 31 a b] w (OwnInts (targetsOf m 31 a b) w) := by
  rw [show targetsOf m 31 a b = [] ++ [a] from rfl]
  obtain ⟨i0, hi, hz0, hz1, hz2⟩ := info_parts info_int
  obtain ⟨hq, hc, hb, hz⟩ := tgt_parts h m 31 a b w
  have HW := Lib.hid hb
  have HC := Lib.hid hc
  have HZ := Lib.hid hz
  clear hb hq hc hz
  go_enter Try.func26, Try.ntmps26
  go_upto_region 1 with fail
  generalize (w.alloc (imgO h m)).alloc (.cells #[.int .i64 31, .int .i64 a, .int .i64 b] 51) = w1 at *
  go_upto_region 2 with fail
  have HO := Lib.hid (own_empty w1 3)
  have HX := Lib.hid ((Below.refl w1.heap.size w1).alloc (Nat.le_refl _) (.cells #[] 3))
  generalize w1.alloc (.cells #[] 3) = w2 at *
  have hlt : w.heap.size + 1 < w1.heap.size := by have := HZ.out; omega
  have HL := Lib.hid hlt
  clear hlt
  have j0 := (HC.out.keep HX.out HL.out) 0 _ rfl
  have j1 := (HC.out.keep HX.out HL.out) 1 _ rfl
  have hsz := HX.out.size
  go_wp2_with (first
    | (at_builtin; refine wpList_append_own _ rfl _ _ 26 rfl w1.heap.size 3 i0 (.int .i64 0) 1 8 Try.underlying26 hi hz0 hz1 hz2 rfl (by decide) _ _ _ rfl (HO.out.alloc _) ⟨_, 0, none⟩ 1 1 [.int .i64 a] rfl rfl (own_one _ _) (one_cell _) (by unfold maxLen; omega) (by omega) (by simp; omega) ?_; intro v' w3 hown' hgrow _; have hR := own_snoc64 (pre := []) HO.out hsz HX.out hown' hgrow; have HO3 := Lib.hid hR.1; have HX3 := Lib.hid hR.2; have j0 := (HC.out.keep HX3.out HL.out) 0 _ rfl; clear hown' hgrow hR))
  go_ret
  exact ⟨_, rfl, own_lower HO3.out HW.out.size, HW.out.trans (HX3.out.mono HW.out.size)⟩
end Go.Proofs.Ytefgepppcmhphaa
namespace Go.Proofs.Ytefgepppcmhphaa
set_option maxRecDepth 100000
set_option linter.unusedVariables false
set_option linter.unusedSimpArgs false
open Go.ChangeShapes Go.WideShapes Go.ChangeAt Go.RowKit

/-- A row of the call's own, apart from a list that lies elsewhere. -/
def Apart (v : Value) (A : Option Addr) : Prop := ∀ g, v.ownBlock = some g → ∀ ad, A = some ad → g ≠ ad.block
theorem lies_grown {w w3 : World} {o : Obj} {B : Nat} {A : Option Addr} {xs : List Value} {v : Value} (h : Lies w B A xs) (hB : B ≤ w.heap.size) (hg : (w.alloc o).grownBy w3 v.ownBlock) (ha : Apart v A) : Lies w3 B A xs := fun j u hu => by
  obtain ⟨ad, e, hb, hc⟩ := h j u hu
  refine ⟨ad, e, hb, ?_⟩
  have hk : (ad.add j).block = ad.block := by rw [addr_add_block]
  have h1 : w3.cell? (ad.add j) = (w.alloc o).cell? (ad.add j) := World.cell?_of_block (hg.block _ (by rw [hk]; simp; omega) (fun e' => ha _ e'.symm ad e hk))
  rw [h1]
  exact (((Below.refl w.heap.size w).alloc (Nat.le_refl _) o).cell (by rw [hk]; omega)).trans hc
theorem apart_first {w : World} {A : Option Addr} {B N e n c : Nat} {xs : List Value} (ho : w.ownsRow B e 1 (.slice A n c) n xs) (h : N < B) : Apart (.slice (some ⟨N, 0, none⟩) 0 0) A := fun g hg ad e => by
  have h1 : N = g := by simpa [Value.ownBlock] using hg
  have h2 := (ho.lt ad.block (by rw [e]; rfl)).1
  omega
theorem apart_next {v : Value} {A : Option Addr} {B g9 H n c : Nat} (h : Apart v A) (hlt : ∀ ad, A = some ad → ad.block < B) (hor : v.ownBlock = some g9 ∨ g9 = H) (hH : B ≤ H) : Apart (.slice (some ⟨g9, 0, none⟩) n c) A := fun g hg ad e => by
  have : g9 = g := by simpa [Value.ownBlock] using hg
  subst this
  rcases hor with q | q
  · exact h _ q ad e
  · have := hlt ad e; omega

set_option maxHeartbeats 3200000 in
theorem rtargets_virt (m : Img) (a b : Int) (h : Hnd) (w : World) (H : ImgIn w w.heap.size h m) (hn : m.classes.length ≤ 1000) :
    Calls Try.prog 26 #[imgV h m, insV 32 a b] w (OwnInts (targetsOf m 32 a b) w) := by
  obtain ⟨L, hL⟩ : ∃ L, belowOf m.classes a = L := ⟨_, rfl⟩
  rw [show targetsOf m 32 a b = slotsIn m b (belowOf m.classes a) from rfl, hL]
  have hLl : L.length ≤ 1000 := by rw [← hL]; exact Nat.le_trans (belowTo_len _ _ _) hn
  have HLB := Lib.hid hL
  clear hL
  obtain ⟨i0, hi, hz0, hz1, hz2⟩ := info_parts info_int
  obtain ⟨hq, hc, hb, hz⟩ := tgt_parts h m 32 a b w
  have HW := Lib.hid hb
  have HC := Lib.hid hc
  have HZ := Lib.hid hz
  have HBX := Lib.hid hq
  have HIM := Lib.hid (H.now hb)
  have hn1 := hn
  have hkc := H.classes.cap
  clear hb hq hc hz H
  go_enter Try.func26, Try.ntmps26
  go_upto_region 1 with fail
  generalize (w.alloc (imgO h m)).alloc (.cells #[.int .i64 32, .int .i64 a, .int .i64 b] 51) = w1 at *
  go_upto_region 2 with fail
  have HO := Lib.hid (own_empty w1 3)
  have HX := Lib.hid ((Below.refl w1.heap.size w1).alloc (Nat.le_refl _) (.cells #[] 3))
  have HZ12 : Hid (w1.heap.size < (w1.alloc (.cells #[] 3)).heap.size) := Lib.hid (by simp)
  generalize w1.alloc (.cells #[] 3) = w2 at *
  have hlt : w.heap.size + 1 < w1.heap.size := by have := HZ.out; omega
  have HL := Lib.hid hlt
  have HLB0 : Hid (w.heap.size < w1.heap.size) := Lib.hid (by omega)
  clear hlt
  have j0 := (HC.out.keep HX.out HL.out) 0 _ rfl
  have j1 := (HC.out.keep HX.out HL.out) 1 _ rfl
  obtain ⟨q0, q1, q2, q3, q4, q5, q6⟩ := HBX.out.keep HX.out HLB0.out
  have hsz := HX.out.size
  go_wp2_with (first | (go_at_call 41; (with_reducible refine (rbelow_is HIM HX HLB hn1).mono ?_); rintro e w5 ⟨v5, rfl, ho, hb⟩; have HO := Lib.hid (own_below HO.out hb (own_block_lt HO.out)); have HX := Lib.hid (HX.out.trans (hb.mono HX.out.size)); obtain ⟨A5, c5, rfl, hl5, g1, g2⟩ := own_ints ho; have HL5 := Lib.hid hl5; have HAP := Lib.hid (apart_first ho HZ12.out); clear hb ho hl5))
  go_loopw [5, 7] (fun v i wr => ∃ k : Nat, k ≤ L.length ∧ i = .int .i64 k ∧ Hid (wr.ownsRow w1.heap.size 3 1 v (slotsIn m b (L.take k)).length ((slotsIn m b (L.take k)).map (Value.int .i64))) ∧ Hid (Below w1.heap.size w1 wr) ∧ Hid (Lies wr w5.heap.size A5 (L.map (Value.int .i64))) ∧ Hid (Apart v A5) ∧ Hid (w5.heap.size ≤ wr.heap.size)) (fun _ i _ => L.length - (intOf i).toNat)
  case atStart => exact ⟨0, Nat.zero_le _, rfl, HO, HX, HL5, HAP, Lib.hid (Nat.le_refl _)⟩
  case round =>
    clear HO HX HL5 HAP j0 j1 q0 q1 q2 q3 q4 q5 q6
    obtain ⟨k, hk, rfl, HO, HX, HL5, HAP, HSZ⟩ := hrel
    by_cases hlt : k < L.length
    · obtain ⟨ad, rfl, hab, hc0⟩ := HL5.out k (.int .i64 L[k]) (by rw [List.getElem?_map, List.getElem?_eq_getElem hlt]; rfl)
      have hs := slotsIn_snoc (m := m) (b := b) hlt
      have hyl : (slotsIn m b (L.take k)).length ≤ 1000 := Nat.le_trans (slotsIn_len _ _ _) (by rw [List.length_take]; omega)
      obtain ⟨q, hq⟩ : ∃ q, L[k] = q := ⟨_, rfl⟩
      rw [hq] at hs hc0
      have HPB : Hid ((ad.add k).block < wr.heap.size) := Lib.hid (by rw [addr_add_block]; exact Nat.lt_of_lt_of_le hab HSZ.out)
      have p := hc0
      have HLT5 : Hid (∀ ad', some ad = some ad' → ad'.block < w5.heap.size) := Lib.hid (fun ad' e => by injection e with e; subst e; exact hab)
      obtain ⟨o, ho⟩ : ∃ o, slotOf m.classes q b = o := ⟨_, rfl⟩
      rw [ho] at hs
      have HSV := Lib.hid ho
      have HS := Lib.hid hs
      clear hs ho hq hab hc0
      generalize slotsIn m b (L.take k) = Y at *
      obtain ⟨q0, q1, q2, q3, q4, q5, q6⟩ := HBX.out.keep HX.out HLB0.out
      have j2 := (HC.out.keep HX.out HL.out) 2 _ rfl
      have HXd : Hid (Below w1.heap.size w1 wr.drew) := Lib.hid HX.out.drew
      have HBr : Hid (Below wr.heap.size wr wr.drew) := Lib.hid (Below.refl wr.heap.size wr).drew
      have HL5d : Hid (Lies wr.drew w5.heap.size (some ad) (L.map (Value.int .i64))) := Lib.hid (HL5.out.below_to HBr.out HSZ.out)
      have HOd : Hid (wr.drew.ownsRow w1.heap.size 3 1 u5 Y.length (Y.map (Value.int .i64))) := Lib.hid (own_below HO.out (Below.refl wr.heap.size wr).drew (own_block_lt HO.out))
      cases o with
      | none =>
        go_wp2_with fail
        go_region_held3 (fun w' => w'.cell? ⟨w.heap.size, 0, none⟩ = some (.slice h.A0 m.classes.length h.c0) ∧ w'.cell? ⟨w.heap.size, 1, none⟩ = some (.slice h.A1 m.statics.length h.c1) ∧ w'.cell? ⟨w.heap.size, 2, none⟩ = some (.slice h.A2 m.ints.length h.c2) ∧ w'.cell? ⟨w.heap.size, 3, none⟩ = some (.slice h.A3 m.methods.length h.c3) ∧ w'.cell? ⟨w.heap.size, 4, none⟩ = some (.slice h.A4 m.entries.length h.c4) ∧ w'.cell? ⟨w.heap.size, 5, none⟩ = some (.int .i64 m.stack) ∧ w'.cell? ⟨w.heap.size, 6, none⟩ = some (.int .i64 m.heap) ∧ w'.cell? ⟨w.heap.size + 1, 2, none⟩ = some (.int .i64 b) ∧ w'.cell? (ad.add k) = some (.int .i64 q)) (first | exact ⟨q0, q1, q2, q3, q4, q5, q6, j2, p⟩) (first | (go_at_call 42; (with_reducible refine (rslot_is HIM HXd HSV).mono ?_); rintro e w2 ⟨rfl, hb⟩; have HX2 := Lib.hid (HXd.out.trans (hb.mono HXd.out.size)); have HL52 := Lib.hid ((HL5d.out.below_to hb HSZ.out) : Lies w2 w5.heap.size (some ad) (L.map (Value.int .i64))); have HSZ2 : Hid (w5.heap.size ≤ w2.heap.size) := Lib.hid (Nat.le_trans HSZ.out hb.size); have HO2 := Lib.hid (own_below HOd.out hb (own_block_lt HOd.out)); have hsz2 := HX2.out.size; obtain ⟨q0, q1, q2, q3, q4, q5, q6⟩ := HBX.out.keep HX2.out HLB0.out; have j2 := (HC.out.keep HX2.out HL.out) 2 _ rfl; have p := (hb.cell (p := ad.add k) HPB.out).trans p; clear hb))
        go_wp2_with fail
        go_roundw
        case rel => exact ⟨k + 1, by omega, by go_num, Lib.hid (by rw [HS.out, Option.toList_none, List.append_nil]; exact HO2.out), HX2, HL52, HAP, HSZ2⟩
        case measure => simp [intOf]; omega
      | some g =>
        go_wp2_with fail
        go_region_held3 (fun w' => w'.cell? ⟨w.heap.size, 0, none⟩ = some (.slice h.A0 m.classes.length h.c0) ∧ w'.cell? ⟨w.heap.size, 1, none⟩ = some (.slice h.A1 m.statics.length h.c1) ∧ w'.cell? ⟨w.heap.size, 2, none⟩ = some (.slice h.A2 m.ints.length h.c2) ∧ w'.cell? ⟨w.heap.size, 3, none⟩ = some (.slice h.A3 m.methods.length h.c3) ∧ w'.cell? ⟨w.heap.size, 4, none⟩ = some (.slice h.A4 m.entries.length h.c4) ∧ w'.cell? ⟨w.heap.size, 5, none⟩ = some (.int .i64 m.stack) ∧ w'.cell? ⟨w.heap.size, 6, none⟩ = some (.int .i64 m.heap) ∧ w'.cell? ⟨w.heap.size + 1, 2, none⟩ = some (.int .i64 b) ∧ w'.cell? (ad.add k) = some (.int .i64 q)) (first | exact ⟨q0, q1, q2, q3, q4, q5, q6, j2, p⟩) (first | (go_at_call 42; (with_reducible refine (rslot_is HIM HXd HSV).mono ?_); rintro e w2 ⟨rfl, hb⟩; have HX2 := Lib.hid (HXd.out.trans (hb.mono HXd.out.size)); have HL52 := Lib.hid ((HL5d.out.below_to hb HSZ.out) : Lies w2 w5.heap.size (some ad) (L.map (Value.int .i64))); have HSZ2 : Hid (w5.heap.size ≤ w2.heap.size) := Lib.hid (Nat.le_trans HSZ.out hb.size); have HO2 := Lib.hid (own_below HOd.out hb (own_block_lt HOd.out)); have hsz2 := HX2.out.size; obtain ⟨q0, q1, q2, q3, q4, q5, q6⟩ := HBX.out.keep HX2.out HLB0.out; have j2 := (HC.out.keep HX2.out HL.out) 2 _ rfl; have p := (hb.cell (p := ad.add k) HPB.out).trans p; clear hb))
        go_wp2_with (first | (at_builtin; refine wpList_append_lies _ rfl _ _ 26 rfl w1.heap.size 3 i0 (.int .i64 0) 1 8 Try.underlying26 hi hz0 hz1 hz2 rfl (by decide) _ _ _ rfl (HO2.out.alloc _) ⟨_, 0, none⟩ 1 1 [.int .i64 g] rfl rfl (own_one _ _) (one_cell _) (by decide) (by unfold maxLen; omega) (by omega) (by simp; omega) _ rfl ?_; intro g9 c9 w3 hown' hgrow hor hlt9; have hR := own_snoc64 HO2.out hsz2 HX2.out hown' hgrow; have HO3 := Lib.hid hR.1; have HX3 := Lib.hid hR.2; have HL53 := Lib.hid (lies_grown HL52.out HSZ2.out hgrow HAP.out); have HAP3 : Hid (Apart (.slice (some ⟨g9, 0, none⟩) (Y.length + 1) c9) (some ad)) := Lib.hid (apart_next HAP.out HLT5.out hor (by have := HSZ2.out; simp; omega)); have HSZ3 : Hid (w5.heap.size ≤ w3.heap.size) := Lib.hid (by have h1 := hgrow.size; have h2 := HSZ2.out; simp at h1; omega); clear hown' hgrow hR hor hlt9))
        go_roundw
        case rel => exact ⟨k + 1, by omega, by go_num, Lib.hid (by rw [HS.out]; exact HO3.out), HX3, HL53, HAP3, HSZ3⟩
        case measure => simp [intOf]; omega
    · obtain rfl : k = L.length := by omega
      go_wp2_with fail
      go_ret
      rw [List.take_length] at HO
      exact ⟨_, rfl, own_lower HO.out HW.out.size, HW.out.trans (HX.out.mono HW.out.size)⟩
end Go.Proofs.Ytefgepppcmhphaa
namespace Go.Proofs.Ytefgepppcmhphaa
set_option maxRecDepth 100000
set_option linter.unusedVariables false
set_option linter.unusedSimpArgs false
open Go.ChangeShapes Go.WideShapes Go.ChangeAt Go.RowKit

theorem rtargets_any (m : Img) (op a b : Int) (h : Hnd) (w : World) (H : ImgIn w w.heap.size h m) (hn : m.classes.length ≤ 1000) :
    Calls Try.prog 26 #[imgV h m, insV op a b] w (OwnInts (targetsOf m op a b) w) := by
  by_cases h31 : op = 31
  · subst h31; exact rtargets_call m a b h w
  by_cases h32 : op = 32
  · subst h32; exact rtargets_virt m a b h w H hn
  exact rtargets_none m op a b h31 h32 h w
theorem rtargets_is {m : Img} {op a b : Int} {h : Hnd} {w0 w : World} {L : List Int} (HI : Hid (ImgIn w0 w0.heap.size h m)) (HX : Hid (Below w0.heap.size w0 w)) (HN : Hid (m.classes.length ≤ 1000)) (HL : Hid (targetsOf m op a b = L)) :
    Calls Try.prog 26 #[imgV h m, insV op a b] w (OwnInts L w) := by
  have H := rtargets_any m op a b h w (HI.out.now HX.out) HN.out
  rw [HL.out] at H
  exact H
/-- May these instructions not call that method? -/
def callsB (m : Img) (x : Mth) (g : Int) : Bool := !(x.code.all fun i => !inB (targetsOf m i.1 i.2.1 i.2.2) g)
theorem targets_len (m : Img) (op a b : Int) (hn : m.classes.length ≤ 1000) : (targetsOf m op a b).length ≤ 1000 := by
  unfold targetsOf
  by_cases h1 : op = 31
  · rw [if_pos h1]; exact (show 1 ≤ 1000 by decide)
  rw [if_neg h1]
  by_cases h2 : op = 32
  · rw [if_pos h2]; exact Nat.le_trans (slotsIn_len _ _ _) (Nat.le_trans (belowTo_len _ _ _) hn)
  · rw [if_neg h2]; exact Nat.zero_le _

set_option maxHeartbeats 3200000 in
theorem rcalls_any (m : Img) (x : Mth) (f : Nat) (g : Int) (h : Hnd) (w : World) (H : ImgIn w w.heap.size h m) (hg : m.methods[f]? = some x) (hn : m.classes.length ≤ 1000) (ha : x.code.length ≤ 1048576) :
    Calls Try.prog 16 #[imgV h m, .int .i64 f, .int .i64 g] w fun e w' => e = .returned (.bool (callsB m x g)) ∧ Below w.heap.size w w' := by
  have hk : f < m.methods.length := (List.getElem?_eq_some_iff.mp hg).1
  have hx : m.methods[f] = x := (List.getElem?_eq_some_iff.mp hg).2
  have hle := H.methods.le
  have hcap := H.methods.cap
  obtain ⟨ad, hx', eA, hab, hin, hc⟩ := img_mth H hk
  rw [hx] at hin hc
  obtain ⟨A0, A1, A2, A3, A4, k0, k1, k2, k3, k4⟩ := h
  dsimp only at eA hcap hle
  subst eA
  have HN := Lib.hid hn
  have HW := Lib.hid ((Below.refl w.heap.size w).alloc (Nat.le_refl _) (imgO ⟨A0, A1, A2, some ad, A4, k0, k1, k2, k3, k4⟩ m))
  have HIM := Lib.hid (H.now HW.out)
  have HBX := Lib.hid (img_box w ⟨A0, A1, A2, some ad, A4, k0, k1, k2, k3, k4⟩ m)
  have HZ : Hid (w.heap.size < (w.alloc (imgO ⟨A0, A1, A2, some ad, A4, k0, k1, k2, k3, k4⟩ m)).heap.size) := Lib.hid (by simp)
  have HAB : Hid ((ad.add (f * 8)).block < (w.alloc (imgO ⟨A0, A1, A2, some ad, A4, k0, k1, k2, k3, k4⟩ m)).heap.size) := Lib.hid (by rw [addr_add_block]; simp; omega)
  have HMC := Lib.hid (hc.keep HW.out (by rw [addr_add_block]; exact hab))
  have HIN := Lib.hid (hin.now HW.out)
  have ccap := hin.code.cap
  have cle := hin.code.le
  have HCE := Lib.hid (show callsB m x g = !(x.code.all fun i => !inB (targetsOf m i.1 i.2.1 i.2.2) g) from rfl)
  clear H hg hin hc hn hab hx
  go_enter Try.func16, Try.ntmps16
  go_upto_region 1 with fail
  generalize w.alloc (imgO ⟨A0, A1, A2, some ad, A4, k0, k1, k2, k3, k4⟩ m) = w1 at *
  go_wp2_with fail
  go_loopw [7] (fun i wr => ∃ k : Nat, k ≤ x.code.length ∧ i = .int .i64 k ∧ Hid (∀ i ∈ x.code.take k, (!inB (targetsOf m i.1 i.2.1 i.2.2) g) = true) ∧ Hid (Below w1.heap.size w1 wr)) (fun i _ => x.code.length - (intOf i).toNat)
  case atStart => exact ⟨0, Nat.zero_le _, rfl, Lib.hid (by simp), Lib.hid (Below.refl _ _)⟩
  case round =>
    obtain ⟨k, hkl, rfl, HNO, HX⟩ := hrel
    obtain ⟨q0, q1, q2, q3, q4, q5, q6⟩ := HBX.out.keep HX.out HZ.out
    dsimp only at q0 q1 q2 q3 q4 q5 q6
    have c4 := (HMC.out.keep HX.out HAB.out).c4
    by_cases hlt : k < x.code.length
    · obtain ⟨ac, eC, hac, i0, i1, i2⟩ := HIN.out.code.row.at_ hlt
      have HBA := Lib.hid (fun q => all_not (f := fun i : Int × Int × Int => !inB (targetsOf m i.1 i.2.1 i.2.2) g) hlt q)
      have HYE := Lib.hid (fun q => all_take (f := fun i : Int × Int × Int => !inB (targetsOf m i.1 i.2.1 i.2.2) g) hlt HNO.out q)
      generalize x.code[k] = ins at *
      obtain ⟨op, a, b⟩ := ins
      dsimp only at i0 i1 i2 HBA HYE
      rw [eC] at c4
      have HR : Hid (∀ W, Below w1.heap.size w1 W → W.cell? (ac.add (k * 3)) = some (.int .i64 op) ∧ W.cell? (off_ (ac.add (k * 3)) 1) = some (.int .i64 a) ∧ W.cell? (off_ (ac.add (k * 3)) 2) = some (.int .i64 b)) := Lib.hid (fun W hW => ⟨(hW.cell (p := ac.add (k * 3)) (by rw [addr_add_block]; exact hac)).trans i0, (hW.cell (p := off_ (ac.add (k * 3)) 1) (by show (ac.add (k * 3)).block < _; rw [addr_add_block]; exact hac)).trans i1, (hW.cell (p := off_ (ac.add (k * 3)) 2) (by show (ac.add (k * 3)).block < _; rw [addr_add_block]; exact hac)).trans i2⟩)
      have HC4 : Hid (∀ W, Below w1.heap.size w1 W → W.cell? ⟨(ad.add (f * 8)).block, (ad.add (f * 8)).off + 4, none⟩ = some (.slice (some ac) x.code.length hx'.k4)) := Lib.hid (fun W hW => by have q := (HMC.out.keep hW HAB.out).c4; rw [eC] at q; exact q)
      obtain ⟨j0, j1, j2⟩ := HR.out _ HX.out
      clear i0 i1 i2 eC
      obtain ⟨L, hL⟩ : ∃ L, targetsOf m op a b = L := ⟨_, rfl⟩
      have hLl : L.length ≤ 9223372036854775807 := by have := targets_len m op a b HN.out; rw [hL] at this; omega
      have HL := Lib.hid hL
      rw [hL] at HBA HYE
      clear hL
      have HXd := Lib.hid HX.out.drew
      obtain ⟨r, hr⟩ : ∃ r, inB L g = r := ⟨_, rfl⟩
      have HIR := Lib.hid hr
      cases r
      · have HR2 := Lib.hid (HYE.out (by rw [hr]; rfl))
        clear hr
        go_wp2_with fail
        go_region_held3 (fun w' => w'.cell? ⟨w.heap.size, 0, none⟩ = some (.slice A0 m.classes.length k0) ∧ w'.cell? ⟨w.heap.size, 1, none⟩ = some (.slice A1 m.statics.length k1) ∧ w'.cell? ⟨w.heap.size, 2, none⟩ = some (.slice A2 m.ints.length k2) ∧ w'.cell? ⟨w.heap.size, 3, none⟩ = some (.slice (some ad) m.methods.length k3) ∧ w'.cell? ⟨w.heap.size, 4, none⟩ = some (.slice A4 m.entries.length k4) ∧ w'.cell? ⟨w.heap.size, 5, none⟩ = some (.int .i64 m.stack) ∧ w'.cell? ⟨w.heap.size, 6, none⟩ = some (.int .i64 m.heap) ∧ w'.cell? ⟨(ad.add (f * 8)).block, (ad.add (f * 8)).off + 4, none⟩ = some (.slice (some ac) x.code.length hx'.k4) ∧ w'.cell? (ac.add (k * 3)) = some (.int .i64 op) ∧ w'.cell? (off_ (ac.add (k * 3)) 1) = some (.int .i64 a) ∧ w'.cell? (off_ (ac.add (k * 3)) 2) = some (.int .i64 b)) (first | exact ⟨q0, q1, q2, q3, q4, q5, q6, c4, j0, j1, j2⟩) (first | (go_at_call 26; (with_reducible refine (rtargets_is HIM HXd HN HL).mono ?_); rintro e w2 ⟨v2, rfl, ho, hb⟩; have HX2 := Lib.hid (HXd.out.trans (hb.mono HXd.out.size)); obtain ⟨A9, c9, rfl, hl9, _, _⟩ := own_ints ho; have HL9 := Lib.hid hl9; obtain ⟨q0, q1, q2, q3, q4, q5, q6⟩ := HBX.out.keep HX2.out HZ.out; dsimp only at q0 q1 q2 q3 q4 q5 q6; have c4 := HC4.out _ HX2.out; obtain ⟨j0, j1, j2⟩ := HR.out _ HX2.out; clear ho hb hl9) | (go_at_call 25; (with_reducible refine (rin_any _ _ _ _ _ _ hLl HL9.out).mono ?_); rintro e w' ⟨he, rfl⟩; rw [HIR.out] at he; subst he))
        go_wp2_with fail
        go_roundw
        case rel => exact ⟨k + 1, by omega, by go_num, HR2, HX2⟩
        case measure => simp [intOf]; omega
      · have HE := Lib.hid (HCE.out.trans (by rw [HBA.out (by rw [hr]; rfl)]; rfl : _ = true))
        clear hr
        go_wp2_with fail
        go_region_held3 (fun w' => w'.cell? ⟨w.heap.size, 0, none⟩ = some (.slice A0 m.classes.length k0) ∧ w'.cell? ⟨w.heap.size, 1, none⟩ = some (.slice A1 m.statics.length k1) ∧ w'.cell? ⟨w.heap.size, 2, none⟩ = some (.slice A2 m.ints.length k2) ∧ w'.cell? ⟨w.heap.size, 3, none⟩ = some (.slice (some ad) m.methods.length k3) ∧ w'.cell? ⟨w.heap.size, 4, none⟩ = some (.slice A4 m.entries.length k4) ∧ w'.cell? ⟨w.heap.size, 5, none⟩ = some (.int .i64 m.stack) ∧ w'.cell? ⟨w.heap.size, 6, none⟩ = some (.int .i64 m.heap) ∧ w'.cell? ⟨(ad.add (f * 8)).block, (ad.add (f * 8)).off + 4, none⟩ = some (.slice (some ac) x.code.length hx'.k4) ∧ w'.cell? (ac.add (k * 3)) = some (.int .i64 op) ∧ w'.cell? (off_ (ac.add (k * 3)) 1) = some (.int .i64 a) ∧ w'.cell? (off_ (ac.add (k * 3)) 2) = some (.int .i64 b)) (first | exact ⟨q0, q1, q2, q3, q4, q5, q6, c4, j0, j1, j2⟩) (first | (go_at_call 26; (with_reducible refine (rtargets_is HIM HXd HN HL).mono ?_); rintro e w2 ⟨v2, rfl, ho, hb⟩; have HX2 := Lib.hid (HXd.out.trans (hb.mono HXd.out.size)); obtain ⟨A9, c9, rfl, hl9, _, _⟩ := own_ints ho; have HL9 := Lib.hid hl9; obtain ⟨q0, q1, q2, q3, q4, q5, q6⟩ := HBX.out.keep HX2.out HZ.out; dsimp only at q0 q1 q2 q3 q4 q5 q6; have c4 := HC4.out _ HX2.out; obtain ⟨j0, j1, j2⟩ := HR.out _ HX2.out; clear ho hb hl9) | (go_at_call 25; (with_reducible refine (rin_any _ _ _ _ _ _ hLl HL9.out).mono ?_); rintro e w' ⟨he, rfl⟩; rw [HIR.out] at he; subst he))
        go_wp2_with fail
        go_ret
        exact ⟨by rw [HE.out]; rfl, HW.out.trans (HX2.out.mono HW.out.size)⟩
    · obtain rfl : k = x.code.length := by omega
      have HE := Lib.hid (HCE.out.trans (by rw [all_end HNO.out (Nat.le_refl _)]; rfl : _ = false))
      go_wp2_with fail
      go_ret
      exact ⟨by rw [HE.out]; rfl, HW.out.trans (HX.out.mono HW.out.size)⟩
end Go.Proofs.Ytefgepppcmhphaa
namespace Go.Proofs.Ytefgepppcmhphaa
set_option maxRecDepth 100000
set_option linter.unusedVariables false
set_option linter.unusedSimpArgs false
open Go.ChangeShapes Go.WideShapes Go.ChangeAt Go.RowKit
set_option linter.unusedVariables false

/-- A cell of a row of the call's own is turned. -/
theorem own_turn {w : World} {base e k n g c j : Nat} {xs : List Value} (h : w.ownsRow base e k (.slice (some ⟨g, 0, none⟩) n c) n xs) (u : Value) : (w.setCell ⟨g, j, none⟩ u).ownsRow base e k (.slice (some ⟨g, 0, none⟩) n c) n (xs.set j u) := by
  refine ⟨by rw [List.length_set]; exact h.1, ?_⟩
  rcases h.2 with ⟨h1, _⟩ | ⟨g', cap, cur, h1, hb, hh, h2, h3, h4, h5⟩
  · cases h1
  · injection h1 with e1 e2 e3
    simp at e1
    subst e1 e3
    refine .inr ⟨g, c, cur.setIfInBounds j u, rfl, hb, ?_, h2, h3, by simpa using h4, ?_⟩
    · have hlt := lt_of_block hh
      have h' : w.heap[g] = .cells cur e (0, 0) := by simpa [Array.getElem?_eq_getElem hlt] using hh
      show (w.heap.modify g _)[g]? = _
      rw [Array.getElem?_eq_getElem (by simpa using hlt), Array.getElem_modify_self, h']
      simp
    · rw [← h5, Array.toList_setIfInBounds, List.take_set]
theorem own_freeK {w : World} {base e k n g c : Nat} {xs : List Value} (h : w.ownsRow base e k (.slice (some ⟨g, 0, none⟩) n c) n xs) (j : Nat) : w.frozen? ⟨g, j, none⟩ = false ∧ base ≤ g ∧ g < w.heap.size := by
  rcases h.2 with ⟨h1, _⟩ | ⟨g', cap, cur, h1, hb, hh, h2, h3, h4, h5⟩
  · cases h1
  · injection h1 with e1
    simp at e1
    subst e1
    exact ⟨by simp [World.frozen?, hh], hb, lt_of_block hh⟩

theorem lies_v1 (w : World) (v : Value) (T : TypeId) : Lies (w.alloc (.cells #[v] T)) (w.alloc (.cells #[v] T)).heap.size (some ⟨w.heap.size, 0, none⟩) [v] := fun j u hj => by
  match j, hj with
  | 0, hj => simp at hj; subst hj; exact ⟨_, rfl, by simp, by simp [Addr.add]⟩
  | j + 1, hj => simp at hj
theorem one_cellv {v : Value} (h : v.oneCell' = true) : ∀ u ∈ [v], u.oneCell' = true := fun u hu => by
  rw [List.mem_singleton.mp hu]; exact h
end Go.Proofs.Ytefgepppcmhphaa
