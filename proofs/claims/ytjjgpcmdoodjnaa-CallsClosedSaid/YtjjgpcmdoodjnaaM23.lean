/-
  What the document's own answer for where a virtual call may go (Targets) comes to.
-/
import Derived.Test.YtjjgpcmdoodjnaaM22
import Derived.Deep.AppendLies
namespace Go.Proofs.Ytjjgpcmdoodjnaa
set_option maxRecDepth 100000
set_option linter.unusedVariables false
set_option linter.unusedSimpArgs false
open Go.ChangeShapes Go.WideShapes Go.ChangeAt Go.RowKit

/-- A row of the call's own, apart from a list that lies elsewhere. -/
def Apart (v : Value) (A : Option Addr) : Prop := ∀ g, v.ownBlock = some g → ∀ ad, A = some ad → g ≠ ad.block
theorem lies_grown {w w3 : World} {o : Obj} {B : Nat} {A : Option Addr} {xs : List Value} {v : Value} (h : Lies w B A xs) (hB : B ≤ w.heap.size) (hg : (w.alloc o).grownBy w3 v.ownBlock) (ha : Apart v A) : Lies w3 B A xs := fun j u hu => by
  obtain ⟨ad, e, hb, hc⟩ := h j u hu
  refine ⟨ad, e, hb, ?_⟩
  have hk : (ad.add j).block = ad.block := by rw [addr_add_block]
  have h1 : w3.cell? (ad.add j) = (w.alloc o).cell? (ad.add j) := World.cell?_of_block (hg.block _ (by rw [hk]; simp; omega) (fun e' => ha _ e'.symm ad e hk))
  rw [h1]
  exact (((Below.refl w.heap.size w).alloc (Nat.le_refl _) o).cell (by rw [hk]; omega)).trans hc
theorem apart_first {w : World} {A : Option Addr} {B N e n c : Nat} {xs : List Value} (ho : w.ownsRow B e 1 (.slice A n c) n xs) (h : N < B) : Apart (.slice (some ⟨N, 0, none⟩) 0 0) A := fun g hg ad e => by
  have h1 : N = g := by simpa [Value.ownBlock] using hg
  have h2 := (ho.lt ad.block (by rw [e]; rfl)).1
  omega
theorem apart_next {v : Value} {A : Option Addr} {B g9 H n c : Nat} (h : Apart v A) (hlt : ∀ ad, A = some ad → ad.block < B) (hor : v.ownBlock = some g9 ∨ g9 = H) (hH : B ≤ H) : Apart (.slice (some ⟨g9, 0, none⟩) n c) A := fun g hg ad e => by
  have : g9 = g := by simpa [Value.ownBlock] using hg
  subst this
  rcases hor with q | q
  · exact h _ q ad e
  · have := hlt ad e; omega

set_option maxHeartbeats 3200000 in
theorem rtargets_virt (m : Img) (a b : Int) (h : Hnd) (w : World) (H : ImgIn w w.heap.size h m) (hn : m.classes.length ≤ 1000) :
    Calls Try.prog 23 #[imgV h m, insV 32 a b] w (OwnInts (targetsOf m 32 a b) w) := by
  obtain ⟨L, hL⟩ : ∃ L, belowOf m.classes a = L := ⟨_, rfl⟩
  rw [show targetsOf m 32 a b = slotsIn m b (belowOf m.classes a) from rfl, hL]
  have hLl : L.length ≤ 1000 := by rw [← hL]; exact Nat.le_trans (belowTo_len _ _ _) hn
  have HLB := Lib.hid hL
  clear hL
  obtain ⟨i0, hi, hz0, hz1, hz2⟩ := info_parts info_int
  obtain ⟨hq, hc, hb, hz⟩ := tgt_parts h m 32 a b w
  have HW := Lib.hid hb
  have HC := Lib.hid hc
  have HZ := Lib.hid hz
  have HBX := Lib.hid hq
  have HIM := Lib.hid (H.now hb)
  have hn1 := hn
  have hkc := H.classes.cap
  clear hb hq hc hz H
  go_enter Try.func23, Try.ntmps23
  go_upto_region 1 with fail
  generalize (w.alloc (imgO h m)).alloc (.cells #[.int .i64 32, .int .i64 a, .int .i64 b] 45) = w1 at *
  go_upto_region 2 with fail
  have HO := Lib.hid (own_empty w1 3)
  have HX := Lib.hid ((Below.refl w1.heap.size w1).alloc (Nat.le_refl _) (.cells #[] 3))
  have HZ12 : Hid (w1.heap.size < (w1.alloc (.cells #[] 3)).heap.size) := Lib.hid (by simp)
  generalize w1.alloc (.cells #[] 3) = w2 at *
  have hlt : w.heap.size + 1 < w1.heap.size := by have := HZ.out; omega
  have HL := Lib.hid hlt
  have HLB0 : Hid (w.heap.size < w1.heap.size) := Lib.hid (by omega)
  clear hlt
  have j0 := (HC.out.keep HX.out HL.out) 0 _ rfl
  have j1 := (HC.out.keep HX.out HL.out) 1 _ rfl
  obtain ⟨q0, q1, q2, q3, q4, q5, q6⟩ := HBX.out.keep HX.out HLB0.out
  have hsz := HX.out.size
  go_wp2_with (first | (go_at_call 36; (with_reducible refine (rbelow_is HIM HX HLB hn1).mono ?_); rintro e w5 ⟨v5, rfl, ho, hb⟩; have HO := Lib.hid (own_below HO.out hb (own_block_lt HO.out)); have HX := Lib.hid (HX.out.trans (hb.mono HX.out.size)); obtain ⟨A5, c5, rfl, hl5, g1, g2⟩ := own_ints ho; have HL5 := Lib.hid hl5; have HAP := Lib.hid (apart_first ho HZ12.out); clear hb ho hl5))
  go_loopw [5, 7] (fun v i wr => ∃ k : Nat, k ≤ L.length ∧ i = .int .i64 k ∧ Hid (wr.ownsRow w1.heap.size 3 1 v (slotsIn m b (L.take k)).length ((slotsIn m b (L.take k)).map (Value.int .i64))) ∧ Hid (Below w1.heap.size w1 wr) ∧ Hid (Lies wr w5.heap.size A5 (L.map (Value.int .i64))) ∧ Hid (Apart v A5) ∧ Hid (w5.heap.size ≤ wr.heap.size)) (fun _ i _ => L.length - (intOf i).toNat)
  case atStart => exact ⟨0, Nat.zero_le _, rfl, HO, HX, HL5, HAP, Lib.hid (Nat.le_refl _)⟩
  case round =>
    clear HO HX HL5 HAP j0 j1 q0 q1 q2 q3 q4 q5 q6
    obtain ⟨k, hk, rfl, HO, HX, HL5, HAP, HSZ⟩ := hrel
    by_cases hlt : k < L.length
    · obtain ⟨ad, rfl, hab, hc0⟩ := HL5.out k (.int .i64 L[k]) (by rw [List.getElem?_map, List.getElem?_eq_getElem hlt]; rfl)
      have hs := slotsIn_snoc (m := m) (b := b) hlt
      have hyl : (slotsIn m b (L.take k)).length ≤ 1000 := Nat.le_trans (slotsIn_len _ _ _) (by rw [List.length_take]; omega)
      obtain ⟨q, hq⟩ : ∃ q, L[k] = q := ⟨_, rfl⟩
      rw [hq] at hs hc0
      have HPB : Hid ((ad.add k).block < wr.heap.size) := Lib.hid (by rw [addr_add_block]; exact Nat.lt_of_lt_of_le hab HSZ.out)
      have p := hc0
      have HLT5 : Hid (∀ ad', some ad = some ad' → ad'.block < w5.heap.size) := Lib.hid (fun ad' e => by injection e with e; subst e; exact hab)
      obtain ⟨o, ho⟩ : ∃ o, slotOf m.classes q b = o := ⟨_, rfl⟩
      rw [ho] at hs
      have HSV := Lib.hid ho
      have HS := Lib.hid hs
      clear hs ho hq hab hc0
      generalize slotsIn m b (L.take k) = Y at *
      obtain ⟨q0, q1, q2, q3, q4, q5, q6⟩ := HBX.out.keep HX.out HLB0.out
      have j2 := (HC.out.keep HX.out HL.out) 2 _ rfl
      have HXd : Hid (Below w1.heap.size w1 wr.drew) := Lib.hid HX.out.drew
      have HBr : Hid (Below wr.heap.size wr wr.drew) := Lib.hid (Below.refl wr.heap.size wr).drew
      have HL5d : Hid (Lies wr.drew w5.heap.size (some ad) (L.map (Value.int .i64))) := Lib.hid (HL5.out.below_to HBr.out HSZ.out)
      have HOd : Hid (wr.drew.ownsRow w1.heap.size 3 1 u5 Y.length (Y.map (Value.int .i64))) := Lib.hid (own_below HO.out (Below.refl wr.heap.size wr).drew (own_block_lt HO.out))
      cases o with
      | none =>
        go_wp2_with fail
        go_region_held3 (fun w' => w'.cell? ⟨w.heap.size, 0, none⟩ = some (.slice h.A0 m.classes.length h.c0) ∧ w'.cell? ⟨w.heap.size, 1, none⟩ = some (.slice h.A1 m.statics.length h.c1) ∧ w'.cell? ⟨w.heap.size, 2, none⟩ = some (.slice h.A2 m.ints.length h.c2) ∧ w'.cell? ⟨w.heap.size, 3, none⟩ = some (.slice h.A3 m.methods.length h.c3) ∧ w'.cell? ⟨w.heap.size, 4, none⟩ = some (.slice h.A4 m.entries.length h.c4) ∧ w'.cell? ⟨w.heap.size, 5, none⟩ = some (.int .i64 m.stack) ∧ w'.cell? ⟨w.heap.size, 6, none⟩ = some (.int .i64 m.heap) ∧ w'.cell? ⟨w.heap.size + 1, 2, none⟩ = some (.int .i64 b) ∧ w'.cell? (ad.add k) = some (.int .i64 q)) (first | exact ⟨q0, q1, q2, q3, q4, q5, q6, j2, p⟩) (first | (go_at_call 37; (with_reducible refine (rslot_is HIM HXd HSV).mono ?_); rintro e w2 ⟨rfl, hb⟩; have HX2 := Lib.hid (HXd.out.trans (hb.mono HXd.out.size)); have HL52 := Lib.hid ((HL5d.out.below_to hb HSZ.out) : Lies w2 w5.heap.size (some ad) (L.map (Value.int .i64))); have HSZ2 : Hid (w5.heap.size ≤ w2.heap.size) := Lib.hid (Nat.le_trans HSZ.out hb.size); have HO2 := Lib.hid (own_below HOd.out hb (own_block_lt HOd.out)); have hsz2 := HX2.out.size; obtain ⟨q0, q1, q2, q3, q4, q5, q6⟩ := HBX.out.keep HX2.out HLB0.out; have j2 := (HC.out.keep HX2.out HL.out) 2 _ rfl; have p := (hb.cell (p := ad.add k) HPB.out).trans p; clear hb))
        go_wp2_with fail
        go_roundw
        case rel => exact ⟨k + 1, by omega, by go_num, Lib.hid (by rw [HS.out, Option.toList_none, List.append_nil]; exact HO2.out), HX2, HL52, HAP, HSZ2⟩
        case measure => simp [intOf]; omega
      | some g =>
        go_wp2_with fail
        go_region_held3 (fun w' => w'.cell? ⟨w.heap.size, 0, none⟩ = some (.slice h.A0 m.classes.length h.c0) ∧ w'.cell? ⟨w.heap.size, 1, none⟩ = some (.slice h.A1 m.statics.length h.c1) ∧ w'.cell? ⟨w.heap.size, 2, none⟩ = some (.slice h.A2 m.ints.length h.c2) ∧ w'.cell? ⟨w.heap.size, 3, none⟩ = some (.slice h.A3 m.methods.length h.c3) ∧ w'.cell? ⟨w.heap.size, 4, none⟩ = some (.slice h.A4 m.entries.length h.c4) ∧ w'.cell? ⟨w.heap.size, 5, none⟩ = some (.int .i64 m.stack) ∧ w'.cell? ⟨w.heap.size, 6, none⟩ = some (.int .i64 m.heap) ∧ w'.cell? ⟨w.heap.size + 1, 2, none⟩ = some (.int .i64 b) ∧ w'.cell? (ad.add k) = some (.int .i64 q)) (first | exact ⟨q0, q1, q2, q3, q4, q5, q6, j2, p⟩) (first | (go_at_call 37; (with_reducible refine (rslot_is HIM HXd HSV).mono ?_); rintro e w2 ⟨rfl, hb⟩; have HX2 := Lib.hid (HXd.out.trans (hb.mono HXd.out.size)); have HL52 := Lib.hid ((HL5d.out.below_to hb HSZ.out) : Lies w2 w5.heap.size (some ad) (L.map (Value.int .i64))); have HSZ2 : Hid (w5.heap.size ≤ w2.heap.size) := Lib.hid (Nat.le_trans HSZ.out hb.size); have HO2 := Lib.hid (own_below HOd.out hb (own_block_lt HOd.out)); have hsz2 := HX2.out.size; obtain ⟨q0, q1, q2, q3, q4, q5, q6⟩ := HBX.out.keep HX2.out HLB0.out; have j2 := (HC.out.keep HX2.out HL.out) 2 _ rfl; have p := (hb.cell (p := ad.add k) HPB.out).trans p; clear hb))
        go_wp2_with (first | (at_builtin; refine wpList_append_lies _ rfl _ _ 26 rfl w1.heap.size 3 i0 (.int .i64 0) 1 8 Try.underlying26 hi hz0 hz1 hz2 rfl (by decide) _ _ _ rfl (HO2.out.alloc _) ⟨_, 0, none⟩ 1 1 [.int .i64 g] rfl rfl (own_one _ _) (one_cell _) (by decide) (by unfold maxLen; omega) (by omega) (by simp; omega) _ rfl ?_; intro g9 c9 w3 hown' hgrow hor hlt9; have hR := own_snoc64 HO2.out hsz2 HX2.out hown' hgrow; have HO3 := Lib.hid hR.1; have HX3 := Lib.hid hR.2; have HL53 := Lib.hid (lies_grown HL52.out HSZ2.out hgrow HAP.out); have HAP3 : Hid (Apart (.slice (some ⟨g9, 0, none⟩) (Y.length + 1) c9) (some ad)) := Lib.hid (apart_next HAP.out HLT5.out hor (by have := HSZ2.out; simp; omega)); have HSZ3 : Hid (w5.heap.size ≤ w3.heap.size) := Lib.hid (by have h1 := hgrow.size; have h2 := HSZ2.out; simp at h1; omega); clear hown' hgrow hR hor hlt9))
        go_roundw
        case rel => exact ⟨k + 1, by omega, by go_num, Lib.hid (by rw [HS.out]; exact HO3.out), HX3, HL53, HAP3, HSZ3⟩
        case measure => simp [intOf]; omega
    · obtain rfl : k = L.length := by omega
      go_wp2_with fail
      go_ret
      rw [List.take_length] at HO
      exact ⟨_, rfl, own_lower HO.out HW.out.size, HW.out.trans (HX.out.mono HW.out.size)⟩
end Go.Proofs.Ytjjgpcmdoodjnaa
