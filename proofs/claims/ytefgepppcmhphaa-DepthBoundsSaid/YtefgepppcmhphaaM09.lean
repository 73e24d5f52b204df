/-
  What the document's own answer for whether a class is right (class) comes to.
-/
import Derived.Test.YtefgepppcmhphaaM03
import Derived.Test.YtefgepppcmhphaaM04
import Derived.Test.YtefgepppcmhphaaM07
import Derived.Test.YtefgepppcmhphaaM08
import Derived.Deep.DeepCutAuto
namespace Go.Proofs.Ytefgepppcmhphaa
set_option maxRecDepth 100000
set_option linter.unusedVariables false
set_option linter.unusedSimpArgs false
open Go.ChangeShapes Go.WideShapes Go.ChangeAt Go.RowKit
set_option linter.unusedVariables false
set_option linter.unusedSimpArgs false

/-- Does a slot of a class hold a method that fits it, and what the class above has there? -/
def slotB (m : Img) (c : Int) (ab : List Int) (k : Nat) (s : Int) : Bool :=
  match m.methods[s.toNat]? with
  | none => false
  | some f => match f.args with
    | [] => false
    | t :: r => subB (supsOf m.classes) 3 c t.1 t.2 && (match ab[k]? with
        | none => true
        | some q => match m.methods[q.toNat]? with
          | none => true
          | some g => decide (r = g.args.drop 1) && decide (f.ret = g.ret))
def slotsFrom (m : Img) (c : Int) (ab : List Int) : Nat → List Int → Bool
  | _, [] => true
  | k, s :: r => slotB m c ab k s && slotsFrom m c ab (k + 1) r
/-- The slots of the class above. -/
def aboveSlots (m : Img) (x : Cls) : List Int := if 0 ≤ x.sup then (match m.classes[x.sup.toNat]? with
  | some y => y.slots
  | none => []) else []
/-- Is a class right? -/
def classB (m : Img) (c : Int) (x : Cls) : Bool :=
  decide (x.sup < c) && (goodsB x.fields m.classes.length && (decide ((fieldsOf m.classes c).length ≤ 8) && (decide ((aboveSlots m x).length ≤ x.slots.length) && slotsFrom m c (aboveSlots m x) 0 x.slots)))

abbrev clsL (A1 A2 : Option Addr) (k1 k2 : Nat) (x : Cls) : List Value := [.int .i64 x.sup, .slice A1 x.fields.length k1, .slice A2 x.slots.length k2]
theorem slots_drop {m : Img} {c : Int} {ab l : List Int} {k : Nat} (hk : k < l.length) : slotsFrom m c ab k (l.drop k) = (slotB m c ab k l[k] && slotsFrom m c ab (k + 1) (l.drop (k + 1))) := by
  rw [List.drop_eq_getElem_cons hk]
  rfl
theorem types_n_is {l m : List (Int × Int)} {A A' : Option Addr} {cap cap' n n' : Nat} {w0 w : World} {r : Bool} (HL : Hid (SlcIs TyAt 2 w0 w0.heap.size A cap l)) (HM : Hid (SlcIs TyAt 2 w0 w0.heap.size A' cap' m)) (HX : Hid (Below w0.heap.size w0 w)) (HN : Hid (l.length = n)) (HN' : Hid (m.length = n')) (HR : Hid (decide (l = m) = r)) :
    Calls Try.prog 33 #[.slice A n cap, .slice A' n' cap'] w fun e w' => e = .returned (.bool r) ∧ Below w.heap.size w w' := by
  obtain rfl := HN.out
  obtain rfl := HN'.out
  have h := rsameTypes_any l m A A' cap cap' w0.heap.size w HX.out.size (HL.out.below_to TyAt.keeps HX.out (Nat.le_refl _)) (HM.out.below_to TyAt.keeps HX.out (Nat.le_refl _))
  rw [HR.out] at h
  exact h
theorem slc_drop1 {w : World} {B : Nat} {ad : Addr} {l : List (Int × Int)} (h : SlcIs TyAt 2 w B (some ad) 1 l) (h0 : 0 < l.length) : SlcIs TyAt 2 w B (some ad) 0 (l.drop 1) := by
  have := h.le
  rw [List.drop_eq_nil_of_le (by omega)]
  exact ⟨Nat.le_refl _, by omega, RowOf.nil⟩
theorem slc_drop {w : World} {B cap : Nat} {ad : Addr} {l : List (Int × Int)} (h : SlcIs TyAt 2 w B (some ad) cap l) (h0 : 0 < l.length) : SlcIs TyAt 2 w B (some ⟨ad.block, ad.off + 2, none⟩) (cap - 1) (l.drop 1) := by
  have := h.le
  have := h.cap
  refine ⟨by rw [List.length_drop]; omega, by omega, fun i x hi => ?_⟩
  rw [List.getElem?_drop] at hi
  obtain ⟨ad', e, hb, ht⟩ := h.row (1 + i) x hi
  injection e with e
  subst e
  refine ⟨_, rfl, hb, ?_⟩
  have e2 : (Addr.add ⟨ad.block, ad.off + 2, none⟩ (i * 2)) = ad.add ((1 + i) * 2) := by
    have e3 : (⟨ad.block, ad.off + 2, none⟩ : Addr) = ad.add 2 := by unfold Addr.add; simp
    rw [e3, addr_add_add]
    congr 1
    omega
  rw [e2]
  exact ht
theorem sub_is {m : Img} {h : Hnd} {c t0 t1 : Int} {w0 w : World} {r : Bool} (HI : Hid (ImgIn w0 w0.heap.size h m)) (HX : Hid (Below w0.heap.size w0 w)) (HN : Hid (m.classes.length ≤ 1000)) (HR : Hid (subB (supsOf m.classes) 3 c t0 t1 = r)) :
    Calls Try.prog 50 #[.slice h.A0 m.classes.length h.c0, tyV 3 c, tyV t0 t1] w fun e w' => e = .returned (.bool r) ∧ Below w.heap.size w w' := by
  have H := rsub_any (supsOf m.classes) 3 c t0 t1 h.A0 h.c0 w.heap.size w (by rw [supsOf_len]; have := HN.out; omega) (Nat.le_refl _) (supers_of (HI.out.now HX.out).classes.row)
  rw [HR.out, supsOf_len] at H
  exact H
theorem slot_nil {m : Img} {c : Int} {ab : List Int} {k n : Nat} {f : Mth} (h : m.methods[n]? = some f) (hf : f.args = []) : slotB m c ab k (n : Int) = false := by
  unfold slotB
  rw [Int.toNat_natCast, h]
  dsimp only
  rw [hf]
theorem slot_out {m : Img} {c : Int} {ab : List Int} {k n : Nat} (h : m.methods.length ≤ n) : slotB m c ab k (n : Int) = false := by
  unfold slotB
  rw [Int.toNat_natCast, List.getElem?_eq_none h]
theorem slot_sub {m : Img} {c : Int} {ab : List Int} {k n : Nat} {f : Mth} {t : Int × Int} {r : List (Int × Int)} (h : m.methods[n]? = some f) (hf : f.args = t :: r) (hs : subB (supsOf m.classes) 3 c t.1 t.2 = false) : slotB m c ab k (n : Int) = false := by
  unfold slotB
  rw [Int.toNat_natCast, h]
  dsimp only
  rw [hf]
  dsimp only
  rw [hs]
  rfl
theorem slot_free {m : Img} {c : Int} {ab : List Int} {k n : Nat} {f : Mth} {t : Int × Int} {r : List (Int × Int)} (h : m.methods[n]? = some f) (hf : f.args = t :: r) (hs : subB (supsOf m.classes) 3 c t.1 t.2 = true) (hk : ab.length ≤ k) : slotB m c ab k (n : Int) = true := by
  unfold slotB
  rw [Int.toNat_natCast, h]
  dsimp only
  rw [hf]
  dsimp only
  rw [hs, List.getElem?_eq_none hk]
  rfl
theorem slot_above {m : Img} {c : Int} {ab : List Int} {k n q : Nat} {f g : Mth} {t : Int × Int} {r : List (Int × Int)} (h : m.methods[n]? = some f) (hf : f.args = t :: r) (hs : subB (supsOf m.classes) 3 c t.1 t.2 = true) (hk : ab[k]? = some (q : Int)) (hq : m.methods[q]? = some g) :
    slotB m c ab k (n : Int) = (decide (r = g.args.drop 1) && decide (f.ret = g.ret)) := by
  unfold slotB
  rw [Int.toNat_natCast, h]
  dsimp only
  rw [hf]
  dsimp only
  rw [hs, hk]
  dsimp only
  rw [Int.toNat_natCast, hq]
  simp

set_option maxRecDepth 100000 in
set_option maxHeartbeats 6400000 in
theorem rclass_any (m : Img) (x : Cls) (i : Nat) (h : Hnd) (w : World) (H : ImgIn w w.heap.size h m) (ht : Tame m) (hx : m.classes[i]? = some x) (hs : ∀ y ∈ m.classes, ∀ s ∈ y.slots, 0 ≤ s)
    (hq : x.sup < (i : Int) → ∀ q ∈ aboveSlots m x, ∃ g, m.methods[q.toNat]? = some g ∧ 0 < g.args.length) :
    Calls Try.prog 29 #[imgV h m, .int .i64 (i : Int)] w fun e w' => e = .returned (.bool (classB m (i : Int) x)) ∧ Below w.heap.size w w' := by
  obtain ⟨hil, hxe⟩ := List.getElem?_eq_some_iff.mp hx
  obtain ⟨ad, hA0, hab, hcl⟩ := H.classes.row i x hx
  obtain ⟨s0, ⟨A1, k1, s1, hs1⟩, ⟨A2, k2, s2, hs2⟩⟩ := hcl
  obtain ⟨hq0, hp0, hb, hz⟩ := two_boxesU w (imgL h m) (clsL A1 A2 k1 k2 x) 28 92
  have HQ := Lib.hid hq0
  have HC := Lib.hid hp0
  have HW := Lib.hid hb
  have HI := Lib.hid (H.now hb)
  have HSf := Lib.hid ((hs1.below_to TyAt.keeps hb (Nat.le_refl _)).keep' TyAt.keeps hb.size (fun _ _ => rfl))
  have HSs := Lib.hid ((hs2.below_to IntAt.keeps hb (Nat.le_refl _)).keep' IntAt.keeps hb.size (fun _ _ => rfl))
  have HT := Lib.hid ht
  have HXM := Lib.hid (List.mem_of_getElem? hx)
  have HN := Lib.hid ht.n
  have HF := Lib.hid ht.f
  have HS0 := Lib.hid hs
  have HPQ := Lib.hid hq
  have HA0 := Lib.hid hA0
  have hw0 : Below w.heap.size w (w.alloc (.cells (imgL h m).toArray 28)) := (Below.refl _ _).alloc (Nat.le_refl _) _
  have r0 := (hw0.cell (p := ad.add (i * 3)) (by rw [addr_add_block]; exact hab)).trans s0
  have r1 := (hw0.cell (p := off_ (ad.add (i * 3)) 1) (by show (ad.add _).block < _; rw [addr_add_block]; exact hab)).trans s1
  have r2 := (hw0.cell (p := off_ (ad.add (i * 3)) 2) (by show (ad.add _).block < _; rw [addr_add_block]; exact hab)).trans s2
  have b0 : (w.alloc (.cells (imgL h m).toArray 28)).cell? ⟨w.heap.size, 0, none⟩ = some (.slice (some ad) m.classes.length h.c0) := by rw [← hA0]; exact cells_new w (imgL h m) 28 0 _ rfl
  have HQZ : Hid (w.heap.size < ((w.alloc (.cells (imgL h m).toArray 28)).alloc (.cells (clsL A1 A2 k1 k2 x).toArray 92)).heap.size) := Lib.hid (by omega)
  have HCZ : Hid (w.heap.size + 1 < ((w.alloc (.cells (imgL h m).toArray 28)).alloc (.cells (clsL A1 A2 k1 k2 x).toArray 92)).heap.size) := Lib.hid (by omega)
  have HZw : Hid (w.heap.size ≤ ((w.alloc (.cells (imgL h m).toArray 28)).alloc (.cells (clsL A1 A2 k1 k2 x).toArray 92)).heap.size) := Lib.hid (by omega)
  have l0 := H.classes.le
  have l0c := H.classes.cap
  have l3 := H.methods.le
  have l3c := H.methods.cap
  have l5 := hs2.le
  have l5c := hs2.cap
  obtain ⟨L, hL⟩ : ∃ L, fieldsOf m.classes (i : Int) = L := ⟨_, rfl⟩
  have HL := Lib.hid hL
  obtain ⟨d1, hd1⟩ : ∃ d, goodsB x.fields m.classes.length = d := ⟨_, rfl⟩
  have D1 := Lib.hid hd1
  obtain ⟨AB, hAB⟩ : ∃ AB, aboveSlots m x = AB := ⟨_, rfl⟩
  have HAB := Lib.hid hAB
  clear hq0 hp0 hb hz H ht hx hxe hs hq hs1 hs2 s0 s1 s2 hab hw0 hL hd1 hAB hA0
  go_enter Try.func29, Try.ntmps29
  go_upto_region 1 with fail
  have hz0 : (w.alloc (.cells (imgL h m).toArray 28)).heap.size = w.heap.size + 1 := by simp
  have HZ0 := Lib.hid hz0
  clear hz0
  generalize w.alloc (.cells (imgL h m).toArray 28) = w0 at *
  go_upto_region 2 with fail
  clear r0 r1 r2 b0
  rw [HZ0.out]
  generalize w0.alloc (.cells (clsL A1 A2 k1 k2 x).toArray 92) = w1 at *
  have HX : Hid (Below w1.heap.size w1 w1) := Lib.hid (Below.refl _ _)
  have kq0 := (HQ.out.keep HX.out HQZ.out) 0 _ rfl
  have kq1 := (HQ.out.keep HX.out HQZ.out) 1 _ rfl
  have kq2 := (HQ.out.keep HX.out HQZ.out) 2 _ rfl
  have kq3 := (HQ.out.keep HX.out HQZ.out) 3 _ rfl
  have kq4 := (HQ.out.keep HX.out HQZ.out) 4 _ rfl
  have kq5 := (HQ.out.keep HX.out HQZ.out) 5 _ rfl
  have kq6 := (HQ.out.keep HX.out HQZ.out) 6 _ rfl
  have kc0 := (HC.out.keep HX.out HCZ.out) 0 _ rfl
  have kc1 := (HC.out.keep HX.out HCZ.out) 1 _ rfl
  have kc2 := (HC.out.keep HX.out HCZ.out) 2 _ rfl
  have hc0 : 0 ≤ (i : Int) := by omega
  by_cases c1 : x.sup < (i : Int)
  rotate_left
  · have ct1 : (i : Int) ≤ x.sup := by omega
    have E2 := Lib.hid (show classB m (i : Int) x = false by unfold classB; rw [decide_eq_false c1]; rfl)
    go_wp2_with (first | (go_at_call 28; (with_reducible refine (goods_is HI HSf HX D1).mono ?_); rintro e w5 ⟨rfl, hb⟩; have HX := Lib.hid (HX.out.trans (hb.mono HX.out.size)); have kq0 := (HQ.out.keep HX.out HQZ.out) 0 _ rfl; have kq1 := (HQ.out.keep HX.out HQZ.out) 1 _ rfl; have kq2 := (HQ.out.keep HX.out HQZ.out) 2 _ rfl; have kq3 := (HQ.out.keep HX.out HQZ.out) 3 _ rfl; have kq4 := (HQ.out.keep HX.out HQZ.out) 4 _ rfl; have kq5 := (HQ.out.keep HX.out HQZ.out) 5 _ rfl; have kq6 := (HQ.out.keep HX.out HQZ.out) 6 _ rfl; have kc0 := (HC.out.keep HX.out HCZ.out) 0 _ rfl; have kc1 := (HC.out.keep HX.out HCZ.out) 1 _ rfl; have kc2 := (HC.out.keep HX.out HCZ.out) 2 _ rfl; clear hb) | (go_at_call 49; (with_reducible refine (fields_call HI HX HN HF HL).mono ?_); rintro e w5 ⟨A9, k9, rfl, hb⟩; have HX := Lib.hid (HX.out.trans (hb.mono HX.out.size)); have kq0 := (HQ.out.keep HX.out HQZ.out) 0 _ rfl; have kq1 := (HQ.out.keep HX.out HQZ.out) 1 _ rfl; have kq2 := (HQ.out.keep HX.out HQZ.out) 2 _ rfl; have kq3 := (HQ.out.keep HX.out HQZ.out) 3 _ rfl; have kq4 := (HQ.out.keep HX.out HQZ.out) 4 _ rfl; have kq5 := (HQ.out.keep HX.out HQZ.out) 5 _ rfl; have kq6 := (HQ.out.keep HX.out HQZ.out) 6 _ rfl; have kc0 := (HC.out.keep HX.out HCZ.out) 0 _ rfl; have kc1 := (HC.out.keep HX.out HCZ.out) 1 _ rfl; have kc2 := (HC.out.keep HX.out HCZ.out) 2 _ rfl; clear hb))
    go_ret
    exact ⟨by rw [E2.out]; rfl, HW.out.trans (HX.out.mono HZw.out)⟩
  cases d1
  · have E2 := Lib.hid (show classB m (i : Int) x = false by unfold classB; rw [decide_eq_true c1, D1.out]; rfl)
    go_wp2_with (first | (go_at_call 28; (with_reducible refine (goods_is HI HSf HX D1).mono ?_); rintro e w5 ⟨rfl, hb⟩; have HX := Lib.hid (HX.out.trans (hb.mono HX.out.size)); have kq0 := (HQ.out.keep HX.out HQZ.out) 0 _ rfl; have kq1 := (HQ.out.keep HX.out HQZ.out) 1 _ rfl; have kq2 := (HQ.out.keep HX.out HQZ.out) 2 _ rfl; have kq3 := (HQ.out.keep HX.out HQZ.out) 3 _ rfl; have kq4 := (HQ.out.keep HX.out HQZ.out) 4 _ rfl; have kq5 := (HQ.out.keep HX.out HQZ.out) 5 _ rfl; have kq6 := (HQ.out.keep HX.out HQZ.out) 6 _ rfl; have kc0 := (HC.out.keep HX.out HCZ.out) 0 _ rfl; have kc1 := (HC.out.keep HX.out HCZ.out) 1 _ rfl; have kc2 := (HC.out.keep HX.out HCZ.out) 2 _ rfl; clear hb) | (go_at_call 49; (with_reducible refine (fields_call HI HX HN HF HL).mono ?_); rintro e w5 ⟨A9, k9, rfl, hb⟩; have HX := Lib.hid (HX.out.trans (hb.mono HX.out.size)); have kq0 := (HQ.out.keep HX.out HQZ.out) 0 _ rfl; have kq1 := (HQ.out.keep HX.out HQZ.out) 1 _ rfl; have kq2 := (HQ.out.keep HX.out HQZ.out) 2 _ rfl; have kq3 := (HQ.out.keep HX.out HQZ.out) 3 _ rfl; have kq4 := (HQ.out.keep HX.out HQZ.out) 4 _ rfl; have kq5 := (HQ.out.keep HX.out HQZ.out) 5 _ rfl; have kq6 := (HQ.out.keep HX.out HQZ.out) 6 _ rfl; have kc0 := (HC.out.keep HX.out HCZ.out) 0 _ rfl; have kc1 := (HC.out.keep HX.out HCZ.out) 1 _ rfl; have kc2 := (HC.out.keep HX.out HCZ.out) 2 _ rfl; clear hb))
    go_ret
    exact ⟨by rw [E2.out]; rfl, HW.out.trans (HX.out.mono HZw.out)⟩
  by_cases c2 : L.length ≤ 8
  rotate_left
  · have ct2 : (8 : Int) < (L.length : Int) := by omega
    have E2 := Lib.hid (show classB m (i : Int) x = false by unfold classB; rw [HL.out, decide_eq_false c2]; simp)
    go_wp2_with (first | (go_at_call 28; (with_reducible refine (goods_is HI HSf HX D1).mono ?_); rintro e w5 ⟨rfl, hb⟩; have HX := Lib.hid (HX.out.trans (hb.mono HX.out.size)); have kq0 := (HQ.out.keep HX.out HQZ.out) 0 _ rfl; have kq1 := (HQ.out.keep HX.out HQZ.out) 1 _ rfl; have kq2 := (HQ.out.keep HX.out HQZ.out) 2 _ rfl; have kq3 := (HQ.out.keep HX.out HQZ.out) 3 _ rfl; have kq4 := (HQ.out.keep HX.out HQZ.out) 4 _ rfl; have kq5 := (HQ.out.keep HX.out HQZ.out) 5 _ rfl; have kq6 := (HQ.out.keep HX.out HQZ.out) 6 _ rfl; have kc0 := (HC.out.keep HX.out HCZ.out) 0 _ rfl; have kc1 := (HC.out.keep HX.out HCZ.out) 1 _ rfl; have kc2 := (HC.out.keep HX.out HCZ.out) 2 _ rfl; clear hb) | (go_at_call 49; (with_reducible refine (fields_call HI HX HN HF HL).mono ?_); rintro e w5 ⟨A9, k9, rfl, hb⟩; have HX := Lib.hid (HX.out.trans (hb.mono HX.out.size)); have kq0 := (HQ.out.keep HX.out HQZ.out) 0 _ rfl; have kq1 := (HQ.out.keep HX.out HQZ.out) 1 _ rfl; have kq2 := (HQ.out.keep HX.out HQZ.out) 2 _ rfl; have kq3 := (HQ.out.keep HX.out HQZ.out) 3 _ rfl; have kq4 := (HQ.out.keep HX.out HQZ.out) 4 _ rfl; have kq5 := (HQ.out.keep HX.out HQZ.out) 5 _ rfl; have kq6 := (HQ.out.keep HX.out HQZ.out) 6 _ rfl; have kc0 := (HC.out.keep HX.out HCZ.out) 0 _ rfl; have kc1 := (HC.out.keep HX.out HCZ.out) 1 _ rfl; have kc2 := (HC.out.keep HX.out HCZ.out) 2 _ rfl; clear hb))
    go_ret
    exact ⟨by rw [E2.out]; rfl, HW.out.trans (HX.out.mono HZw.out)⟩
  have ct2 : ¬ (8 : Int) < (L.length : Int) := by omega
  go_upto_region 5 with (first | (go_at_call 28; (with_reducible refine (goods_is HI HSf HX D1).mono ?_); rintro e w5 ⟨rfl, hb⟩; have HX := Lib.hid (HX.out.trans (hb.mono HX.out.size)); have kq0 := (HQ.out.keep HX.out HQZ.out) 0 _ rfl; have kq1 := (HQ.out.keep HX.out HQZ.out) 1 _ rfl; have kq2 := (HQ.out.keep HX.out HQZ.out) 2 _ rfl; have kq3 := (HQ.out.keep HX.out HQZ.out) 3 _ rfl; have kq4 := (HQ.out.keep HX.out HQZ.out) 4 _ rfl; have kq5 := (HQ.out.keep HX.out HQZ.out) 5 _ rfl; have kq6 := (HQ.out.keep HX.out HQZ.out) 6 _ rfl; have kc0 := (HC.out.keep HX.out HCZ.out) 0 _ rfl; have kc1 := (HC.out.keep HX.out HCZ.out) 1 _ rfl; have kc2 := (HC.out.keep HX.out HCZ.out) 2 _ rfl; clear hb) | (go_at_call 49; (with_reducible refine (fields_call HI HX HN HF HL).mono ?_); rintro e w5 ⟨A9, k9, rfl, hb⟩; have HX := Lib.hid (HX.out.trans (hb.mono HX.out.size)); have kq0 := (HQ.out.keep HX.out HQZ.out) 0 _ rfl; have kq1 := (HQ.out.keep HX.out HQZ.out) 1 _ rfl; have kq2 := (HQ.out.keep HX.out HQZ.out) 2 _ rfl; have kq3 := (HQ.out.keep HX.out HQZ.out) 3 _ rfl; have kq4 := (HQ.out.keep HX.out HQZ.out) 4 _ rfl; have kq5 := (HQ.out.keep HX.out HQZ.out) 5 _ rfl; have kq6 := (HQ.out.keep HX.out HQZ.out) 6 _ rfl; have kc0 := (HC.out.keep HX.out HCZ.out) 0 _ rfl; have kc1 := (HC.out.keep HX.out HCZ.out) 1 _ rfl; have kc2 := (HC.out.keep HX.out HCZ.out) 2 _ rfl; clear hb))
  have HX := Lib.hid (HX.out.alloc HX.out.size (.cells #[] 3))
  generalize w5.alloc (.cells #[] 3) = w6 at *
  clear kq0 kq1 kq2 kq3 kq4 kq5 kq6 kc0 kc1 kc2
  have kq0 := (HQ.out.keep HX.out HQZ.out) 0 _ rfl
  have kq1 := (HQ.out.keep HX.out HQZ.out) 1 _ rfl
  have kq2 := (HQ.out.keep HX.out HQZ.out) 2 _ rfl
  have kq3 := (HQ.out.keep HX.out HQZ.out) 3 _ rfl
  have kq4 := (HQ.out.keep HX.out HQZ.out) 4 _ rfl
  have kq5 := (HQ.out.keep HX.out HQZ.out) 5 _ rfl
  have kq6 := (HQ.out.keep HX.out HQZ.out) 6 _ rfl
  have kc0 := (HC.out.keep HX.out HCZ.out) 0 _ rfl
  have kc1 := (HC.out.keep HX.out HCZ.out) 1 _ rfl
  have kc2 := (HC.out.keep HX.out HCZ.out) 2 _ rfl
  by_cases hs0 : 0 ≤ x.sup
  · obtain ⟨ny, hny⟩ := Int.eq_ofNat_of_zero_le hs0
    have hnyl : ny < m.classes.length := by omega
    obtain ⟨ady, e0, haby, hcy⟩ := HI.out.classes.row.at_ hnyl
    have HAY := Lib.hid (show aboveSlots m x = m.classes[ny].slots by unfold aboveSlots; rw [if_pos hs0, hny, Int.toNat_natCast, List.getElem?_eq_getElem hnyl])
    have HYM := Lib.hid (List.getElem_mem hnyl)
    generalize m.classes[ny] = y at *
    obtain ⟨_, _, ⟨A2y, k2y, sy, hsy⟩⟩ := hcy
    obtain rfl : AB = y.slots := HAB.out.symm.trans HAY.out
    have HSy := Lib.hid hsy
    have ly := hsy.le
    have lyc := hsy.cap
    have sy := (HX.out.cell (p := off_ (ady.add (ny * 3)) 2) (by show (ady.add _).block < _; rw [addr_add_block]; exact haby)).trans sy
    rw [e0] at kq0
    rw [hny] at kc0
    have hnyi : (ny : Int) < m.classes.length := by omega
    have hny0 : ¬ (ny : Int) < 0 := by omega
    clear e0 hsy haby hs0
    by_cases c3 : y.slots.length ≤ x.slots.length
    rotate_left
    · have ct3 : (x.slots.length : Int) < (y.slots.length : Int) := by omega
      have E2 := Lib.hid (show classB m (i : Int) x = false by unfold classB; rw [HAB.out, decide_eq_false c3]; simp)
      go_wp2_with (first | (go_at_call 28; (with_reducible refine (goods_is HI HSf HX D1).mono ?_); rintro e w5 ⟨rfl, hb⟩; have HX := Lib.hid (HX.out.trans (hb.mono HX.out.size)); have kq0 := (HQ.out.keep HX.out HQZ.out) 0 _ rfl; have kq1 := (HQ.out.keep HX.out HQZ.out) 1 _ rfl; have kq2 := (HQ.out.keep HX.out HQZ.out) 2 _ rfl; have kq3 := (HQ.out.keep HX.out HQZ.out) 3 _ rfl; have kq4 := (HQ.out.keep HX.out HQZ.out) 4 _ rfl; have kq5 := (HQ.out.keep HX.out HQZ.out) 5 _ rfl; have kq6 := (HQ.out.keep HX.out HQZ.out) 6 _ rfl; have kc0 := (HC.out.keep HX.out HCZ.out) 0 _ rfl; have kc1 := (HC.out.keep HX.out HCZ.out) 1 _ rfl; have kc2 := (HC.out.keep HX.out HCZ.out) 2 _ rfl; clear hb) | (go_at_call 49; (with_reducible refine (fields_call HI HX HN HF HL).mono ?_); rintro e w5 ⟨A9, k9, rfl, hb⟩; have HX := Lib.hid (HX.out.trans (hb.mono HX.out.size)); have kq0 := (HQ.out.keep HX.out HQZ.out) 0 _ rfl; have kq1 := (HQ.out.keep HX.out HQZ.out) 1 _ rfl; have kq2 := (HQ.out.keep HX.out HQZ.out) 2 _ rfl; have kq3 := (HQ.out.keep HX.out HQZ.out) 3 _ rfl; have kq4 := (HQ.out.keep HX.out HQZ.out) 4 _ rfl; have kq5 := (HQ.out.keep HX.out HQZ.out) 5 _ rfl; have kq6 := (HQ.out.keep HX.out HQZ.out) 6 _ rfl; have kc0 := (HC.out.keep HX.out HCZ.out) 0 _ rfl; have kc1 := (HC.out.keep HX.out HCZ.out) 1 _ rfl; have kc2 := (HC.out.keep HX.out HCZ.out) 2 _ rfl; clear hb))
      go_ret
      exact ⟨by rw [E2.out]; rfl, HW.out.trans (HX.out.mono HZw.out)⟩
    have ct3 : ¬ (x.slots.length : Int) < (y.slots.length : Int) := by omega
    go_wp2_with (first | (go_at_call 28; (with_reducible refine (goods_is HI HSf HX D1).mono ?_); rintro e w5 ⟨rfl, hb⟩; have HX := Lib.hid (HX.out.trans (hb.mono HX.out.size)); have kq0 := (HQ.out.keep HX.out HQZ.out) 0 _ rfl; have kq1 := (HQ.out.keep HX.out HQZ.out) 1 _ rfl; have kq2 := (HQ.out.keep HX.out HQZ.out) 2 _ rfl; have kq3 := (HQ.out.keep HX.out HQZ.out) 3 _ rfl; have kq4 := (HQ.out.keep HX.out HQZ.out) 4 _ rfl; have kq5 := (HQ.out.keep HX.out HQZ.out) 5 _ rfl; have kq6 := (HQ.out.keep HX.out HQZ.out) 6 _ rfl; have kc0 := (HC.out.keep HX.out HCZ.out) 0 _ rfl; have kc1 := (HC.out.keep HX.out HCZ.out) 1 _ rfl; have kc2 := (HC.out.keep HX.out HCZ.out) 2 _ rfl; clear hb) | (go_at_call 49; (with_reducible refine (fields_call HI HX HN HF HL).mono ?_); rintro e w5 ⟨A9, k9, rfl, hb⟩; have HX := Lib.hid (HX.out.trans (hb.mono HX.out.size)); have kq0 := (HQ.out.keep HX.out HQZ.out) 0 _ rfl; have kq1 := (HQ.out.keep HX.out HQZ.out) 1 _ rfl; have kq2 := (HQ.out.keep HX.out HQZ.out) 2 _ rfl; have kq3 := (HQ.out.keep HX.out HQZ.out) 3 _ rfl; have kq4 := (HQ.out.keep HX.out HQZ.out) 4 _ rfl; have kq5 := (HQ.out.keep HX.out HQZ.out) 5 _ rfl; have kq6 := (HQ.out.keep HX.out HQZ.out) 6 _ rfl; have kc0 := (HC.out.keep HX.out HCZ.out) 0 _ rfl; have kc1 := (HC.out.keep HX.out HCZ.out) 1 _ rfl; have kc2 := (HC.out.keep HX.out HCZ.out) 2 _ rfl; clear hb))
    go_loopw [7] (fun i' wr => ∃ k : Nat, k ≤ x.slots.length ∧ i' = .int .i64 k ∧ Hid (slotsFrom m (i : Int) y.slots 0 x.slots = slotsFrom m (i : Int) y.slots k (x.slots.drop k)) ∧ Hid (Below w1.heap.size w1 wr)) (fun i' _ => x.slots.length - (intOf i').toNat)
    case atStart => exact ⟨0, by omega, rfl, Lib.hid rfl, HX⟩
    case round =>
      clear HX kq0 kq1 kq2 kq3 kq4 kq5 kq6 kc0 kc1 kc2
      obtain ⟨k, hk, rfl, HK, HX⟩ := hrel
      have kq0 := (HQ.out.keep HX.out HQZ.out) 0 _ rfl
      have kq1 := (HQ.out.keep HX.out HQZ.out) 1 _ rfl
      have kq2 := (HQ.out.keep HX.out HQZ.out) 2 _ rfl
      have kq3 := (HQ.out.keep HX.out HQZ.out) 3 _ rfl
      have kq4 := (HQ.out.keep HX.out HQZ.out) 4 _ rfl
      have kq5 := (HQ.out.keep HX.out HQZ.out) 5 _ rfl
      have kq6 := (HQ.out.keep HX.out HQZ.out) 6 _ rfl
      have kc0 := (HC.out.keep HX.out HCZ.out) 0 _ rfl
      have kc1 := (HC.out.keep HX.out HCZ.out) 1 _ rfl
      have kc2 := (HC.out.keep HX.out HCZ.out) 2 _ rfl
      by_cases hlt : k < x.slots.length
      · obtain ⟨ads, e2, habs, hcs⟩ := HSs.out.row.at_ hlt
        have HKK := Lib.hid (HK.out.trans (slots_drop hlt))
        have hs0 := HS0.out x HXM.out x.slots[k] (List.getElem_mem hlt)
        have HE2 := Lib.hid e2
        rw [e2] at kc2
        rw [Nat.mul_one] at hcs
        have HCS : Hid (w1.cell? (ads.add k) = some (.int .i64 x.slots[k])) := Lib.hid hcs
        have HBS : Hid ((ads.add k).block < w1.heap.size) := Lib.hid (by rw [addr_add_block]; exact habs)
        generalize x.slots[k] = s at *
        obtain ⟨n, rfl⟩ := Int.eq_ofNat_of_zero_le hs0
        have ks := (HX.out.cell HBS.out).trans HCS.out
        clear e2 hcs habs hs0
        by_cases hnl : n < m.methods.length
        · obtain ⟨adm, e3, habm, hcm⟩ := HI.out.methods.row.at_ hnl
          have HME := Lib.hid (List.getElem?_eq_getElem hnl)
          generalize m.methods[n] = f at *
          obtain ⟨fa, fl, ⟨fr0, fr1⟩, fc, fd, fp, fh⟩ := f
          obtain ⟨⟨A0f, j0, f0, hf0⟩, ⟨A1f, j1, f1, _⟩, f2, f3, ⟨A4f, j4, f4, _⟩, f5, f6, ⟨A7f, j7, f7, _⟩⟩ := hcm
          dsimp only at f0 f1 f2 f3 f4 f5 f6 f7 hf0
          have hPm : (adm.add (n * 8)).block < w1.heap.size := by rw [addr_add_block]; exact habm
          have HSfa := Lib.hid hf0
          have hj0 := hf0.le
          have hj0c := hf0.cap
          go_upto_region 12 with fail
          rw [e3] at kq3
          go_quiet (fail)
          go_upto_region 14 with fail
          have HX := Lib.hid (below_drewN' HX.out nq)
          generalize wr.drewN nq = wd at *
          clear kq0 kq1 kq2 kq3 kq4 kq5 kq6 kc0 kc1 kc2 ks
          have kq0 := (HQ.out.keep HX.out HQZ.out) 0 _ rfl
          have kq1 := (HQ.out.keep HX.out HQZ.out) 1 _ rfl
          have kq2 := (HQ.out.keep HX.out HQZ.out) 2 _ rfl
          have kq3 := (HQ.out.keep HX.out HQZ.out) 3 _ rfl
          have kq4 := (HQ.out.keep HX.out HQZ.out) 4 _ rfl
          have kq5 := (HQ.out.keep HX.out HQZ.out) 5 _ rfl
          have kq6 := (HQ.out.keep HX.out HQZ.out) 6 _ rfl
          have kc0 := (HC.out.keep HX.out HCZ.out) 0 _ rfl
          have kc1 := (HC.out.keep HX.out HCZ.out) 1 _ rfl
          have kc2 := (HC.out.keep HX.out HCZ.out) 2 _ rfl
          rw [e3] at kq3
          rw [HE2.out] at kc2
          have ks := (HX.out.cell HBS.out).trans HCS.out
          have f0 := (HX.out.cell hPm).trans f0
          have f1 := (HX.out.cell (p := off_ (adm.add (n * 8)) 1) hPm).trans f1
          have f2 := (HX.out.cell (p := off_ (adm.add (n * 8)) 2) hPm).trans f2
          have f3 := (HX.out.cell (p := off_ (adm.add (n * 8)) 3) hPm).trans f3
          have f4 := (HX.out.cell (p := off_ (adm.add (n * 8)) 4) hPm).trans f4
          have f5 := (HX.out.cell (p := off_ (adm.add (n * 8)) 5) hPm).trans f5
          have f6 := (HX.out.cell (p := off_ (adm.add (n * 8)) 6) hPm).trans f6
          have f7 := (HX.out.cell (p := off_ (adm.add (n * 8)) 7) hPm).trans f7
          have e1 := World.new_ne wd _ kq3
          have e2 := World.new_ne wd _ kc2
          have e4 := World.new_ne wd _ ks
          have e5 := World.new_ne wd _ f0
          clear e3
          go_region_held3 (fun w' => w'.cell? ⟨w.heap.size, 3, none⟩ = some (.slice (some adm) m.methods.length h.c3) ∧ w'.cell? ⟨w.heap.size + 1, 2, none⟩ = some (.slice (some ads) x.slots.length k2) ∧ w'.cell? (ads.add k) = some (.int .i64 (n : Int)) ∧ w'.cell? (adm.add (n * 8)) = some (.slice A0f fa.length j0) ∧ w'.cell? (off_ (adm.add (n * 8)) 1) = some (.slice A1f fl.length j1) ∧ w'.cell? (off_ (adm.add (n * 8)) 2) = some (.int .i64 fr0) ∧ w'.cell? (off_ (adm.add (n * 8)) 3) = some (.int .i64 fr1) ∧ w'.cell? (off_ (adm.add (n * 8)) 4) = some (.slice A4f fc.length j4) ∧ w'.cell? (off_ (adm.add (n * 8)) 5) = some (.int .i64 fd) ∧ w'.cell? (off_ (adm.add (n * 8)) 6) = some (.int .i64 fp) ∧ w'.cell? (off_ (adm.add (n * 8)) 7) = some (.slice A7f fh.length j7)) (go_keep) (first | fail)
          go_upto_region 15 with fail
          have HFB := Lib.hid (cells_new wd [.slice A0f fa.length j0, .slice A1f fl.length j1, .int .i64 fr0, .int .i64 fr1, .slice A4f fc.length j4, .int .i64 fd, .int .i64 fp, .slice A7f fh.length j7] 54)
          have HX := Lib.hid (HX.out.alloc HX.out.size (.cells ([.slice A0f fa.length j0, .slice A1f fl.length j1, .int .i64 fr0, .int .i64 fr1, .slice A4f fc.length j4, .int .i64 fd, .int .i64 fp, .slice A7f fh.length j7] : List Value).toArray 54)).drew
          clear kq0 kq1 kq2 kq3 kq4 kq5 kq6 kc0 kc1 kc2 ks f0 f1 f2 f3 f4 f5 f6 f7 e1 e2 e4 e5
          have HFB : Hid (Cells (wd.alloc (.cells ([.slice A0f fa.length j0, .slice A1f fl.length j1, .int .i64 fr0, .int .i64 fr1, .slice A4f fc.length j4, .int .i64 fd, .int .i64 fp, .slice A7f fh.length j7] : List Value).toArray 54)).drew wd.heap.size [.slice A0f fa.length j0, .slice A1f fl.length j1, .int .i64 fr0, .int .i64 fr1, .slice A4f fc.length j4, .int .i64 fd, .int .i64 fp, .slice A7f fh.length j7]) := HFB
          generalize (wd.alloc (.cells ([.slice A0f fa.length j0, .slice A1f fl.length j1, .int .i64 fr0, .int .i64 fr1, .slice A4f fc.length j4, .int .i64 fd, .int .i64 fp, .slice A7f fh.length j7] : List Value).toArray 54)).drew = w2 at *
          generalize wd.heap.size = gf at *
          have HFBZ : Hid (gf < w2.heap.size) := Lib.hid (World.block_lt_of_cell? w2 _ (HFB.out 0 _ rfl))
          have kq0 := (HQ.out.keep HX.out HQZ.out) 0 _ rfl
          have kq1 := (HQ.out.keep HX.out HQZ.out) 1 _ rfl
          have kq2 := (HQ.out.keep HX.out HQZ.out) 2 _ rfl
          have kq3 := (HQ.out.keep HX.out HQZ.out) 3 _ rfl
          have kq4 := (HQ.out.keep HX.out HQZ.out) 4 _ rfl
          have kq5 := (HQ.out.keep HX.out HQZ.out) 5 _ rfl
          have kq6 := (HQ.out.keep HX.out HQZ.out) 6 _ rfl
          have kc0 := (HC.out.keep HX.out HCZ.out) 0 _ rfl
          have kc1 := (HC.out.keep HX.out HCZ.out) 1 _ rfl
          have kc2 := (HC.out.keep HX.out HCZ.out) 2 _ rfl
          have hb0 := HFB.out 0 _ rfl
          by_cases hfa0 : fa.length = 0
          · have SL := Lib.hid (slot_nil (c := (i : Int)) (ab := y.slots) (k := k) HME.out (List.eq_nil_of_length_eq_zero hfa0))
            have E2 := Lib.hid (show classB m (i : Int) x = false by unfold classB; rw [HAB.out, HKK.out, SL.out]; simp)
            have ht0 : ((fa.length : Int) == 0) = true := beq_iff_eq.mpr (by omega)
            clear hfa0
            go_quiet (fail)
            go_wp2_with fail
            go_ret
            exact ⟨by rw [E2.out]; rfl, HW.out.trans ((below_drewN' HX.out _).mono HZw.out)⟩
          · have hfp : 0 < fa.length := by omega
            have ht0 : ((fa.length : Int) == 0) = false := beq_eq_false_iff_ne.mpr (by omega)
            have HFT := Lib.hid (show fa = fa[0] :: fa.drop 1 from List.drop_eq_getElem_cons hfp)
            obtain ⟨adt, rfl, habt, r0, r1⟩ := HSfa.out.row.at_ hfp
            clear hfa0
            generalize fa[0] = t at *
            obtain ⟨t0, t1⟩ := t
            rw [Nat.zero_mul, show adt.add 0 = adt by simp [Addr.add]] at r0 r1
            have HR2 : Hid (∀ W, Below w1.heap.size w1 W → W.cell? adt = some (.int .i64 t0) ∧ W.cell? (off_ adt 1) = some (.int .i64 t1)) := Lib.hid (fun W hW => TyAt.keeps (x := (t0, t1)) ⟨r0, r1⟩ habt (Nat.le_refl _) (fun _ hq => hW.cell hq))
            obtain ⟨r0, r1⟩ := HR2.out _ HX.out
            have HXd := Lib.hid HX.out.drew
            have HB2d : Hid (Below w2.heap.size w2 w2.drew) := Lib.hid (Below.refl _ _).drew
            obtain ⟨d4, hd4⟩ : ∃ d, subB (supsOf m.classes) 3 (i : Int) t0 t1 = d := ⟨_, rfl⟩
            have D4 := Lib.hid hd4
            clear hd4 habt
            cases d4
            · have SL := Lib.hid (slot_sub (c := (i : Int)) (ab := y.slots) (k := k) HME.out HFT.out D4.out)
              have E2 := Lib.hid (show classB m (i : Int) x = false by unfold classB; rw [HAB.out, HKK.out, SL.out]; simp)
              go_region_held3 (fun w' => w'.cell? ⟨w.heap.size, 0, none⟩ = some (.slice h.A0 m.classes.length h.c0) ∧ w'.cell? ⟨gf, 0, none⟩ = some (.slice (some adt) fa.length j0) ∧ w'.cell? adt = some (.int .i64 t0) ∧ w'.cell? (off_ adt 1) = some (.int .i64 t1)) (first | exact ⟨kq0, hb0, r0, r1⟩) (first | (go_at_call 50; (with_reducible refine (sub_is HI HXd HN D4).mono ?_); rintro e w3 ⟨rfl, hb⟩; have HX := Lib.hid (HXd.out.trans (hb.mono HXd.out.size)); have HB23 := Lib.hid (HB2d.out.trans (hb.mono HB2d.out.size)); have kq0 := (HQ.out.keep HX.out HQZ.out) 0 _ rfl; have kq1 := (HQ.out.keep HX.out HQZ.out) 1 _ rfl; have kq2 := (HQ.out.keep HX.out HQZ.out) 2 _ rfl; have kq3 := (HQ.out.keep HX.out HQZ.out) 3 _ rfl; have kq4 := (HQ.out.keep HX.out HQZ.out) 4 _ rfl; have kq5 := (HQ.out.keep HX.out HQZ.out) 5 _ rfl; have kq6 := (HQ.out.keep HX.out HQZ.out) 6 _ rfl; have kc0 := (HC.out.keep HX.out HCZ.out) 0 _ rfl; have kc1 := (HC.out.keep HX.out HCZ.out) 1 _ rfl; have kc2 := (HC.out.keep HX.out HCZ.out) 2 _ rfl; have hb0 := (HFB.out.keep HB23.out HFBZ.out) 0 _ rfl; obtain ⟨r0, r1⟩ := HR2.out _ HX.out; clear hb))
              go_wp2_with fail
              go_ret
              exact ⟨by rw [E2.out]; rfl, HW.out.trans (HX.out.mono HZw.out)⟩
            · go_region_held3 (fun w' => w'.cell? ⟨w.heap.size, 0, none⟩ = some (.slice h.A0 m.classes.length h.c0) ∧ w'.cell? ⟨gf, 0, none⟩ = some (.slice (some adt) fa.length j0) ∧ w'.cell? adt = some (.int .i64 t0) ∧ w'.cell? (off_ adt 1) = some (.int .i64 t1)) (first | exact ⟨kq0, hb0, r0, r1⟩) (first | (go_at_call 50; (with_reducible refine (sub_is HI HXd HN D4).mono ?_); rintro e w3 ⟨rfl, hb⟩; have HX := Lib.hid (HXd.out.trans (hb.mono HXd.out.size)); have HB23 := Lib.hid (HB2d.out.trans (hb.mono HB2d.out.size)); have kq0 := (HQ.out.keep HX.out HQZ.out) 0 _ rfl; have kq1 := (HQ.out.keep HX.out HQZ.out) 1 _ rfl; have kq2 := (HQ.out.keep HX.out HQZ.out) 2 _ rfl; have kq3 := (HQ.out.keep HX.out HQZ.out) 3 _ rfl; have kq4 := (HQ.out.keep HX.out HQZ.out) 4 _ rfl; have kq5 := (HQ.out.keep HX.out HQZ.out) 5 _ rfl; have kq6 := (HQ.out.keep HX.out HQZ.out) 6 _ rfl; have kc0 := (HC.out.keep HX.out HCZ.out) 0 _ rfl; have kc1 := (HC.out.keep HX.out HCZ.out) 1 _ rfl; have kc2 := (HC.out.keep HX.out HCZ.out) 2 _ rfl; have hb0 := (HFB.out.keep HB23.out HFBZ.out) 0 _ rfl; obtain ⟨r0, r1⟩ := HR2.out _ HX.out; clear hb))
              by_cases hka : k < y.slots.length
              rotate_left
              · have SL := Lib.hid (slot_free (c := (i : Int)) (ab := y.slots) (k := k) HME.out HFT.out D4.out (by omega))
                have HK2 := Lib.hid (HKK.out.trans (by rw [SL.out, Bool.true_and]))
                go_wp2_with fail
                go_roundw
                case rel => exact ⟨k + 1, by omega, by go_num, HK2, HX⟩
                case measure => simp [intOf]; omega
              have hq0 := HS0.out y HYM.out y.slots[k] (List.getElem_mem hka)
              have hqp := HPQ.out c1 y.slots[k] (by rw [HAB.out]; exact List.getElem_mem hka)
              have HQK := Lib.hid (List.getElem?_eq_getElem hka)
              obtain ⟨adq, rfl, habq, hcq⟩ := HSy.out.row.at_ hka
              rw [Nat.mul_one] at hcq
              generalize y.slots[k] = qq at *
              obtain ⟨q, rfl⟩ := Int.eq_ofNat_of_zero_le hq0
              obtain ⟨gm, hgm, hgp⟩ := hqp
              rw [Int.toNat_natCast] at hgm
              obtain ⟨hql, _⟩ := List.getElem?_eq_some_iff.mp hgm
              obtain ⟨adm2, e6, habg, hcg⟩ := HI.out.methods.row q gm hgm
              have HGE := Lib.hid hgm
              obtain ⟨ga, gl, ⟨gr0, gr1⟩, gc, gd, gp, gh⟩ := gm
              obtain ⟨⟨A0g, i0, g0, hg0⟩, ⟨A1g, i1, g1, _⟩, g2, g3, ⟨A4g, i4, g4, _⟩, g5, g6, ⟨A7g, i7, g7, _⟩⟩ := hcg
              dsimp only at g0 g1 g2 g3 g4 g5 g6 g7 hg0 hgp
              have hPg : (adm2.add (q * 8)).block < w1.heap.size := by rw [addr_add_block]; exact habg
              have HSga := Lib.hid hg0
              have hi0 := hg0.le
              have hi0c := hg0.cap
              have g0 := (HX.out.cell hPg).trans g0
              have g1 := (HX.out.cell (p := off_ (adm2.add (q * 8)) 1) hPg).trans g1
              have g2 := (HX.out.cell (p := off_ (adm2.add (q * 8)) 2) hPg).trans g2
              have g3 := (HX.out.cell (p := off_ (adm2.add (q * 8)) 3) hPg).trans g3
              have g4 := (HX.out.cell (p := off_ (adm2.add (q * 8)) 4) hPg).trans g4
              have g5 := (HX.out.cell (p := off_ (adm2.add (q * 8)) 5) hPg).trans g5
              have g6 := (HX.out.cell (p := off_ (adm2.add (q * 8)) 6) hPg).trans g6
              have g7 := (HX.out.cell (p := off_ (adm2.add (q * 8)) 7) hPg).trans g7
              have ksq := (HX.out.cell (p := adq.add k) (by rw [addr_add_block]; exact habq)).trans hcq
              rw [e6] at kq3
              have e1 := World.new_ne w3 _ kq3
              have e4 := World.new_ne w3 _ ksq
              have e5 := World.new_ne w3 _ g0
              clear e6 hgm hg0 hcq habq habg
              go_upto_region 18 with fail
              go_region_held3 (fun w' => w'.cell? ⟨w.heap.size, 3, none⟩ = some (.slice (some adm2) m.methods.length h.c3) ∧ w'.cell? (adq.add k) = some (.int .i64 (q : Int)) ∧ w'.cell? (adm2.add (q * 8)) = some (.slice A0g ga.length i0) ∧ w'.cell? (off_ (adm2.add (q * 8)) 1) = some (.slice A1g gl.length i1) ∧ w'.cell? (off_ (adm2.add (q * 8)) 2) = some (.int .i64 gr0) ∧ w'.cell? (off_ (adm2.add (q * 8)) 3) = some (.int .i64 gr1) ∧ w'.cell? (off_ (adm2.add (q * 8)) 4) = some (.slice A4g gc.length i4) ∧ w'.cell? (off_ (adm2.add (q * 8)) 5) = some (.int .i64 gd) ∧ w'.cell? (off_ (adm2.add (q * 8)) 6) = some (.int .i64 gp) ∧ w'.cell? (off_ (adm2.add (q * 8)) 7) = some (.slice A7g gh.length i7)) (go_keep) (first | fail)
              go_upto_region 19 with fail
              have HGB := Lib.hid (cells_new w3 [.slice A0g ga.length i0, .slice A1g gl.length i1, .int .i64 gr0, .int .i64 gr1, .slice A4g gc.length i4, .int .i64 gd, .int .i64 gp, .slice A7g gh.length i7] 54)
              have HFB : Hid (Cells (w3.alloc (.cells ([.slice A0g ga.length i0, .slice A1g gl.length i1, .int .i64 gr0, .int .i64 gr1, .slice A4g gc.length i4, .int .i64 gd, .int .i64 gp, .slice A7g gh.length i7] : List Value).toArray 54)).drew gf [.slice (some adt) fa.length j0, .slice A1f fl.length j1, .int .i64 fr0, .int .i64 fr1, .slice A4f fc.length j4, .int .i64 fd, .int .i64 fp, .slice A7f fh.length j7]) := Lib.hid (HFB.out.keep (HB23.out.trans ((Below.refl _ _).alloc HB23.out.size (.cells ([.slice A0g ga.length i0, .slice A1g gl.length i1, .int .i64 gr0, .int .i64 gr1, .slice A4g gc.length i4, .int .i64 gd, .int .i64 gp, .slice A7g gh.length i7] : List Value).toArray 54)).drew) HFBZ.out)
              have HX := Lib.hid (HX.out.alloc HX.out.size (.cells ([.slice A0g ga.length i0, .slice A1g gl.length i1, .int .i64 gr0, .int .i64 gr1, .slice A4g gc.length i4, .int .i64 gd, .int .i64 gp, .slice A7g gh.length i7] : List Value).toArray 54)).drew
              have HGB : Hid (Cells (w3.alloc (.cells ([.slice A0g ga.length i0, .slice A1g gl.length i1, .int .i64 gr0, .int .i64 gr1, .slice A4g gc.length i4, .int .i64 gd, .int .i64 gp, .slice A7g gh.length i7] : List Value).toArray 54)).drew w3.heap.size [.slice A0g ga.length i0, .slice A1g gl.length i1, .int .i64 gr0, .int .i64 gr1, .slice A4g gc.length i4, .int .i64 gd, .int .i64 gp, .slice A7g gh.length i7]) := HGB
              clear kq0 kq1 kq2 kq3 kq4 kq5 kq6 kc0 kc1 kc2 ksq g0 g1 g2 g3 g4 g5 g6 g7 e1 e4 e5 hb0 r0 r1
              generalize (w3.alloc (.cells ([.slice A0g ga.length i0, .slice A1g gl.length i1, .int .i64 gr0, .int .i64 gr1, .slice A4g gc.length i4, .int .i64 gd, .int .i64 gp, .slice A7g gh.length i7] : List Value).toArray 54)).drew = w4 at *
              generalize w3.heap.size = gg at *
              have hb0 := HFB.out 0 _ rfl
              have hb2 := HFB.out 2 _ rfl
              have hb3 := HFB.out 3 _ rfl
              have hg0 := HGB.out 0 _ rfl
              have hg2 := HGB.out 2 _ rfl
              have hg3 := HGB.out 3 _ rfl
              obtain ⟨adg, rfl, _, _⟩ := HSga.out.row.at_ hgp
              have HFZ4 : Hid (gf < w4.heap.size) := Lib.hid (World.block_lt_of_cell? w4 _ hb0)
              have HGZ4 : Hid (gg < w4.heap.size) := Lib.hid (World.block_lt_of_cell? w4 _ hg0)
              have HXd := Lib.hid HX.out.drew
              have HB4d : Hid (Below w4.heap.size w4 w4.drew) := Lib.hid (Below.refl _ _).drew
              have SL0 : Hid (slotB m (i : Int) y.slots k (n : Int) = (decide (fa.drop 1 = ga.drop 1) && decide ((fr0, fr1) = (gr0, gr1)))) := Lib.hid (slot_above (c := (i : Int)) (ab := y.slots) (k := k) HME.out HFT.out D4.out HQK.out HGE.out)
              have hf1 : (1 : Int) ≤ (fa.length : Int) := by omega
              have hf2 : 1 ≤ fa.length := hfp
              have hf3 : (fa.length : Int) ≤ (j0 : Int) := by omega
              have hg1' : (1 : Int) ≤ (ga.length : Int) := by omega
              have hg2' : 1 ≤ ga.length := hgp
              have hg3' : (ga.length : Int) ≤ (i0 : Int) := by omega
              obtain ⟨d5, hd5⟩ : ∃ d, decide (fa.drop 1 = ga.drop 1) = d := ⟨_, rfl⟩
              have D5 := Lib.hid hd5
              clear hd5
              by_cases hj1 : j0 = 1
              · subst hj1
                have HSfd := Lib.hid (slc_drop1 HSfa.out hfp)
                by_cases hi1 : i0 = 1
                · subst hi1
                  have HSgd := Lib.hid (slc_drop1 HSga.out hgp)
                  have HNf : Hid ((fa.drop 1).length = 0) := Lib.hid (by rw [List.length_drop]; omega)
                  have HNg : Hid ((ga.drop 1).length = 0) := Lib.hid (by rw [List.length_drop]; omega)
                  cases d5
                  · have SL := Lib.hid (SL0.out.trans (by rw [D5.out] <;> rfl))
                    have E2 := Lib.hid (show classB m (i : Int) x = false by unfold classB; rw [HAB.out, HKK.out, SL.out]; simp)
                    refine wp_region_noPanic ?_
                    refine wp_region_held_drew (S := (fun w' => w'.cell? ⟨gf, 0, none⟩ = some (.slice (some adt) fa.length 1) ∧ w'.cell? ⟨gf, 2, none⟩ = some (.int .i64 fr0) ∧ w'.cell? ⟨gf, 3, none⟩ = some (.int .i64 fr1) ∧ w'.cell? ⟨gg, 0, none⟩ = some (.slice (some adg) ga.length 1) ∧ w'.cell? ⟨gg, 2, none⟩ = some (.int .i64 gr0) ∧ w'.cell? ⟨gg, 3, none⟩ = some (.int .i64 gr1))) (by kernel_rfl) ⟨hb0, hb2, hb3, hg0, hg2, hg3⟩ (fun hHeld => ?_)
                    refine wpAnyH_take (i := 0) (oi := _) (v := ?_) rfl (by kernel_rfl) (by kernel_rfl) (by kernel_rfl) (fun _ _ _ h => h) (Or.inl ⟨by rfl, ?_⟩) (by assumption) ?_
                    rotate_left
                    · (intro w hSw; (try dsimp only at hSw); go_simp <;> with_reducible rfl)
                    try simp only [List.getElem_toArray, List.getElem_cons_succ, List.getElem_cons_zero, Act.put, List.setIfInBounds_toArray, List.set_cons_zero, List.set_cons_succ]
                    refine wpAnyH_take (i := 1) (oi := _) (v := ?_) rfl (by kernel_rfl) (by kernel_rfl) (by kernel_rfl) (fun _ _ _ h => h) (Or.inl ⟨by rfl, ?_⟩) (by assumption) ?_
                    rotate_left
                    · (intro w hSw; (try dsimp only at hSw); go_simp <;> with_reducible rfl)
                    try simp only [List.getElem_toArray, List.getElem_cons_succ, List.getElem_cons_zero, Act.put, List.setIfInBounds_toArray, List.set_cons_zero, List.set_cons_succ]
                    refine wpAnyH_take (i := 2) (oi := _) (v := ?_) rfl (by kernel_rfl) (by kernel_rfl) (by kernel_rfl) (fun _ _ _ h => h) (Or.inl ⟨by rfl, ?_⟩) (by assumption) ?_
                    rotate_left
                    · (intro w hSw; (try dsimp only at hSw); go_simp <;> with_reducible rfl)
                    try simp only [List.getElem_toArray, List.getElem_cons_succ, List.getElem_cons_zero, Act.put, List.setIfInBounds_toArray, List.set_cons_zero, List.set_cons_succ]
                    refine wpAnyH_take (i := 3) (oi := _) (v := ?_) rfl (by kernel_rfl) (by kernel_rfl) (by kernel_rfl) (fun _ _ _ h => h) (Or.inl ⟨by rfl, ?_⟩) (by assumption) ?_
                    rotate_left
                    · (intro w hSw; (try dsimp only at hSw); go_simp <;> with_reducible rfl)
                    try simp only [List.getElem_toArray, List.getElem_cons_succ, List.getElem_cons_zero, Act.put, List.setIfInBounds_toArray, List.set_cons_zero, List.set_cons_succ]
                    refine wpAnyH_take (i := 4) (oi := _) (v := ?_) rfl (by kernel_rfl) (by kernel_rfl) (by kernel_rfl) (fun _ _ _ h => h) (Or.inl ⟨by rfl, ?_⟩) (by assumption) ?_
                    rotate_left
                    · (intro w hSw; (try dsimp only at hSw); go_simp <;> with_reducible rfl)
                    try simp only [List.getElem_toArray, List.getElem_cons_succ, List.getElem_cons_zero, Act.put, List.setIfInBounds_toArray, List.set_cons_zero, List.set_cons_succ]
                    refine wpAnyH_take (i := 5) (oi := _) (v := ?_) rfl (by kernel_rfl) (by kernel_rfl) (by kernel_rfl) (fun _ _ _ h => h) (Or.inl ⟨by rfl, ?_⟩) (by assumption) ?_
                    rotate_left
                    · (intro w hSw; (try dsimp only at hSw); go_simp <;> with_reducible rfl)
                    try simp only [List.getElem_toArray, List.getElem_cons_succ, List.getElem_cons_zero, Act.put, List.setIfInBounds_toArray, List.set_cons_zero, List.set_cons_succ]
                    refine wpAnyH_ready (rs := [6]) (by kernel_rfl) (by simp) ?_
                    refine AllReadyH.cons (o := _) rfl (fun K hK => ?_) AllReadyH.nil
                    go_simp
                    (go_at_call 33; (with_reducible refine (types_n_is HSfd HSgd HXd HNf HNg D5).mono ?_); rintro e w5 ⟨rfl, hb⟩; have HX := Lib.hid (HXd.out.trans (hb.mono HXd.out.size)); have HB45 := Lib.hid (HB4d.out.trans (hb.mono HB4d.out.size)); have hb0 := (HFB.out.keep HB45.out HFZ4.out) 0 _ rfl; have hb2 := (HFB.out.keep HB45.out HFZ4.out) 2 _ rfl; have hb3 := (HFB.out.keep HB45.out HFZ4.out) 3 _ rfl; have hg0 := (HGB.out.keep HB45.out HGZ4.out) 0 _ rfl; have hg2 := (HGB.out.keep HB45.out HGZ4.out) 2 _ rfl; have hg3 := (HGB.out.keep HB45.out HGZ4.out) 3 _ rfl; clear hb)
                    refine hK.out _ _ ⟨hb0, hb2, hb3, hg0, hg2, hg3⟩ (fun hHeld => ?_)
                    clear hK K
                    try simp only [List.getElem_toArray, List.getElem_cons_succ, List.getElem_cons_zero, Act.put, List.setIfInBounds_toArray, List.set_cons_zero, List.set_cons_succ]
                    refine wpAnyH_take (i := 7) (oi := _) (v := ?_) rfl (by kernel_rfl) (by kernel_rfl) (by kernel_rfl) (fun _ _ _ h => h) (Or.inl ⟨by rfl, ?_⟩) (by assumption) ?_
                    rotate_left
                    · (intro w hSw; (try dsimp only at hSw); go_simp <;> with_reducible rfl)
                    try simp only [List.getElem_toArray, List.getElem_cons_succ, List.getElem_cons_zero, Act.put, List.setIfInBounds_toArray, List.set_cons_zero, List.set_cons_succ]
                    refine wpAnyH_take (i := 8) (oi := _) (v := ?_) rfl (by kernel_rfl) (by kernel_rfl) (by kernel_rfl) (fun _ _ _ h => h) (Or.inl ⟨by rfl, ?_⟩) (by assumption) ?_
                    rotate_left
                    · (intro w hSw; (try dsimp only at hSw); go_simp <;> with_reducible rfl)
                    try simp only [List.getElem_toArray, List.getElem_cons_succ, List.getElem_cons_zero, Act.put, List.setIfInBounds_toArray, List.set_cons_zero, List.set_cons_succ]
                    refine wpAnyH_take (i := 9) (oi := _) (v := undef) rfl (by kernel_rfl) (by kernel_rfl) (by kernel_rfl) (fun _ _ _ h => h) (Or.inr ⟨by rfl, rfl⟩) (by assumption) ?_
                    try simp only [List.getElem_toArray, List.getElem_cons_succ, List.getElem_cons_zero, Act.put, List.setIfInBounds_toArray, List.set_cons_zero, List.set_cons_succ]
                    refine wpAnyH_take (i := 10) (oi := _) (v := undef) rfl (by kernel_rfl) (by kernel_rfl) (by kernel_rfl) (fun _ _ _ h => h) (Or.inr ⟨by rfl, rfl⟩) (by assumption) ?_
                    try simp only [List.getElem_toArray, List.getElem_cons_succ, List.getElem_cons_zero, Act.put, List.setIfInBounds_toArray, List.set_cons_zero, List.set_cons_succ]
                    refine wpAnyH_take (i := 11) (oi := _) (v := undef) rfl (by kernel_rfl) (by kernel_rfl) (by kernel_rfl) (fun _ _ _ h => h) (Or.inr ⟨by rfl, rfl⟩) (by assumption) ?_
                    try simp only [List.getElem_toArray, List.getElem_cons_succ, List.getElem_cons_zero, Act.put, List.setIfInBounds_toArray, List.set_cons_zero, List.set_cons_succ]
                    refine wpAnyH_take (i := 12) (oi := _) (v := undef) rfl (by kernel_rfl) (by kernel_rfl) (by kernel_rfl) (fun _ _ _ h => h) (Or.inr ⟨by rfl, rfl⟩) (by assumption) ?_
                    try simp only [List.getElem_toArray, List.getElem_cons_succ, List.getElem_cons_zero, Act.put, List.setIfInBounds_toArray, List.set_cons_zero, List.set_cons_succ]
                    refine wpAnyH_take (i := 13) (oi := _) (v := undef) rfl (by kernel_rfl) (by kernel_rfl) (by kernel_rfl) (fun _ _ _ h => h) (Or.inr ⟨by rfl, rfl⟩) (by assumption) ?_
                    try simp only [List.getElem_toArray, List.getElem_cons_succ, List.getElem_cons_zero, Act.put, List.setIfInBounds_toArray, List.set_cons_zero, List.set_cons_succ]
                    refine wpAnyH_take (i := 14) (oi := _) (v := ?_) rfl (by kernel_rfl) (by kernel_rfl) (by kernel_rfl) (fun _ _ _ h => h) (Or.inl ⟨by rfl, ?_⟩) (by assumption) ?_
                    rotate_left
                    · (intro w hSw; (try dsimp only at hSw); go_simp <;> with_reducible rfl)
                    try simp only [List.getElem_toArray, List.getElem_cons_succ, List.getElem_cons_zero, Act.put, List.setIfInBounds_toArray, List.set_cons_zero, List.set_cons_succ]
                    refine wpAnyH_done (by kernel_rfl) ?_ _
                    refine NoPanic.normal ?_
                    go_wp2_with fail
                    go_ret
                    exact ⟨by rw [E2.out]; rfl, HW.out.trans (HX.out.mono HZw.out)⟩
                  · by_cases hret : fr0 = gr0 ∧ fr1 = gr1
                    · obtain ⟨rfl, rfl⟩ := hret
                      have SL := Lib.hid (SL0.out.trans (by rw [D5.out, decide_eq_true (rfl : (fr0, fr1) = (fr0, fr1))] <;> rfl))
                      have HK2 := Lib.hid (HKK.out.trans (by rw [SL.out, Bool.true_and]))
                      go_region_held3 (fun w' => w'.cell? ⟨gf, 0, none⟩ = some (.slice (some adt) fa.length 1) ∧ w'.cell? ⟨gf, 2, none⟩ = some (.int .i64 fr0) ∧ w'.cell? ⟨gf, 3, none⟩ = some (.int .i64 fr1) ∧ w'.cell? ⟨gg, 0, none⟩ = some (.slice (some adg) ga.length 1) ∧ w'.cell? ⟨gg, 2, none⟩ = some (.int .i64 fr0) ∧ w'.cell? ⟨gg, 3, none⟩ = some (.int .i64 fr1)) (first | exact ⟨hb0, hb2, hb3, hg0, hg2, hg3⟩) (first | (go_at_call 33; (with_reducible refine (types_n_is HSfd HSgd HXd HNf HNg D5).mono ?_); rintro e w5 ⟨rfl, hb⟩; have HX := Lib.hid (HXd.out.trans (hb.mono HXd.out.size)); have HB45 := Lib.hid (HB4d.out.trans (hb.mono HB4d.out.size)); have hb0 := (HFB.out.keep HB45.out HFZ4.out) 0 _ rfl; have hb2 := (HFB.out.keep HB45.out HFZ4.out) 2 _ rfl; have hb3 := (HFB.out.keep HB45.out HFZ4.out) 3 _ rfl; have hg0 := (HGB.out.keep HB45.out HGZ4.out) 0 _ rfl; have hg2 := (HGB.out.keep HB45.out HGZ4.out) 2 _ rfl; have hg3 := (HGB.out.keep HB45.out HGZ4.out) 3 _ rfl; clear hb))
                      go_wp2_with fail
                      go_roundw
                      case rel => exact ⟨k + 1, by omega, by go_num, HK2, HX⟩
                      case measure => simp [intOf]; omega
                    · have SL := Lib.hid (SL0.out.trans (by rw [D5.out, decide_eq_false (show ¬ (fr0, fr1) = (gr0, gr1) by simpa using hret)] <;> rfl))
                      have E2 := Lib.hid (show classB m (i : Int) x = false by unfold classB; rw [HAB.out, HKK.out, SL.out]; simp)
                      have hxx : ¬ fr0 = gr0 ∨ (fr0 = gr0 ∧ ¬ fr1 = gr1) := by omega
                      clear hret
                      rcases hxx with hxx | ⟨rfl, hxx⟩
                      · go_region_held3 (fun w' => w'.cell? ⟨gf, 0, none⟩ = some (.slice (some adt) fa.length 1) ∧ w'.cell? ⟨gf, 2, none⟩ = some (.int .i64 fr0) ∧ w'.cell? ⟨gf, 3, none⟩ = some (.int .i64 fr1) ∧ w'.cell? ⟨gg, 0, none⟩ = some (.slice (some adg) ga.length 1) ∧ w'.cell? ⟨gg, 2, none⟩ = some (.int .i64 gr0) ∧ w'.cell? ⟨gg, 3, none⟩ = some (.int .i64 gr1)) (first | exact ⟨hb0, hb2, hb3, hg0, hg2, hg3⟩) (first | (go_at_call 33; (with_reducible refine (types_n_is HSfd HSgd HXd HNf HNg D5).mono ?_); rintro e w5 ⟨rfl, hb⟩; have HX := Lib.hid (HXd.out.trans (hb.mono HXd.out.size)); have HB45 := Lib.hid (HB4d.out.trans (hb.mono HB4d.out.size)); have hb0 := (HFB.out.keep HB45.out HFZ4.out) 0 _ rfl; have hb2 := (HFB.out.keep HB45.out HFZ4.out) 2 _ rfl; have hb3 := (HFB.out.keep HB45.out HFZ4.out) 3 _ rfl; have hg0 := (HGB.out.keep HB45.out HGZ4.out) 0 _ rfl; have hg2 := (HGB.out.keep HB45.out HGZ4.out) 2 _ rfl; have hg3 := (HGB.out.keep HB45.out HGZ4.out) 3 _ rfl; clear hb))
                        go_wp2_with fail
                        go_ret
                        exact ⟨by rw [E2.out]; rfl, HW.out.trans (HX.out.mono HZw.out)⟩
                      · go_region_held3 (fun w' => w'.cell? ⟨gf, 0, none⟩ = some (.slice (some adt) fa.length 1) ∧ w'.cell? ⟨gf, 2, none⟩ = some (.int .i64 fr0) ∧ w'.cell? ⟨gf, 3, none⟩ = some (.int .i64 fr1) ∧ w'.cell? ⟨gg, 0, none⟩ = some (.slice (some adg) ga.length 1) ∧ w'.cell? ⟨gg, 2, none⟩ = some (.int .i64 fr0) ∧ w'.cell? ⟨gg, 3, none⟩ = some (.int .i64 gr1)) (first | exact ⟨hb0, hb2, hb3, hg0, hg2, hg3⟩) (first | (go_at_call 33; (with_reducible refine (types_n_is HSfd HSgd HXd HNf HNg D5).mono ?_); rintro e w5 ⟨rfl, hb⟩; have HX := Lib.hid (HXd.out.trans (hb.mono HXd.out.size)); have HB45 := Lib.hid (HB4d.out.trans (hb.mono HB4d.out.size)); have hb0 := (HFB.out.keep HB45.out HFZ4.out) 0 _ rfl; have hb2 := (HFB.out.keep HB45.out HFZ4.out) 2 _ rfl; have hb3 := (HFB.out.keep HB45.out HFZ4.out) 3 _ rfl; have hg0 := (HGB.out.keep HB45.out HGZ4.out) 0 _ rfl; have hg2 := (HGB.out.keep HB45.out HGZ4.out) 2 _ rfl; have hg3 := (HGB.out.keep HB45.out HGZ4.out) 3 _ rfl; clear hb))
                        go_wp2_with fail
                        go_ret
                        exact ⟨by rw [E2.out]; rfl, HW.out.trans (HX.out.mono HZw.out)⟩
                · have HSgd := Lib.hid (slc_drop HSga.out hgp)
                  have HNf : Hid ((fa.drop 1).length = 0) := Lib.hid (by rw [List.length_drop]; omega)
                  have HNg : Hid ((ga.drop 1).length = ga.length - 1) := Lib.hid List.length_drop
                  cases d5
                  · have SL := Lib.hid (SL0.out.trans (by rw [D5.out] <;> rfl))
                    have E2 := Lib.hid (show classB m (i : Int) x = false by unfold classB; rw [HAB.out, HKK.out, SL.out]; simp)
                    refine wp_region_noPanic ?_
                    refine wp_region_held_drew (S := (fun w' => w'.cell? ⟨gf, 0, none⟩ = some (.slice (some adt) fa.length 1) ∧ w'.cell? ⟨gf, 2, none⟩ = some (.int .i64 fr0) ∧ w'.cell? ⟨gf, 3, none⟩ = some (.int .i64 fr1) ∧ w'.cell? ⟨gg, 0, none⟩ = some (.slice (some adg) ga.length i0) ∧ w'.cell? ⟨gg, 2, none⟩ = some (.int .i64 gr0) ∧ w'.cell? ⟨gg, 3, none⟩ = some (.int .i64 gr1))) (by kernel_rfl) ⟨hb0, hb2, hb3, hg0, hg2, hg3⟩ (fun hHeld => ?_)
                    refine wpAnyH_take (i := 0) (oi := _) (v := ?_) rfl (by kernel_rfl) (by kernel_rfl) (by kernel_rfl) (fun _ _ _ h => h) (Or.inl ⟨by rfl, ?_⟩) (by assumption) ?_
                    rotate_left
                    · (intro w hSw; (try dsimp only at hSw); go_simp <;> with_reducible rfl)
                    try simp only [List.getElem_toArray, List.getElem_cons_succ, List.getElem_cons_zero, Act.put, List.setIfInBounds_toArray, List.set_cons_zero, List.set_cons_succ]
                    refine wpAnyH_take (i := 1) (oi := _) (v := ?_) rfl (by kernel_rfl) (by kernel_rfl) (by kernel_rfl) (fun _ _ _ h => h) (Or.inl ⟨by rfl, ?_⟩) (by assumption) ?_
                    rotate_left
                    · (intro w hSw; (try dsimp only at hSw); go_simp <;> with_reducible rfl)
                    try simp only [List.getElem_toArray, List.getElem_cons_succ, List.getElem_cons_zero, Act.put, List.setIfInBounds_toArray, List.set_cons_zero, List.set_cons_succ]
                    refine wpAnyH_take (i := 2) (oi := _) (v := ?_) rfl (by kernel_rfl) (by kernel_rfl) (by kernel_rfl) (fun _ _ _ h => h) (Or.inl ⟨by rfl, ?_⟩) (by assumption) ?_
                    rotate_left
                    · (intro w hSw; (try dsimp only at hSw); go_simp <;> with_reducible rfl)
                    try simp only [List.getElem_toArray, List.getElem_cons_succ, List.getElem_cons_zero, Act.put, List.setIfInBounds_toArray, List.set_cons_zero, List.set_cons_succ]
                    refine wpAnyH_take (i := 3) (oi := _) (v := ?_) rfl (by kernel_rfl) (by kernel_rfl) (by kernel_rfl) (fun _ _ _ h => h) (Or.inl ⟨by rfl, ?_⟩) (by assumption) ?_
                    rotate_left
                    · (intro w hSw; (try dsimp only at hSw); go_simp <;> with_reducible rfl)
                    try simp only [List.getElem_toArray, List.getElem_cons_succ, List.getElem_cons_zero, Act.put, List.setIfInBounds_toArray, List.set_cons_zero, List.set_cons_succ]
                    refine wpAnyH_take (i := 4) (oi := _) (v := ?_) rfl (by kernel_rfl) (by kernel_rfl) (by kernel_rfl) (fun _ _ _ h => h) (Or.inl ⟨by rfl, ?_⟩) (by assumption) ?_
                    rotate_left
                    · (intro w hSw; (try dsimp only at hSw); go_simp <;> with_reducible rfl)
                    try simp only [List.getElem_toArray, List.getElem_cons_succ, List.getElem_cons_zero, Act.put, List.setIfInBounds_toArray, List.set_cons_zero, List.set_cons_succ]
                    refine wpAnyH_take (i := 5) (oi := _) (v := ?_) rfl (by kernel_rfl) (by kernel_rfl) (by kernel_rfl) (fun _ _ _ h => h) (Or.inl ⟨by rfl, ?_⟩) (by assumption) ?_
                    rotate_left
                    · (intro w hSw; (try dsimp only at hSw); go_simp <;> with_reducible rfl)
                    try simp only [List.getElem_toArray, List.getElem_cons_succ, List.getElem_cons_zero, Act.put, List.setIfInBounds_toArray, List.set_cons_zero, List.set_cons_succ]
                    refine wpAnyH_ready (rs := [6]) (by kernel_rfl) (by simp) ?_
                    refine AllReadyH.cons (o := _) rfl (fun K hK => ?_) AllReadyH.nil
                    go_simp
                    (go_at_call 33; (with_reducible refine (types_n_is HSfd HSgd HXd HNf HNg D5).mono ?_); rintro e w5 ⟨rfl, hb⟩; have HX := Lib.hid (HXd.out.trans (hb.mono HXd.out.size)); have HB45 := Lib.hid (HB4d.out.trans (hb.mono HB4d.out.size)); have hb0 := (HFB.out.keep HB45.out HFZ4.out) 0 _ rfl; have hb2 := (HFB.out.keep HB45.out HFZ4.out) 2 _ rfl; have hb3 := (HFB.out.keep HB45.out HFZ4.out) 3 _ rfl; have hg0 := (HGB.out.keep HB45.out HGZ4.out) 0 _ rfl; have hg2 := (HGB.out.keep HB45.out HGZ4.out) 2 _ rfl; have hg3 := (HGB.out.keep HB45.out HGZ4.out) 3 _ rfl; clear hb)
                    refine hK.out _ _ ⟨hb0, hb2, hb3, hg0, hg2, hg3⟩ (fun hHeld => ?_)
                    clear hK K
                    try simp only [List.getElem_toArray, List.getElem_cons_succ, List.getElem_cons_zero, Act.put, List.setIfInBounds_toArray, List.set_cons_zero, List.set_cons_succ]
                    refine wpAnyH_take (i := 7) (oi := _) (v := ?_) rfl (by kernel_rfl) (by kernel_rfl) (by kernel_rfl) (fun _ _ _ h => h) (Or.inl ⟨by rfl, ?_⟩) (by assumption) ?_
                    rotate_left
                    · (intro w hSw; (try dsimp only at hSw); go_simp <;> with_reducible rfl)
                    try simp only [List.getElem_toArray, List.getElem_cons_succ, List.getElem_cons_zero, Act.put, List.setIfInBounds_toArray, List.set_cons_zero, List.set_cons_succ]
                    refine wpAnyH_take (i := 8) (oi := _) (v := ?_) rfl (by kernel_rfl) (by kernel_rfl) (by kernel_rfl) (fun _ _ _ h => h) (Or.inl ⟨by rfl, ?_⟩) (by assumption) ?_
                    rotate_left
                    · (intro w hSw; (try dsimp only at hSw); go_simp <;> with_reducible rfl)
                    try simp only [List.getElem_toArray, List.getElem_cons_succ, List.getElem_cons_zero, Act.put, List.setIfInBounds_toArray, List.set_cons_zero, List.set_cons_succ]
                    refine wpAnyH_take (i := 9) (oi := _) (v := undef) rfl (by kernel_rfl) (by kernel_rfl) (by kernel_rfl) (fun _ _ _ h => h) (Or.inr ⟨by rfl, rfl⟩) (by assumption) ?_
                    try simp only [List.getElem_toArray, List.getElem_cons_succ, List.getElem_cons_zero, Act.put, List.setIfInBounds_toArray, List.set_cons_zero, List.set_cons_succ]
                    refine wpAnyH_take (i := 10) (oi := _) (v := undef) rfl (by kernel_rfl) (by kernel_rfl) (by kernel_rfl) (fun _ _ _ h => h) (Or.inr ⟨by rfl, rfl⟩) (by assumption) ?_
                    try simp only [List.getElem_toArray, List.getElem_cons_succ, List.getElem_cons_zero, Act.put, List.setIfInBounds_toArray, List.set_cons_zero, List.set_cons_succ]
                    refine wpAnyH_take (i := 11) (oi := _) (v := undef) rfl (by kernel_rfl) (by kernel_rfl) (by kernel_rfl) (fun _ _ _ h => h) (Or.inr ⟨by rfl, rfl⟩) (by assumption) ?_
                    try simp only [List.getElem_toArray, List.getElem_cons_succ, List.getElem_cons_zero, Act.put, List.setIfInBounds_toArray, List.set_cons_zero, List.set_cons_succ]
                    refine wpAnyH_take (i := 12) (oi := _) (v := undef) rfl (by kernel_rfl) (by kernel_rfl) (by kernel_rfl) (fun _ _ _ h => h) (Or.inr ⟨by rfl, rfl⟩) (by assumption) ?_
                    try simp only [List.getElem_toArray, List.getElem_cons_succ, List.getElem_cons_zero, Act.put, List.setIfInBounds_toArray, List.set_cons_zero, List.set_cons_succ]
                    refine wpAnyH_take (i := 13) (oi := _) (v := undef) rfl (by kernel_rfl) (by kernel_rfl) (by kernel_rfl) (fun _ _ _ h => h) (Or.inr ⟨by rfl, rfl⟩) (by assumption) ?_
                    try simp only [List.getElem_toArray, List.getElem_cons_succ, List.getElem_cons_zero, Act.put, List.setIfInBounds_toArray, List.set_cons_zero, List.set_cons_succ]
                    refine wpAnyH_take (i := 14) (oi := _) (v := ?_) rfl (by kernel_rfl) (by kernel_rfl) (by kernel_rfl) (fun _ _ _ h => h) (Or.inl ⟨by rfl, ?_⟩) (by assumption) ?_
                    rotate_left
                    · (intro w hSw; (try dsimp only at hSw); go_simp <;> with_reducible rfl)
                    try simp only [List.getElem_toArray, List.getElem_cons_succ, List.getElem_cons_zero, Act.put, List.setIfInBounds_toArray, List.set_cons_zero, List.set_cons_succ]
                    refine wpAnyH_done (by kernel_rfl) ?_ _
                    refine NoPanic.normal ?_
                    go_wp2_with fail
                    go_ret
                    exact ⟨by rw [E2.out]; rfl, HW.out.trans (HX.out.mono HZw.out)⟩
                  · by_cases hret : fr0 = gr0 ∧ fr1 = gr1
                    · obtain ⟨rfl, rfl⟩ := hret
                      have SL := Lib.hid (SL0.out.trans (by rw [D5.out, decide_eq_true (rfl : (fr0, fr1) = (fr0, fr1))] <;> rfl))
                      have HK2 := Lib.hid (HKK.out.trans (by rw [SL.out, Bool.true_and]))
                      go_region_held3 (fun w' => w'.cell? ⟨gf, 0, none⟩ = some (.slice (some adt) fa.length 1) ∧ w'.cell? ⟨gf, 2, none⟩ = some (.int .i64 fr0) ∧ w'.cell? ⟨gf, 3, none⟩ = some (.int .i64 fr1) ∧ w'.cell? ⟨gg, 0, none⟩ = some (.slice (some adg) ga.length i0) ∧ w'.cell? ⟨gg, 2, none⟩ = some (.int .i64 fr0) ∧ w'.cell? ⟨gg, 3, none⟩ = some (.int .i64 fr1)) (first | exact ⟨hb0, hb2, hb3, hg0, hg2, hg3⟩) (first | (go_at_call 33; (with_reducible refine (types_n_is HSfd HSgd HXd HNf HNg D5).mono ?_); rintro e w5 ⟨rfl, hb⟩; have HX := Lib.hid (HXd.out.trans (hb.mono HXd.out.size)); have HB45 := Lib.hid (HB4d.out.trans (hb.mono HB4d.out.size)); have hb0 := (HFB.out.keep HB45.out HFZ4.out) 0 _ rfl; have hb2 := (HFB.out.keep HB45.out HFZ4.out) 2 _ rfl; have hb3 := (HFB.out.keep HB45.out HFZ4.out) 3 _ rfl; have hg0 := (HGB.out.keep HB45.out HGZ4.out) 0 _ rfl; have hg2 := (HGB.out.keep HB45.out HGZ4.out) 2 _ rfl; have hg3 := (HGB.out.keep HB45.out HGZ4.out) 3 _ rfl; clear hb))
                      go_wp2_with fail
                      go_roundw
                      case rel => exact ⟨k + 1, by omega, by go_num, HK2, HX⟩
                      case measure => simp [intOf]; omega
                    · have SL := Lib.hid (SL0.out.trans (by rw [D5.out, decide_eq_false (show ¬ (fr0, fr1) = (gr0, gr1) by simpa using hret)] <;> rfl))
                      have E2 := Lib.hid (show classB m (i : Int) x = false by unfold classB; rw [HAB.out, HKK.out, SL.out]; simp)
                      have hxx : ¬ fr0 = gr0 ∨ (fr0 = gr0 ∧ ¬ fr1 = gr1) := by omega
                      clear hret
                      rcases hxx with hxx | ⟨rfl, hxx⟩
                      · go_region_held3 (fun w' => w'.cell? ⟨gf, 0, none⟩ = some (.slice (some adt) fa.length 1) ∧ w'.cell? ⟨gf, 2, none⟩ = some (.int .i64 fr0) ∧ w'.cell? ⟨gf, 3, none⟩ = some (.int .i64 fr1) ∧ w'.cell? ⟨gg, 0, none⟩ = some (.slice (some adg) ga.length i0) ∧ w'.cell? ⟨gg, 2, none⟩ = some (.int .i64 gr0) ∧ w'.cell? ⟨gg, 3, none⟩ = some (.int .i64 gr1)) (first | exact ⟨hb0, hb2, hb3, hg0, hg2, hg3⟩) (first | (go_at_call 33; (with_reducible refine (types_n_is HSfd HSgd HXd HNf HNg D5).mono ?_); rintro e w5 ⟨rfl, hb⟩; have HX := Lib.hid (HXd.out.trans (hb.mono HXd.out.size)); have HB45 := Lib.hid (HB4d.out.trans (hb.mono HB4d.out.size)); have hb0 := (HFB.out.keep HB45.out HFZ4.out) 0 _ rfl; have hb2 := (HFB.out.keep HB45.out HFZ4.out) 2 _ rfl; have hb3 := (HFB.out.keep HB45.out HFZ4.out) 3 _ rfl; have hg0 := (HGB.out.keep HB45.out HGZ4.out) 0 _ rfl; have hg2 := (HGB.out.keep HB45.out HGZ4.out) 2 _ rfl; have hg3 := (HGB.out.keep HB45.out HGZ4.out) 3 _ rfl; clear hb))
                        go_wp2_with fail
                        go_ret
                        exact ⟨by rw [E2.out]; rfl, HW.out.trans (HX.out.mono HZw.out)⟩
                      · go_region_held3 (fun w' => w'.cell? ⟨gf, 0, none⟩ = some (.slice (some adt) fa.length 1) ∧ w'.cell? ⟨gf, 2, none⟩ = some (.int .i64 fr0) ∧ w'.cell? ⟨gf, 3, none⟩ = some (.int .i64 fr1) ∧ w'.cell? ⟨gg, 0, none⟩ = some (.slice (some adg) ga.length i0) ∧ w'.cell? ⟨gg, 2, none⟩ = some (.int .i64 fr0) ∧ w'.cell? ⟨gg, 3, none⟩ = some (.int .i64 gr1)) (first | exact ⟨hb0, hb2, hb3, hg0, hg2, hg3⟩) (first | (go_at_call 33; (with_reducible refine (types_n_is HSfd HSgd HXd HNf HNg D5).mono ?_); rintro e w5 ⟨rfl, hb⟩; have HX := Lib.hid (HXd.out.trans (hb.mono HXd.out.size)); have HB45 := Lib.hid (HB4d.out.trans (hb.mono HB4d.out.size)); have hb0 := (HFB.out.keep HB45.out HFZ4.out) 0 _ rfl; have hb2 := (HFB.out.keep HB45.out HFZ4.out) 2 _ rfl; have hb3 := (HFB.out.keep HB45.out HFZ4.out) 3 _ rfl; have hg0 := (HGB.out.keep HB45.out HGZ4.out) 0 _ rfl; have hg2 := (HGB.out.keep HB45.out HGZ4.out) 2 _ rfl; have hg3 := (HGB.out.keep HB45.out HGZ4.out) 3 _ rfl; clear hb))
                        go_wp2_with fail
                        go_ret
                        exact ⟨by rw [E2.out]; rfl, HW.out.trans (HX.out.mono HZw.out)⟩
              · have HSfd := Lib.hid (slc_drop HSfa.out hfp)
                by_cases hi1 : i0 = 1
                · subst hi1
                  have HSgd := Lib.hid (slc_drop1 HSga.out hgp)
                  have HNf : Hid ((fa.drop 1).length = fa.length - 1) := Lib.hid List.length_drop
                  have HNg : Hid ((ga.drop 1).length = 0) := Lib.hid (by rw [List.length_drop]; omega)
                  cases d5
                  · have SL := Lib.hid (SL0.out.trans (by rw [D5.out] <;> rfl))
                    have E2 := Lib.hid (show classB m (i : Int) x = false by unfold classB; rw [HAB.out, HKK.out, SL.out]; simp)
                    refine wp_region_noPanic ?_
                    refine wp_region_held_drew (S := (fun w' => w'.cell? ⟨gf, 0, none⟩ = some (.slice (some adt) fa.length j0) ∧ w'.cell? ⟨gf, 2, none⟩ = some (.int .i64 fr0) ∧ w'.cell? ⟨gf, 3, none⟩ = some (.int .i64 fr1) ∧ w'.cell? ⟨gg, 0, none⟩ = some (.slice (some adg) ga.length 1) ∧ w'.cell? ⟨gg, 2, none⟩ = some (.int .i64 gr0) ∧ w'.cell? ⟨gg, 3, none⟩ = some (.int .i64 gr1))) (by kernel_rfl) ⟨hb0, hb2, hb3, hg0, hg2, hg3⟩ (fun hHeld => ?_)
                    refine wpAnyH_take (i := 0) (oi := _) (v := ?_) rfl (by kernel_rfl) (by kernel_rfl) (by kernel_rfl) (fun _ _ _ h => h) (Or.inl ⟨by rfl, ?_⟩) (by assumption) ?_
                    rotate_left
                    · (intro w hSw; (try dsimp only at hSw); go_simp <;> with_reducible rfl)
                    try simp only [List.getElem_toArray, List.getElem_cons_succ, List.getElem_cons_zero, Act.put, List.setIfInBounds_toArray, List.set_cons_zero, List.set_cons_succ]
                    refine wpAnyH_take (i := 1) (oi := _) (v := ?_) rfl (by kernel_rfl) (by kernel_rfl) (by kernel_rfl) (fun _ _ _ h => h) (Or.inl ⟨by rfl, ?_⟩) (by assumption) ?_
                    rotate_left
                    · (intro w hSw; (try dsimp only at hSw); go_simp <;> with_reducible rfl)
                    try simp only [List.getElem_toArray, List.getElem_cons_succ, List.getElem_cons_zero, Act.put, List.setIfInBounds_toArray, List.set_cons_zero, List.set_cons_succ]
                    refine wpAnyH_take (i := 2) (oi := _) (v := ?_) rfl (by kernel_rfl) (by kernel_rfl) (by kernel_rfl) (fun _ _ _ h => h) (Or.inl ⟨by rfl, ?_⟩) (by assumption) ?_
                    rotate_left
                    · (intro w hSw; (try dsimp only at hSw); go_simp <;> with_reducible rfl)
                    try simp only [List.getElem_toArray, List.getElem_cons_succ, List.getElem_cons_zero, Act.put, List.setIfInBounds_toArray, List.set_cons_zero, List.set_cons_succ]
                    refine wpAnyH_take (i := 3) (oi := _) (v := ?_) rfl (by kernel_rfl) (by kernel_rfl) (by kernel_rfl) (fun _ _ _ h => h) (Or.inl ⟨by rfl, ?_⟩) (by assumption) ?_
                    rotate_left
                    · (intro w hSw; (try dsimp only at hSw); go_simp <;> with_reducible rfl)
                    try simp only [List.getElem_toArray, List.getElem_cons_succ, List.getElem_cons_zero, Act.put, List.setIfInBounds_toArray, List.set_cons_zero, List.set_cons_succ]
                    refine wpAnyH_take (i := 4) (oi := _) (v := ?_) rfl (by kernel_rfl) (by kernel_rfl) (by kernel_rfl) (fun _ _ _ h => h) (Or.inl ⟨by rfl, ?_⟩) (by assumption) ?_
                    rotate_left
                    · (intro w hSw; (try dsimp only at hSw); go_simp <;> with_reducible rfl)
                    try simp only [List.getElem_toArray, List.getElem_cons_succ, List.getElem_cons_zero, Act.put, List.setIfInBounds_toArray, List.set_cons_zero, List.set_cons_succ]
                    refine wpAnyH_take (i := 5) (oi := _) (v := ?_) rfl (by kernel_rfl) (by kernel_rfl) (by kernel_rfl) (fun _ _ _ h => h) (Or.inl ⟨by rfl, ?_⟩) (by assumption) ?_
                    rotate_left
                    · (intro w hSw; (try dsimp only at hSw); go_simp <;> with_reducible rfl)
                    try simp only [List.getElem_toArray, List.getElem_cons_succ, List.getElem_cons_zero, Act.put, List.setIfInBounds_toArray, List.set_cons_zero, List.set_cons_succ]
                    refine wpAnyH_ready (rs := [6]) (by kernel_rfl) (by simp) ?_
                    refine AllReadyH.cons (o := _) rfl (fun K hK => ?_) AllReadyH.nil
                    go_simp
                    (go_at_call 33; (with_reducible refine (types_n_is HSfd HSgd HXd HNf HNg D5).mono ?_); rintro e w5 ⟨rfl, hb⟩; have HX := Lib.hid (HXd.out.trans (hb.mono HXd.out.size)); have HB45 := Lib.hid (HB4d.out.trans (hb.mono HB4d.out.size)); have hb0 := (HFB.out.keep HB45.out HFZ4.out) 0 _ rfl; have hb2 := (HFB.out.keep HB45.out HFZ4.out) 2 _ rfl; have hb3 := (HFB.out.keep HB45.out HFZ4.out) 3 _ rfl; have hg0 := (HGB.out.keep HB45.out HGZ4.out) 0 _ rfl; have hg2 := (HGB.out.keep HB45.out HGZ4.out) 2 _ rfl; have hg3 := (HGB.out.keep HB45.out HGZ4.out) 3 _ rfl; clear hb)
                    refine hK.out _ _ ⟨hb0, hb2, hb3, hg0, hg2, hg3⟩ (fun hHeld => ?_)
                    clear hK K
                    try simp only [List.getElem_toArray, List.getElem_cons_succ, List.getElem_cons_zero, Act.put, List.setIfInBounds_toArray, List.set_cons_zero, List.set_cons_succ]
                    refine wpAnyH_take (i := 7) (oi := _) (v := ?_) rfl (by kernel_rfl) (by kernel_rfl) (by kernel_rfl) (fun _ _ _ h => h) (Or.inl ⟨by rfl, ?_⟩) (by assumption) ?_
                    rotate_left
                    · (intro w hSw; (try dsimp only at hSw); go_simp <;> with_reducible rfl)
                    try simp only [List.getElem_toArray, List.getElem_cons_succ, List.getElem_cons_zero, Act.put, List.setIfInBounds_toArray, List.set_cons_zero, List.set_cons_succ]
                    refine wpAnyH_take (i := 8) (oi := _) (v := ?_) rfl (by kernel_rfl) (by kernel_rfl) (by kernel_rfl) (fun _ _ _ h => h) (Or.inl ⟨by rfl, ?_⟩) (by assumption) ?_
                    rotate_left
                    · (intro w hSw; (try dsimp only at hSw); go_simp <;> with_reducible rfl)
                    try simp only [List.getElem_toArray, List.getElem_cons_succ, List.getElem_cons_zero, Act.put, List.setIfInBounds_toArray, List.set_cons_zero, List.set_cons_succ]
                    refine wpAnyH_take (i := 9) (oi := _) (v := undef) rfl (by kernel_rfl) (by kernel_rfl) (by kernel_rfl) (fun _ _ _ h => h) (Or.inr ⟨by rfl, rfl⟩) (by assumption) ?_
                    try simp only [List.getElem_toArray, List.getElem_cons_succ, List.getElem_cons_zero, Act.put, List.setIfInBounds_toArray, List.set_cons_zero, List.set_cons_succ]
                    refine wpAnyH_take (i := 10) (oi := _) (v := undef) rfl (by kernel_rfl) (by kernel_rfl) (by kernel_rfl) (fun _ _ _ h => h) (Or.inr ⟨by rfl, rfl⟩) (by assumption) ?_
                    try simp only [List.getElem_toArray, List.getElem_cons_succ, List.getElem_cons_zero, Act.put, List.setIfInBounds_toArray, List.set_cons_zero, List.set_cons_succ]
                    refine wpAnyH_take (i := 11) (oi := _) (v := undef) rfl (by kernel_rfl) (by kernel_rfl) (by kernel_rfl) (fun _ _ _ h => h) (Or.inr ⟨by rfl, rfl⟩) (by assumption) ?_
                    try simp only [List.getElem_toArray, List.getElem_cons_succ, List.getElem_cons_zero, Act.put, List.setIfInBounds_toArray, List.set_cons_zero, List.set_cons_succ]
                    refine wpAnyH_take (i := 12) (oi := _) (v := undef) rfl (by kernel_rfl) (by kernel_rfl) (by kernel_rfl) (fun _ _ _ h => h) (Or.inr ⟨by rfl, rfl⟩) (by assumption) ?_
                    try simp only [List.getElem_toArray, List.getElem_cons_succ, List.getElem_cons_zero, Act.put, List.setIfInBounds_toArray, List.set_cons_zero, List.set_cons_succ]
                    refine wpAnyH_take (i := 13) (oi := _) (v := undef) rfl (by kernel_rfl) (by kernel_rfl) (by kernel_rfl) (fun _ _ _ h => h) (Or.inr ⟨by rfl, rfl⟩) (by assumption) ?_
                    try simp only [List.getElem_toArray, List.getElem_cons_succ, List.getElem_cons_zero, Act.put, List.setIfInBounds_toArray, List.set_cons_zero, List.set_cons_succ]
                    refine wpAnyH_take (i := 14) (oi := _) (v := ?_) rfl (by kernel_rfl) (by kernel_rfl) (by kernel_rfl) (fun _ _ _ h => h) (Or.inl ⟨by rfl, ?_⟩) (by assumption) ?_
                    rotate_left
                    · (intro w hSw; (try dsimp only at hSw); go_simp <;> with_reducible rfl)
                    try simp only [List.getElem_toArray, List.getElem_cons_succ, List.getElem_cons_zero, Act.put, List.setIfInBounds_toArray, List.set_cons_zero, List.set_cons_succ]
                    refine wpAnyH_done (by kernel_rfl) ?_ _
                    refine NoPanic.normal ?_
                    go_wp2_with fail
                    go_ret
                    exact ⟨by rw [E2.out]; rfl, HW.out.trans (HX.out.mono HZw.out)⟩
                  · by_cases hret : fr0 = gr0 ∧ fr1 = gr1
                    · obtain ⟨rfl, rfl⟩ := hret
                      have SL := Lib.hid (SL0.out.trans (by rw [D5.out, decide_eq_true (rfl : (fr0, fr1) = (fr0, fr1))] <;> rfl))
                      have HK2 := Lib.hid (HKK.out.trans (by rw [SL.out, Bool.true_and]))
                      go_region_held3 (fun w' => w'.cell? ⟨gf, 0, none⟩ = some (.slice (some adt) fa.length j0) ∧ w'.cell? ⟨gf, 2, none⟩ = some (.int .i64 fr0) ∧ w'.cell? ⟨gf, 3, none⟩ = some (.int .i64 fr1) ∧ w'.cell? ⟨gg, 0, none⟩ = some (.slice (some adg) ga.length 1) ∧ w'.cell? ⟨gg, 2, none⟩ = some (.int .i64 fr0) ∧ w'.cell? ⟨gg, 3, none⟩ = some (.int .i64 fr1)) (first | exact ⟨hb0, hb2, hb3, hg0, hg2, hg3⟩) (first | (go_at_call 33; (with_reducible refine (types_n_is HSfd HSgd HXd HNf HNg D5).mono ?_); rintro e w5 ⟨rfl, hb⟩; have HX := Lib.hid (HXd.out.trans (hb.mono HXd.out.size)); have HB45 := Lib.hid (HB4d.out.trans (hb.mono HB4d.out.size)); have hb0 := (HFB.out.keep HB45.out HFZ4.out) 0 _ rfl; have hb2 := (HFB.out.keep HB45.out HFZ4.out) 2 _ rfl; have hb3 := (HFB.out.keep HB45.out HFZ4.out) 3 _ rfl; have hg0 := (HGB.out.keep HB45.out HGZ4.out) 0 _ rfl; have hg2 := (HGB.out.keep HB45.out HGZ4.out) 2 _ rfl; have hg3 := (HGB.out.keep HB45.out HGZ4.out) 3 _ rfl; clear hb))
                      go_wp2_with fail
                      go_roundw
                      case rel => exact ⟨k + 1, by omega, by go_num, HK2, HX⟩
                      case measure => simp [intOf]; omega
                    · have SL := Lib.hid (SL0.out.trans (by rw [D5.out, decide_eq_false (show ¬ (fr0, fr1) = (gr0, gr1) by simpa using hret)] <;> rfl))
                      have E2 := Lib.hid (show classB m (i : Int) x = false by unfold classB; rw [HAB.out, HKK.out, SL.out]; simp)
                      have hxx : ¬ fr0 = gr0 ∨ (fr0 = gr0 ∧ ¬ fr1 = gr1) := by omega
                      clear hret
                      rcases hxx with hxx | ⟨rfl, hxx⟩
                      · go_region_held3 (fun w' => w'.cell? ⟨gf, 0, none⟩ = some (.slice (some adt) fa.length j0) ∧ w'.cell? ⟨gf, 2, none⟩ = some (.int .i64 fr0) ∧ w'.cell? ⟨gf, 3, none⟩ = some (.int .i64 fr1) ∧ w'.cell? ⟨gg, 0, none⟩ = some (.slice (some adg) ga.length 1) ∧ w'.cell? ⟨gg, 2, none⟩ = some (.int .i64 gr0) ∧ w'.cell? ⟨gg, 3, none⟩ = some (.int .i64 gr1)) (first | exact ⟨hb0, hb2, hb3, hg0, hg2, hg3⟩) (first | (go_at_call 33; (with_reducible refine (types_n_is HSfd HSgd HXd HNf HNg D5).mono ?_); rintro e w5 ⟨rfl, hb⟩; have HX := Lib.hid (HXd.out.trans (hb.mono HXd.out.size)); have HB45 := Lib.hid (HB4d.out.trans (hb.mono HB4d.out.size)); have hb0 := (HFB.out.keep HB45.out HFZ4.out) 0 _ rfl; have hb2 := (HFB.out.keep HB45.out HFZ4.out) 2 _ rfl; have hb3 := (HFB.out.keep HB45.out HFZ4.out) 3 _ rfl; have hg0 := (HGB.out.keep HB45.out HGZ4.out) 0 _ rfl; have hg2 := (HGB.out.keep HB45.out HGZ4.out) 2 _ rfl; have hg3 := (HGB.out.keep HB45.out HGZ4.out) 3 _ rfl; clear hb))
                        go_wp2_with fail
                        go_ret
                        exact ⟨by rw [E2.out]; rfl, HW.out.trans (HX.out.mono HZw.out)⟩
                      · go_region_held3 (fun w' => w'.cell? ⟨gf, 0, none⟩ = some (.slice (some adt) fa.length j0) ∧ w'.cell? ⟨gf, 2, none⟩ = some (.int .i64 fr0) ∧ w'.cell? ⟨gf, 3, none⟩ = some (.int .i64 fr1) ∧ w'.cell? ⟨gg, 0, none⟩ = some (.slice (some adg) ga.length 1) ∧ w'.cell? ⟨gg, 2, none⟩ = some (.int .i64 fr0) ∧ w'.cell? ⟨gg, 3, none⟩ = some (.int .i64 gr1)) (first | exact ⟨hb0, hb2, hb3, hg0, hg2, hg3⟩) (first | (go_at_call 33; (with_reducible refine (types_n_is HSfd HSgd HXd HNf HNg D5).mono ?_); rintro e w5 ⟨rfl, hb⟩; have HX := Lib.hid (HXd.out.trans (hb.mono HXd.out.size)); have HB45 := Lib.hid (HB4d.out.trans (hb.mono HB4d.out.size)); have hb0 := (HFB.out.keep HB45.out HFZ4.out) 0 _ rfl; have hb2 := (HFB.out.keep HB45.out HFZ4.out) 2 _ rfl; have hb3 := (HFB.out.keep HB45.out HFZ4.out) 3 _ rfl; have hg0 := (HGB.out.keep HB45.out HGZ4.out) 0 _ rfl; have hg2 := (HGB.out.keep HB45.out HGZ4.out) 2 _ rfl; have hg3 := (HGB.out.keep HB45.out HGZ4.out) 3 _ rfl; clear hb))
                        go_wp2_with fail
                        go_ret
                        exact ⟨by rw [E2.out]; rfl, HW.out.trans (HX.out.mono HZw.out)⟩
                · have HSgd := Lib.hid (slc_drop HSga.out hgp)
                  have HNf : Hid ((fa.drop 1).length = fa.length - 1) := Lib.hid List.length_drop
                  have HNg : Hid ((ga.drop 1).length = ga.length - 1) := Lib.hid List.length_drop
                  cases d5
                  · have SL := Lib.hid (SL0.out.trans (by rw [D5.out] <;> rfl))
                    have E2 := Lib.hid (show classB m (i : Int) x = false by unfold classB; rw [HAB.out, HKK.out, SL.out]; simp)
                    refine wp_region_noPanic ?_
                    refine wp_region_held_drew (S := (fun w' => w'.cell? ⟨gf, 0, none⟩ = some (.slice (some adt) fa.length j0) ∧ w'.cell? ⟨gf, 2, none⟩ = some (.int .i64 fr0) ∧ w'.cell? ⟨gf, 3, none⟩ = some (.int .i64 fr1) ∧ w'.cell? ⟨gg, 0, none⟩ = some (.slice (some adg) ga.length i0) ∧ w'.cell? ⟨gg, 2, none⟩ = some (.int .i64 gr0) ∧ w'.cell? ⟨gg, 3, none⟩ = some (.int .i64 gr1))) (by kernel_rfl) ⟨hb0, hb2, hb3, hg0, hg2, hg3⟩ (fun hHeld => ?_)
                    refine wpAnyH_take (i := 0) (oi := _) (v := ?_) rfl (by kernel_rfl) (by kernel_rfl) (by kernel_rfl) (fun _ _ _ h => h) (Or.inl ⟨by rfl, ?_⟩) (by assumption) ?_
                    rotate_left
                    · (intro w hSw; (try dsimp only at hSw); go_simp <;> with_reducible rfl)
                    try simp only [List.getElem_toArray, List.getElem_cons_succ, List.getElem_cons_zero, Act.put, List.setIfInBounds_toArray, List.set_cons_zero, List.set_cons_succ]
                    refine wpAnyH_take (i := 1) (oi := _) (v := ?_) rfl (by kernel_rfl) (by kernel_rfl) (by kernel_rfl) (fun _ _ _ h => h) (Or.inl ⟨by rfl, ?_⟩) (by assumption) ?_
                    rotate_left
                    · (intro w hSw; (try dsimp only at hSw); go_simp <;> with_reducible rfl)
                    try simp only [List.getElem_toArray, List.getElem_cons_succ, List.getElem_cons_zero, Act.put, List.setIfInBounds_toArray, List.set_cons_zero, List.set_cons_succ]
                    refine wpAnyH_take (i := 2) (oi := _) (v := ?_) rfl (by kernel_rfl) (by kernel_rfl) (by kernel_rfl) (fun _ _ _ h => h) (Or.inl ⟨by rfl, ?_⟩) (by assumption) ?_
                    rotate_left
                    · (intro w hSw; (try dsimp only at hSw); go_simp <;> with_reducible rfl)
                    try simp only [List.getElem_toArray, List.getElem_cons_succ, List.getElem_cons_zero, Act.put, List.setIfInBounds_toArray, List.set_cons_zero, List.set_cons_succ]
                    refine wpAnyH_take (i := 3) (oi := _) (v := ?_) rfl (by kernel_rfl) (by kernel_rfl) (by kernel_rfl) (fun _ _ _ h => h) (Or.inl ⟨by rfl, ?_⟩) (by assumption) ?_
                    rotate_left
                    · (intro w hSw; (try dsimp only at hSw); go_simp <;> with_reducible rfl)
                    try simp only [List.getElem_toArray, List.getElem_cons_succ, List.getElem_cons_zero, Act.put, List.setIfInBounds_toArray, List.set_cons_zero, List.set_cons_succ]
                    refine wpAnyH_take (i := 4) (oi := _) (v := ?_) rfl (by kernel_rfl) (by kernel_rfl) (by kernel_rfl) (fun _ _ _ h => h) (Or.inl ⟨by rfl, ?_⟩) (by assumption) ?_
                    rotate_left
                    · (intro w hSw; (try dsimp only at hSw); go_simp <;> with_reducible rfl)
                    try simp only [List.getElem_toArray, List.getElem_cons_succ, List.getElem_cons_zero, Act.put, List.setIfInBounds_toArray, List.set_cons_zero, List.set_cons_succ]
                    refine wpAnyH_take (i := 5) (oi := _) (v := ?_) rfl (by kernel_rfl) (by kernel_rfl) (by kernel_rfl) (fun _ _ _ h => h) (Or.inl ⟨by rfl, ?_⟩) (by assumption) ?_
                    rotate_left
                    · (intro w hSw; (try dsimp only at hSw); go_simp <;> with_reducible rfl)
                    try simp only [List.getElem_toArray, List.getElem_cons_succ, List.getElem_cons_zero, Act.put, List.setIfInBounds_toArray, List.set_cons_zero, List.set_cons_succ]
                    refine wpAnyH_ready (rs := [6]) (by kernel_rfl) (by simp) ?_
                    refine AllReadyH.cons (o := _) rfl (fun K hK => ?_) AllReadyH.nil
                    go_simp
                    (go_at_call 33; (with_reducible refine (types_n_is HSfd HSgd HXd HNf HNg D5).mono ?_); rintro e w5 ⟨rfl, hb⟩; have HX := Lib.hid (HXd.out.trans (hb.mono HXd.out.size)); have HB45 := Lib.hid (HB4d.out.trans (hb.mono HB4d.out.size)); have hb0 := (HFB.out.keep HB45.out HFZ4.out) 0 _ rfl; have hb2 := (HFB.out.keep HB45.out HFZ4.out) 2 _ rfl; have hb3 := (HFB.out.keep HB45.out HFZ4.out) 3 _ rfl; have hg0 := (HGB.out.keep HB45.out HGZ4.out) 0 _ rfl; have hg2 := (HGB.out.keep HB45.out HGZ4.out) 2 _ rfl; have hg3 := (HGB.out.keep HB45.out HGZ4.out) 3 _ rfl; clear hb)
                    refine hK.out _ _ ⟨hb0, hb2, hb3, hg0, hg2, hg3⟩ (fun hHeld => ?_)
                    clear hK K
                    try simp only [List.getElem_toArray, List.getElem_cons_succ, List.getElem_cons_zero, Act.put, List.setIfInBounds_toArray, List.set_cons_zero, List.set_cons_succ]
                    refine wpAnyH_take (i := 7) (oi := _) (v := ?_) rfl (by kernel_rfl) (by kernel_rfl) (by kernel_rfl) (fun _ _ _ h => h) (Or.inl ⟨by rfl, ?_⟩) (by assumption) ?_
                    rotate_left
                    · (intro w hSw; (try dsimp only at hSw); go_simp <;> with_reducible rfl)
                    try simp only [List.getElem_toArray, List.getElem_cons_succ, List.getElem_cons_zero, Act.put, List.setIfInBounds_toArray, List.set_cons_zero, List.set_cons_succ]
                    refine wpAnyH_take (i := 8) (oi := _) (v := ?_) rfl (by kernel_rfl) (by kernel_rfl) (by kernel_rfl) (fun _ _ _ h => h) (Or.inl ⟨by rfl, ?_⟩) (by assumption) ?_
                    rotate_left
                    · (intro w hSw; (try dsimp only at hSw); go_simp <;> with_reducible rfl)
                    try simp only [List.getElem_toArray, List.getElem_cons_succ, List.getElem_cons_zero, Act.put, List.setIfInBounds_toArray, List.set_cons_zero, List.set_cons_succ]
                    refine wpAnyH_take (i := 9) (oi := _) (v := undef) rfl (by kernel_rfl) (by kernel_rfl) (by kernel_rfl) (fun _ _ _ h => h) (Or.inr ⟨by rfl, rfl⟩) (by assumption) ?_
                    try simp only [List.getElem_toArray, List.getElem_cons_succ, List.getElem_cons_zero, Act.put, List.setIfInBounds_toArray, List.set_cons_zero, List.set_cons_succ]
                    refine wpAnyH_take (i := 10) (oi := _) (v := undef) rfl (by kernel_rfl) (by kernel_rfl) (by kernel_rfl) (fun _ _ _ h => h) (Or.inr ⟨by rfl, rfl⟩) (by assumption) ?_
                    try simp only [List.getElem_toArray, List.getElem_cons_succ, List.getElem_cons_zero, Act.put, List.setIfInBounds_toArray, List.set_cons_zero, List.set_cons_succ]
                    refine wpAnyH_take (i := 11) (oi := _) (v := undef) rfl (by kernel_rfl) (by kernel_rfl) (by kernel_rfl) (fun _ _ _ h => h) (Or.inr ⟨by rfl, rfl⟩) (by assumption) ?_
                    try simp only [List.getElem_toArray, List.getElem_cons_succ, List.getElem_cons_zero, Act.put, List.setIfInBounds_toArray, List.set_cons_zero, List.set_cons_succ]
                    refine wpAnyH_take (i := 12) (oi := _) (v := undef) rfl (by kernel_rfl) (by kernel_rfl) (by kernel_rfl) (fun _ _ _ h => h) (Or.inr ⟨by rfl, rfl⟩) (by assumption) ?_
                    try simp only [List.getElem_toArray, List.getElem_cons_succ, List.getElem_cons_zero, Act.put, List.setIfInBounds_toArray, List.set_cons_zero, List.set_cons_succ]
                    refine wpAnyH_take (i := 13) (oi := _) (v := undef) rfl (by kernel_rfl) (by kernel_rfl) (by kernel_rfl) (fun _ _ _ h => h) (Or.inr ⟨by rfl, rfl⟩) (by assumption) ?_
                    try simp only [List.getElem_toArray, List.getElem_cons_succ, List.getElem_cons_zero, Act.put, List.setIfInBounds_toArray, List.set_cons_zero, List.set_cons_succ]
                    refine wpAnyH_take (i := 14) (oi := _) (v := ?_) rfl (by kernel_rfl) (by kernel_rfl) (by kernel_rfl) (fun _ _ _ h => h) (Or.inl ⟨by rfl, ?_⟩) (by assumption) ?_
                    rotate_left
                    · (intro w hSw; (try dsimp only at hSw); go_simp <;> with_reducible rfl)
                    try simp only [List.getElem_toArray, List.getElem_cons_succ, List.getElem_cons_zero, Act.put, List.setIfInBounds_toArray, List.set_cons_zero, List.set_cons_succ]
                    refine wpAnyH_done (by kernel_rfl) ?_ _
                    refine NoPanic.normal ?_
                    go_wp2_with fail
                    go_ret
                    exact ⟨by rw [E2.out]; rfl, HW.out.trans (HX.out.mono HZw.out)⟩
                  · by_cases hret : fr0 = gr0 ∧ fr1 = gr1
                    · obtain ⟨rfl, rfl⟩ := hret
                      have SL := Lib.hid (SL0.out.trans (by rw [D5.out, decide_eq_true (rfl : (fr0, fr1) = (fr0, fr1))] <;> rfl))
                      have HK2 := Lib.hid (HKK.out.trans (by rw [SL.out, Bool.true_and]))
                      go_region_held3 (fun w' => w'.cell? ⟨gf, 0, none⟩ = some (.slice (some adt) fa.length j0) ∧ w'.cell? ⟨gf, 2, none⟩ = some (.int .i64 fr0) ∧ w'.cell? ⟨gf, 3, none⟩ = some (.int .i64 fr1) ∧ w'.cell? ⟨gg, 0, none⟩ = some (.slice (some adg) ga.length i0) ∧ w'.cell? ⟨gg, 2, none⟩ = some (.int .i64 fr0) ∧ w'.cell? ⟨gg, 3, none⟩ = some (.int .i64 fr1)) (first | exact ⟨hb0, hb2, hb3, hg0, hg2, hg3⟩) (first | (go_at_call 33; (with_reducible refine (types_n_is HSfd HSgd HXd HNf HNg D5).mono ?_); rintro e w5 ⟨rfl, hb⟩; have HX := Lib.hid (HXd.out.trans (hb.mono HXd.out.size)); have HB45 := Lib.hid (HB4d.out.trans (hb.mono HB4d.out.size)); have hb0 := (HFB.out.keep HB45.out HFZ4.out) 0 _ rfl; have hb2 := (HFB.out.keep HB45.out HFZ4.out) 2 _ rfl; have hb3 := (HFB.out.keep HB45.out HFZ4.out) 3 _ rfl; have hg0 := (HGB.out.keep HB45.out HGZ4.out) 0 _ rfl; have hg2 := (HGB.out.keep HB45.out HGZ4.out) 2 _ rfl; have hg3 := (HGB.out.keep HB45.out HGZ4.out) 3 _ rfl; clear hb))
                      go_wp2_with fail
                      go_roundw
                      case rel => exact ⟨k + 1, by omega, by go_num, HK2, HX⟩
                      case measure => simp [intOf]; omega
                    · have SL := Lib.hid (SL0.out.trans (by rw [D5.out, decide_eq_false (show ¬ (fr0, fr1) = (gr0, gr1) by simpa using hret)] <;> rfl))
                      have E2 := Lib.hid (show classB m (i : Int) x = false by unfold classB; rw [HAB.out, HKK.out, SL.out]; simp)
                      have hxx : ¬ fr0 = gr0 ∨ (fr0 = gr0 ∧ ¬ fr1 = gr1) := by omega
                      clear hret
                      rcases hxx with hxx | ⟨rfl, hxx⟩
                      · go_region_held3 (fun w' => w'.cell? ⟨gf, 0, none⟩ = some (.slice (some adt) fa.length j0) ∧ w'.cell? ⟨gf, 2, none⟩ = some (.int .i64 fr0) ∧ w'.cell? ⟨gf, 3, none⟩ = some (.int .i64 fr1) ∧ w'.cell? ⟨gg, 0, none⟩ = some (.slice (some adg) ga.length i0) ∧ w'.cell? ⟨gg, 2, none⟩ = some (.int .i64 gr0) ∧ w'.cell? ⟨gg, 3, none⟩ = some (.int .i64 gr1)) (first | exact ⟨hb0, hb2, hb3, hg0, hg2, hg3⟩) (first | (go_at_call 33; (with_reducible refine (types_n_is HSfd HSgd HXd HNf HNg D5).mono ?_); rintro e w5 ⟨rfl, hb⟩; have HX := Lib.hid (HXd.out.trans (hb.mono HXd.out.size)); have HB45 := Lib.hid (HB4d.out.trans (hb.mono HB4d.out.size)); have hb0 := (HFB.out.keep HB45.out HFZ4.out) 0 _ rfl; have hb2 := (HFB.out.keep HB45.out HFZ4.out) 2 _ rfl; have hb3 := (HFB.out.keep HB45.out HFZ4.out) 3 _ rfl; have hg0 := (HGB.out.keep HB45.out HGZ4.out) 0 _ rfl; have hg2 := (HGB.out.keep HB45.out HGZ4.out) 2 _ rfl; have hg3 := (HGB.out.keep HB45.out HGZ4.out) 3 _ rfl; clear hb))
                        go_wp2_with fail
                        go_ret
                        exact ⟨by rw [E2.out]; rfl, HW.out.trans (HX.out.mono HZw.out)⟩
                      · go_region_held3 (fun w' => w'.cell? ⟨gf, 0, none⟩ = some (.slice (some adt) fa.length j0) ∧ w'.cell? ⟨gf, 2, none⟩ = some (.int .i64 fr0) ∧ w'.cell? ⟨gf, 3, none⟩ = some (.int .i64 fr1) ∧ w'.cell? ⟨gg, 0, none⟩ = some (.slice (some adg) ga.length i0) ∧ w'.cell? ⟨gg, 2, none⟩ = some (.int .i64 fr0) ∧ w'.cell? ⟨gg, 3, none⟩ = some (.int .i64 gr1)) (first | exact ⟨hb0, hb2, hb3, hg0, hg2, hg3⟩) (first | (go_at_call 33; (with_reducible refine (types_n_is HSfd HSgd HXd HNf HNg D5).mono ?_); rintro e w5 ⟨rfl, hb⟩; have HX := Lib.hid (HXd.out.trans (hb.mono HXd.out.size)); have HB45 := Lib.hid (HB4d.out.trans (hb.mono HB4d.out.size)); have hb0 := (HFB.out.keep HB45.out HFZ4.out) 0 _ rfl; have hb2 := (HFB.out.keep HB45.out HFZ4.out) 2 _ rfl; have hb3 := (HFB.out.keep HB45.out HFZ4.out) 3 _ rfl; have hg0 := (HGB.out.keep HB45.out HGZ4.out) 0 _ rfl; have hg2 := (HGB.out.keep HB45.out HGZ4.out) 2 _ rfl; have hg3 := (HGB.out.keep HB45.out HGZ4.out) 3 _ rfl; clear hb))
                        go_wp2_with fail
                        go_ret
                        exact ⟨by rw [E2.out]; rfl, HW.out.trans (HX.out.mono HZw.out)⟩
        · have SL := Lib.hid (slot_out (c := (i : Int)) (ab := y.slots) (k := k) (m := m) (Nat.le_of_not_lt hnl))
          have E2 := Lib.hid (show classB m (i : Int) x = false by unfold classB; rw [HAB.out, HKK.out, SL.out]; simp)
          go_upto_region 12 with fail
          go_quiet (fail)
          go_wp2_with fail
          go_ret
          exact ⟨by rw [E2.out]; rfl, HW.out.trans ((below_drewN' HX.out _).mono HZw.out)⟩
      · have E2 := Lib.hid (show classB m (i : Int) x = true by unfold classB; rw [HAB.out, HK.out, List.drop_eq_nil_of_le (by omega), decide_eq_true c1, D1.out, HL.out, decide_eq_true c2, decide_eq_true c3]; rfl)
        go_wp2_with fail
        go_ret
        exact ⟨by rw [E2.out]; rfl, HW.out.trans (HX.out.mono HZw.out)⟩
  · have hs1 : x.sup < 0 := by omega
    have HAY := Lib.hid (show aboveSlots m x = [] from if_neg hs0)
    obtain rfl : AB = [] := HAB.out.symm.trans HAY.out
    clear hs0
    go_wp2_with (first | (go_at_call 28; (with_reducible refine (goods_is HI HSf HX D1).mono ?_); rintro e w5 ⟨rfl, hb⟩; have HX := Lib.hid (HX.out.trans (hb.mono HX.out.size)); have kq0 := (HQ.out.keep HX.out HQZ.out) 0 _ rfl; have kq1 := (HQ.out.keep HX.out HQZ.out) 1 _ rfl; have kq2 := (HQ.out.keep HX.out HQZ.out) 2 _ rfl; have kq3 := (HQ.out.keep HX.out HQZ.out) 3 _ rfl; have kq4 := (HQ.out.keep HX.out HQZ.out) 4 _ rfl; have kq5 := (HQ.out.keep HX.out HQZ.out) 5 _ rfl; have kq6 := (HQ.out.keep HX.out HQZ.out) 6 _ rfl; have kc0 := (HC.out.keep HX.out HCZ.out) 0 _ rfl; have kc1 := (HC.out.keep HX.out HCZ.out) 1 _ rfl; have kc2 := (HC.out.keep HX.out HCZ.out) 2 _ rfl; clear hb) | (go_at_call 49; (with_reducible refine (fields_call HI HX HN HF HL).mono ?_); rintro e w5 ⟨A9, k9, rfl, hb⟩; have HX := Lib.hid (HX.out.trans (hb.mono HX.out.size)); have kq0 := (HQ.out.keep HX.out HQZ.out) 0 _ rfl; have kq1 := (HQ.out.keep HX.out HQZ.out) 1 _ rfl; have kq2 := (HQ.out.keep HX.out HQZ.out) 2 _ rfl; have kq3 := (HQ.out.keep HX.out HQZ.out) 3 _ rfl; have kq4 := (HQ.out.keep HX.out HQZ.out) 4 _ rfl; have kq5 := (HQ.out.keep HX.out HQZ.out) 5 _ rfl; have kq6 := (HQ.out.keep HX.out HQZ.out) 6 _ rfl; have kc0 := (HC.out.keep HX.out HCZ.out) 0 _ rfl; have kc1 := (HC.out.keep HX.out HCZ.out) 1 _ rfl; have kc2 := (HC.out.keep HX.out HCZ.out) 2 _ rfl; clear hb))
    go_loopw [7] (fun i' wr => ∃ k : Nat, k ≤ x.slots.length ∧ i' = .int .i64 k ∧ Hid (slotsFrom m (i : Int) [] 0 x.slots = slotsFrom m (i : Int) [] k (x.slots.drop k)) ∧ Hid (Below w1.heap.size w1 wr)) (fun i' _ => x.slots.length - (intOf i').toNat)
    case atStart => exact ⟨0, by omega, rfl, Lib.hid rfl, HX⟩
    case round =>
      clear HX kq0 kq1 kq2 kq3 kq4 kq5 kq6 kc0 kc1 kc2
      obtain ⟨k, hk, rfl, HK, HX⟩ := hrel
      have kq0 := (HQ.out.keep HX.out HQZ.out) 0 _ rfl
      have kq1 := (HQ.out.keep HX.out HQZ.out) 1 _ rfl
      have kq2 := (HQ.out.keep HX.out HQZ.out) 2 _ rfl
      have kq3 := (HQ.out.keep HX.out HQZ.out) 3 _ rfl
      have kq4 := (HQ.out.keep HX.out HQZ.out) 4 _ rfl
      have kq5 := (HQ.out.keep HX.out HQZ.out) 5 _ rfl
      have kq6 := (HQ.out.keep HX.out HQZ.out) 6 _ rfl
      have kc0 := (HC.out.keep HX.out HCZ.out) 0 _ rfl
      have kc1 := (HC.out.keep HX.out HCZ.out) 1 _ rfl
      have kc2 := (HC.out.keep HX.out HCZ.out) 2 _ rfl
      by_cases hlt : k < x.slots.length
      · obtain ⟨ads, e2, habs, hcs⟩ := HSs.out.row.at_ hlt
        have HKK := Lib.hid (HK.out.trans (slots_drop hlt))
        have hs0 := HS0.out x HXM.out x.slots[k] (List.getElem_mem hlt)
        have HE2 := Lib.hid e2
        rw [e2] at kc2
        rw [Nat.mul_one] at hcs
        have HCS : Hid (w1.cell? (ads.add k) = some (.int .i64 x.slots[k])) := Lib.hid hcs
        have HBS : Hid ((ads.add k).block < w1.heap.size) := Lib.hid (by rw [addr_add_block]; exact habs)
        generalize x.slots[k] = s at *
        obtain ⟨n, rfl⟩ := Int.eq_ofNat_of_zero_le hs0
        have ks := (HX.out.cell HBS.out).trans HCS.out
        clear e2 hcs habs hs0
        by_cases hnl : n < m.methods.length
        · obtain ⟨adm, e3, habm, hcm⟩ := HI.out.methods.row.at_ hnl
          have HME := Lib.hid (List.getElem?_eq_getElem hnl)
          generalize m.methods[n] = f at *
          obtain ⟨fa, fl, ⟨fr0, fr1⟩, fc, fd, fp, fh⟩ := f
          obtain ⟨⟨A0f, j0, f0, hf0⟩, ⟨A1f, j1, f1, _⟩, f2, f3, ⟨A4f, j4, f4, _⟩, f5, f6, ⟨A7f, j7, f7, _⟩⟩ := hcm
          dsimp only at f0 f1 f2 f3 f4 f5 f6 f7 hf0
          have hPm : (adm.add (n * 8)).block < w1.heap.size := by rw [addr_add_block]; exact habm
          have HSfa := Lib.hid hf0
          have hj0 := hf0.le
          have hj0c := hf0.cap
          go_upto_region 12 with fail
          rw [e3] at kq3
          go_quiet (fail)
          go_upto_region 14 with fail
          have HX := Lib.hid (below_drewN' HX.out nq)
          generalize wr.drewN nq = wd at *
          clear kq0 kq1 kq2 kq3 kq4 kq5 kq6 kc0 kc1 kc2 ks
          have kq0 := (HQ.out.keep HX.out HQZ.out) 0 _ rfl
          have kq1 := (HQ.out.keep HX.out HQZ.out) 1 _ rfl
          have kq2 := (HQ.out.keep HX.out HQZ.out) 2 _ rfl
          have kq3 := (HQ.out.keep HX.out HQZ.out) 3 _ rfl
          have kq4 := (HQ.out.keep HX.out HQZ.out) 4 _ rfl
          have kq5 := (HQ.out.keep HX.out HQZ.out) 5 _ rfl
          have kq6 := (HQ.out.keep HX.out HQZ.out) 6 _ rfl
          have kc0 := (HC.out.keep HX.out HCZ.out) 0 _ rfl
          have kc1 := (HC.out.keep HX.out HCZ.out) 1 _ rfl
          have kc2 := (HC.out.keep HX.out HCZ.out) 2 _ rfl
          rw [e3] at kq3
          rw [HE2.out] at kc2
          have ks := (HX.out.cell HBS.out).trans HCS.out
          have f0 := (HX.out.cell hPm).trans f0
          have f1 := (HX.out.cell (p := off_ (adm.add (n * 8)) 1) hPm).trans f1
          have f2 := (HX.out.cell (p := off_ (adm.add (n * 8)) 2) hPm).trans f2
          have f3 := (HX.out.cell (p := off_ (adm.add (n * 8)) 3) hPm).trans f3
          have f4 := (HX.out.cell (p := off_ (adm.add (n * 8)) 4) hPm).trans f4
          have f5 := (HX.out.cell (p := off_ (adm.add (n * 8)) 5) hPm).trans f5
          have f6 := (HX.out.cell (p := off_ (adm.add (n * 8)) 6) hPm).trans f6
          have f7 := (HX.out.cell (p := off_ (adm.add (n * 8)) 7) hPm).trans f7
          have e1 := World.new_ne wd _ kq3
          have e2 := World.new_ne wd _ kc2
          have e4 := World.new_ne wd _ ks
          have e5 := World.new_ne wd _ f0
          clear e3
          go_region_held3 (fun w' => w'.cell? ⟨w.heap.size, 3, none⟩ = some (.slice (some adm) m.methods.length h.c3) ∧ w'.cell? ⟨w.heap.size + 1, 2, none⟩ = some (.slice (some ads) x.slots.length k2) ∧ w'.cell? (ads.add k) = some (.int .i64 (n : Int)) ∧ w'.cell? (adm.add (n * 8)) = some (.slice A0f fa.length j0) ∧ w'.cell? (off_ (adm.add (n * 8)) 1) = some (.slice A1f fl.length j1) ∧ w'.cell? (off_ (adm.add (n * 8)) 2) = some (.int .i64 fr0) ∧ w'.cell? (off_ (adm.add (n * 8)) 3) = some (.int .i64 fr1) ∧ w'.cell? (off_ (adm.add (n * 8)) 4) = some (.slice A4f fc.length j4) ∧ w'.cell? (off_ (adm.add (n * 8)) 5) = some (.int .i64 fd) ∧ w'.cell? (off_ (adm.add (n * 8)) 6) = some (.int .i64 fp) ∧ w'.cell? (off_ (adm.add (n * 8)) 7) = some (.slice A7f fh.length j7)) (go_keep) (first | fail)
          go_upto_region 15 with fail
          have HFB := Lib.hid (cells_new wd [.slice A0f fa.length j0, .slice A1f fl.length j1, .int .i64 fr0, .int .i64 fr1, .slice A4f fc.length j4, .int .i64 fd, .int .i64 fp, .slice A7f fh.length j7] 54)
          have HX := Lib.hid (HX.out.alloc HX.out.size (.cells ([.slice A0f fa.length j0, .slice A1f fl.length j1, .int .i64 fr0, .int .i64 fr1, .slice A4f fc.length j4, .int .i64 fd, .int .i64 fp, .slice A7f fh.length j7] : List Value).toArray 54)).drew
          clear kq0 kq1 kq2 kq3 kq4 kq5 kq6 kc0 kc1 kc2 ks f0 f1 f2 f3 f4 f5 f6 f7 e1 e2 e4 e5
          have HFB : Hid (Cells (wd.alloc (.cells ([.slice A0f fa.length j0, .slice A1f fl.length j1, .int .i64 fr0, .int .i64 fr1, .slice A4f fc.length j4, .int .i64 fd, .int .i64 fp, .slice A7f fh.length j7] : List Value).toArray 54)).drew wd.heap.size [.slice A0f fa.length j0, .slice A1f fl.length j1, .int .i64 fr0, .int .i64 fr1, .slice A4f fc.length j4, .int .i64 fd, .int .i64 fp, .slice A7f fh.length j7]) := HFB
          generalize (wd.alloc (.cells ([.slice A0f fa.length j0, .slice A1f fl.length j1, .int .i64 fr0, .int .i64 fr1, .slice A4f fc.length j4, .int .i64 fd, .int .i64 fp, .slice A7f fh.length j7] : List Value).toArray 54)).drew = w2 at *
          generalize wd.heap.size = gf at *
          have HFBZ : Hid (gf < w2.heap.size) := Lib.hid (World.block_lt_of_cell? w2 _ (HFB.out 0 _ rfl))
          have kq0 := (HQ.out.keep HX.out HQZ.out) 0 _ rfl
          have kq1 := (HQ.out.keep HX.out HQZ.out) 1 _ rfl
          have kq2 := (HQ.out.keep HX.out HQZ.out) 2 _ rfl
          have kq3 := (HQ.out.keep HX.out HQZ.out) 3 _ rfl
          have kq4 := (HQ.out.keep HX.out HQZ.out) 4 _ rfl
          have kq5 := (HQ.out.keep HX.out HQZ.out) 5 _ rfl
          have kq6 := (HQ.out.keep HX.out HQZ.out) 6 _ rfl
          have kc0 := (HC.out.keep HX.out HCZ.out) 0 _ rfl
          have kc1 := (HC.out.keep HX.out HCZ.out) 1 _ rfl
          have kc2 := (HC.out.keep HX.out HCZ.out) 2 _ rfl
          have hb0 := HFB.out 0 _ rfl
          by_cases hfa0 : fa.length = 0
          · have SL := Lib.hid (slot_nil (c := (i : Int)) (ab := []) (k := k) HME.out (List.eq_nil_of_length_eq_zero hfa0))
            have E2 := Lib.hid (show classB m (i : Int) x = false by unfold classB; rw [HAB.out, HKK.out, SL.out]; simp)
            have ht0 : ((fa.length : Int) == 0) = true := beq_iff_eq.mpr (by omega)
            clear hfa0
            go_quiet (fail)
            go_wp2_with fail
            go_ret
            exact ⟨by rw [E2.out]; rfl, HW.out.trans ((below_drewN' HX.out _).mono HZw.out)⟩
          · have hfp : 0 < fa.length := by omega
            have ht0 : ((fa.length : Int) == 0) = false := beq_eq_false_iff_ne.mpr (by omega)
            have HFT := Lib.hid (show fa = fa[0] :: fa.drop 1 from List.drop_eq_getElem_cons hfp)
            obtain ⟨adt, rfl, habt, r0, r1⟩ := HSfa.out.row.at_ hfp
            clear hfa0
            generalize fa[0] = t at *
            obtain ⟨t0, t1⟩ := t
            rw [Nat.zero_mul, show adt.add 0 = adt by simp [Addr.add]] at r0 r1
            have HR2 : Hid (∀ W, Below w1.heap.size w1 W → W.cell? adt = some (.int .i64 t0) ∧ W.cell? (off_ adt 1) = some (.int .i64 t1)) := Lib.hid (fun W hW => TyAt.keeps (x := (t0, t1)) ⟨r0, r1⟩ habt (Nat.le_refl _) (fun _ hq => hW.cell hq))
            obtain ⟨r0, r1⟩ := HR2.out _ HX.out
            have HXd := Lib.hid HX.out.drew
            have HB2d : Hid (Below w2.heap.size w2 w2.drew) := Lib.hid (Below.refl _ _).drew
            obtain ⟨d4, hd4⟩ : ∃ d, subB (supsOf m.classes) 3 (i : Int) t0 t1 = d := ⟨_, rfl⟩
            have D4 := Lib.hid hd4
            clear hd4 habt
            cases d4
            · have SL := Lib.hid (slot_sub (c := (i : Int)) (ab := []) (k := k) HME.out HFT.out D4.out)
              have E2 := Lib.hid (show classB m (i : Int) x = false by unfold classB; rw [HAB.out, HKK.out, SL.out]; simp)
              go_region_held3 (fun w' => w'.cell? ⟨w.heap.size, 0, none⟩ = some (.slice h.A0 m.classes.length h.c0) ∧ w'.cell? ⟨gf, 0, none⟩ = some (.slice (some adt) fa.length j0) ∧ w'.cell? adt = some (.int .i64 t0) ∧ w'.cell? (off_ adt 1) = some (.int .i64 t1)) (first | exact ⟨kq0, hb0, r0, r1⟩) (first | (go_at_call 50; (with_reducible refine (sub_is HI HXd HN D4).mono ?_); rintro e w3 ⟨rfl, hb⟩; have HX := Lib.hid (HXd.out.trans (hb.mono HXd.out.size)); have HB23 := Lib.hid (HB2d.out.trans (hb.mono HB2d.out.size)); have kq0 := (HQ.out.keep HX.out HQZ.out) 0 _ rfl; have kq1 := (HQ.out.keep HX.out HQZ.out) 1 _ rfl; have kq2 := (HQ.out.keep HX.out HQZ.out) 2 _ rfl; have kq3 := (HQ.out.keep HX.out HQZ.out) 3 _ rfl; have kq4 := (HQ.out.keep HX.out HQZ.out) 4 _ rfl; have kq5 := (HQ.out.keep HX.out HQZ.out) 5 _ rfl; have kq6 := (HQ.out.keep HX.out HQZ.out) 6 _ rfl; have kc0 := (HC.out.keep HX.out HCZ.out) 0 _ rfl; have kc1 := (HC.out.keep HX.out HCZ.out) 1 _ rfl; have kc2 := (HC.out.keep HX.out HCZ.out) 2 _ rfl; have hb0 := (HFB.out.keep HB23.out HFBZ.out) 0 _ rfl; obtain ⟨r0, r1⟩ := HR2.out _ HX.out; clear hb))
              go_wp2_with fail
              go_ret
              exact ⟨by rw [E2.out]; rfl, HW.out.trans (HX.out.mono HZw.out)⟩
            · go_region_held3 (fun w' => w'.cell? ⟨w.heap.size, 0, none⟩ = some (.slice h.A0 m.classes.length h.c0) ∧ w'.cell? ⟨gf, 0, none⟩ = some (.slice (some adt) fa.length j0) ∧ w'.cell? adt = some (.int .i64 t0) ∧ w'.cell? (off_ adt 1) = some (.int .i64 t1)) (first | exact ⟨kq0, hb0, r0, r1⟩) (first | (go_at_call 50; (with_reducible refine (sub_is HI HXd HN D4).mono ?_); rintro e w3 ⟨rfl, hb⟩; have HX := Lib.hid (HXd.out.trans (hb.mono HXd.out.size)); have HB23 := Lib.hid (HB2d.out.trans (hb.mono HB2d.out.size)); have kq0 := (HQ.out.keep HX.out HQZ.out) 0 _ rfl; have kq1 := (HQ.out.keep HX.out HQZ.out) 1 _ rfl; have kq2 := (HQ.out.keep HX.out HQZ.out) 2 _ rfl; have kq3 := (HQ.out.keep HX.out HQZ.out) 3 _ rfl; have kq4 := (HQ.out.keep HX.out HQZ.out) 4 _ rfl; have kq5 := (HQ.out.keep HX.out HQZ.out) 5 _ rfl; have kq6 := (HQ.out.keep HX.out HQZ.out) 6 _ rfl; have kc0 := (HC.out.keep HX.out HCZ.out) 0 _ rfl; have kc1 := (HC.out.keep HX.out HCZ.out) 1 _ rfl; have kc2 := (HC.out.keep HX.out HCZ.out) 2 _ rfl; have hb0 := (HFB.out.keep HB23.out HFBZ.out) 0 _ rfl; obtain ⟨r0, r1⟩ := HR2.out _ HX.out; clear hb))
              have SL := Lib.hid (slot_free (c := (i : Int)) (ab := []) (k := k) HME.out HFT.out D4.out (Nat.zero_le _))
              have HK2 := Lib.hid (HKK.out.trans (by rw [SL.out, Bool.true_and]))
              go_wp2_with fail
              go_roundw
              case rel => exact ⟨k + 1, by omega, by go_num, HK2, HX⟩
              case measure => simp [intOf]; omega
        · have SL := Lib.hid (slot_out (c := (i : Int)) (ab := []) (k := k) (m := m) (Nat.le_of_not_lt hnl))
          have E2 := Lib.hid (show classB m (i : Int) x = false by unfold classB; rw [HAB.out, HKK.out, SL.out]; simp)
          go_upto_region 12 with fail
          go_quiet (fail)
          go_wp2_with fail
          go_ret
          exact ⟨by rw [E2.out]; rfl, HW.out.trans ((below_drewN' HX.out _).mono HZw.out)⟩
      · have E2 := Lib.hid (show classB m (i : Int) x = true by unfold classB; rw [HAB.out, HK.out, List.drop_eq_nil_of_le (by omega), decide_eq_true c1, D1.out, HL.out, decide_eq_true c2, decide_eq_true (show ([] : List Int).length ≤ x.slots.length from Nat.zero_le _)]; rfl)
        go_wp2_with fail
        go_ret
        exact ⟨by rw [E2.out]; rfl, HW.out.trans (HX.out.mono HZw.out)⟩
end Go.Proofs.Ytefgepppcmhphaa
