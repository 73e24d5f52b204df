/-
  What flow's own maker of types (maker, and what it makes) comes to.
  What flow's words for a method's other arguments (others) and for the field that an instruction names (field) come to.
  What slices.Concat of two lists of types comes to (by slices.Grow of none).
  What num.Is comes to.
-/
import Derived.Test.YtgpmdhdooglkfaaM06
import Derived.IntWalk
import Derived.Lib.AppendZeros
import Derived.Test.YtgpmdhdooglkfaaRows
import Derived.WalkKit
import Derived.ProofKit
import Derived.OpenShut
namespace Go.Proofs.Ytgpmdhdooglkfaa
set_option maxRecDepth 100000
set_option linter.unusedVariables false
set_option linter.unusedSimpArgs false
open Go.ChangeShapes Go.WideShapes Go.ChangeAt Go.RowKit

/-- Types of kinds, each Ref being of one class. -/
def mkOne (a k : Int) : Int × Int := (k, if k = 3 then a else 0)
def mkOf (a : Int) (ks : List Int) : List (Int × Int) := ks.map (mkOne a)
abbrev mkF (N : Nat) : Value := .func (.func 90) #[] #[.pointer (some ⟨N, 0, none⟩)]
theorem fmaker_any (op a b : Int) (w : World) :
    Calls Try.prog 74 #[insV op a b] w fun e w' => e = .returned (mkF w.heap.size) ∧ w' = w.alloc (.cells #[.int .i64 op, .int .i64 a, .int .i64 b] 49) := by
  go_enter Try.func74, Try.ntmps74
  go_wp2
  go_ret
  exact ⟨rfl, rfl⟩
theorem lies_t1 {w : World} {g : Nat} {x y : Int} (hg : g < w.heap.size) (h0 : w.cell? ⟨g, 0, none⟩ = some (.int .i64 x)) (h1 : w.cell? ⟨g, 1, none⟩ = some (.int .i64 y)) : Lies w w.heap.size (some ⟨g, 0, none⟩) (tysV [(x, y)]) := tys_lie (new_t1 hg h0 h1).row
theorem fmk_any (ks : List Int) (op a b : Int) (N : Nat) (A : Option Addr) (c : Nat) (w : World) (hN : N < w.heap.size) (hc : Cells w N [.int .i64 op, .int .i64 a, .int .i64 b]) (h : SlcIs IntAt 1 w w.heap.size A c ks) (hl : ks.length ≤ 1000) :
    Calls Try.prog 90 #[.slice A ks.length c, .pointer (some ⟨N, 0, none⟩)] w (OwnTypes (mkOf a ks) w) := by
  obtain ⟨i0, hi, hz0, hz1, hz2⟩ := info_partsK info_type
  have HN := Lib.hid hN
  have HC := Lib.hid hc
  have HS := Lib.hid h
  have hle := h.le
  have hcap := h.cap
  clear hN hc h
  go_enter Try.func90, Try.ntmps90
  go_wp2_with fail
  go_loopw [4, 10] (fun v i wr => ∃ k : Nat, k ≤ ks.length ∧ i = .int .i64 k ∧ Hid (wr.ownsRow w.heap.size 39 2 v k (tysV (mkOf a (ks.take k)))) ∧ Hid (Below w.heap.size w wr)) (fun _ i _ => ks.length - (intOf i).toNat)
  case atStart => exact ⟨0, by omega, rfl, Lib.hid (World.ownsRow_nil _ _ _ _), Lib.hid (Below.refl _ _)⟩
  case round =>
    obtain ⟨k, hk, rfl, HO, HX⟩ := hrel
    by_cases hlt : k < ks.length
    · obtain ⟨ad, rfl, hab, hcz⟩ := (HS.out.below_to IntAt.keeps HX.out (Nat.le_refl _)).row.at_ hlt
      have HT : Hid (mkOf a (ks.take (k + 1)) = mkOf a (ks.take k) ++ [mkOne a ks[k]]) := Lib.hid (by unfold mkOf; rw [List.take_succ_eq_append_getElem hlt, List.map_append]; rfl)
      obtain ⟨L, hL⟩ : ∃ L, mkOf a (ks.take k) = L := ⟨_, rfl⟩
      have hLl : L.length = k := by rw [← hL]; unfold mkOf; rw [List.length_map, List.length_take]; omega
      rw [hL] at HT HO
      generalize ks[k] = z at *
      have hcz : wr.cell? (ad.add k) = some (.int .i64 z) := by have := hcz; rw [Nat.mul_one] at this; exact this
      have o1 := (HC.out.keep HX.out HN.out) 1 _ rfl
      have hsz := HX.out.size
      have hNw : N < wr.heap.size := Nat.lt_of_lt_of_le HN.out hsz
      clear hL
      by_cases hz3 : z = 3
      · subst hz3
        go_wp2_with (at_builtin; refine append_liesK rfl _ _ 23 rfl w.heap.size 39 i0 (.agg #[.int .i64 0, .int .i64 0]) 2 16 Try.underlying23 hi hz0 hz1 hz2 rfl (by decide) _ k (tysV L) rfl ((HO.out.alloc _).alloc _) (some ⟨wr.heap.size + 1, 0, none⟩) 1 1 _ (tysV [(3, a)]) rfl rfl (lies_t1 (by simp) (by go_simp) (by go_simp)) (tysV_one _) (by unfold maxLen; omega) (by omega) (by simp; omega) ?_; intro v6 w6 hown hgrow; have HX6 := Lib.hid (appK_more ((HX.out.alloc hsz _).alloc (by simp; omega) _) ((HO.out.alloc _).alloc _) (by simp; omega) hgrow); have HO6 := Lib.hid hown; clear hown hgrow)
        go_roundw
        case rel => exact ⟨k + 1, by omega, by go_num, Lib.hid (by rw [HT.out]; show World.ownsRow _ _ _ _ _ _ ((L ++ [(3, a)]).flatMap tyC); rw [List.flatMap_append]; exact HO6.out), HX6⟩
        case measure => simp [intOf]; omega
      · have HM : Hid (mkOne a z = (z, 0)) := Lib.hid (by unfold mkOne; rw [if_neg hz3])
        go_wp2_with (at_builtin; refine append_liesK rfl _ _ 23 rfl w.heap.size 39 i0 (.agg #[.int .i64 0, .int .i64 0]) 2 16 Try.underlying23 hi hz0 hz1 hz2 rfl (by decide) _ k (tysV L) rfl ((HO.out.alloc _).alloc _) (some ⟨wr.heap.size + 1, 0, none⟩) 1 1 _ (tysV [(z, 0)]) rfl rfl (lies_t1 (by simp) (by go_simp) (by go_simp)) (tysV_one _) (by unfold maxLen; omega) (by omega) (by simp; omega) ?_; intro v6 w6 hown hgrow; have HX6 := Lib.hid (appK_more ((HX.out.alloc hsz _).alloc (by simp; omega) _) ((HO.out.alloc _).alloc _) (by simp; omega) hgrow); have HO6 := Lib.hid hown; clear hown hgrow)
        go_roundw
        case rel => exact ⟨k + 1, by omega, by go_num, Lib.hid (by rw [HT.out, HM.out]; show World.ownsRow _ _ _ _ _ _ ((L ++ [(z, 0)]).flatMap tyC); rw [List.flatMap_append]; exact HO6.out), HX6⟩
        case measure => simp [intOf]; omega
    · obtain rfl : k = ks.length := by omega
      have HT : Hid (mkOf a (ks.take ks.length) = mkOf a ks) := Lib.hid (by rw [List.take_length])
      have HLN : Hid ((mkOf a ks).length = ks.length) := Lib.hid (by unfold mkOf; rw [List.length_map])
      go_wp2_with fail
      go_ret
      refine ⟨_, rfl, ?_, HX.out⟩
      rw [HLN.out, ← HT.out]
      exact HO.out
theorem fmk_is {ks : List Int} {op a b : Int} {N : Nat} {A : Option Addr} {c : Nat} {w : World} {L : List (Int × Int)} (HL : Hid (mkOf a ks = L)) (HN : N < w.heap.size) (HC : Cells w N [.int .i64 op, .int .i64 a, .int .i64 b]) (HS : SlcIs IntAt 1 w w.heap.size A c ks) (hl : ks.length ≤ 1000) :
    Calls Try.prog 90 #[.slice A ks.length c, .pointer (some ⟨N, 0, none⟩)] w (OwnTypes L w) := by
  have H := fmk_any ks op a b N A c w HN HC HS hl
  rw [HL.out] at H
  exact H
end Go.Proofs.Ytgpmdhdooglkfaa
namespace Go.Proofs.Ytgpmdhdooglkfaa
set_option maxRecDepth 100000
set_option linter.unusedVariables false
set_option linter.unusedSimpArgs false
open Go.ChangeShapes Go.WideShapes Go.ChangeAt Go.RowKit

theorem ftslc_drop {w : World} {B c n : Nat} {ad : Addr} {L : List (Int × Int)} (h : SlcIs TyAt 2 w B (some ad) c L) (hn : n ≤ L.length) : SlcIs TyAt 2 w B (some (ad.add (n * 2))) (c - n) (L.drop n) := by
  refine ⟨by have := h.le; rw [List.length_drop]; omega, by have := h.cap; omega, fun i t hi => ?_⟩
  rw [List.getElem?_drop] at hi
  obtain ⟨ad', e, hb, ht⟩ := h.row (n + i) t hi
  injection e with e
  subst e
  refine ⟨_, rfl, by rw [addr_add_block]; exact hb, ?_⟩
  rw [addr_add_add, ← Nat.add_mul]
  exact ht
theorem ftslc_end {w : World} {B c : Nat} {A : Option Addr} {L : List (Int × Int)} (hL : L = []) (hc : c ≤ 9223372036854775807) : SlcIs TyAt 2 w B A c L := by
  subst hL
  exact ⟨Nat.zero_le _, hc, RowOf.nil⟩

theorem fothers_any (m : Img) (f : Nat) (x : Mth) (hal : 0 < x.args.length) (h : Hnd) (w : World) (H : ImgIn w w.heap.size h m) (hx : m.methods[f]? = some x) :
    Calls Try.prog 79 #[imgV h m, .int .i64 f] w (SomeTypes (x.args.drop 1) w) := by
  have HW := Lib.hid ((Below.refl w.heap.size w).alloc (Nat.le_refl _) (imgO h m))
  have HI := Lib.hid (H.now HW.out)
  have HBX := Lib.hid (img_box w h m)
  have HLE := Lib.hid hx
  have hdl : (x.args.drop 1).length = x.args.length - 1 := List.length_drop
  have HDL := Lib.hid hdl
  clear H hx hdl
  go_enter Try.func79, Try.ntmps79
  go_upto_region 1 with fail
  generalize w.alloc (imgO h m) = w1 at *
  obtain ⟨q0, q1, q2, q3, q4, q5, q6⟩ := HBX.out
  have HX0 : Hid (Below w1.heap.size w1 w1) := Lib.hid (Below.refl _ _)
  go_upto_region 2 with (go_at_call 78; (with_reducible refine (fargs_is HI HX0 HLE.out).mono ?_); rintro e w2 ⟨A, c, rfl, hs, hb⟩; have HS2 := Lib.hid hs; have HB2 := Lib.hid hb; clear hs hb)
  obtain ⟨ad, rfl, hab, _⟩ := HS2.out.row.at_ (i := 0) hal
  have hle := HS2.out.le
  have hcap := HS2.out.cap
  have hgt : (x.args.length : Int) > 0 := by omega
  have hb1 : (1 : Int) ≤ (x.args.length : Int) := by omega
  have hb2 : (x.args.length : Int) ≤ (c : Int) := by omega
  by_cases hc1 : c = 1
  · subst hc1
    go_wp2_with fail
    go_ret
    exact ⟨some ad, 0, by rw [show (x.args.drop 1).length = 0 by rw [HDL.out]; omega]; rfl, ftslc_end (List.eq_nil_of_length_eq_zero (by rw [HDL.out]; omega)) (by omega), HW.out.trans (HB2.out.mono HW.out.size)⟩
  · go_wp2_with fail
    go_ret
    exact ⟨some (ad.add (1 * 2)), c - 1, by rw [HDL.out]; rfl, ftslc_drop (n := 1) HS2.out hal, HW.out.trans (HB2.out.mono HW.out.size)⟩
theorem ftslc_alloc {w : World} {A : Option Addr} {c : Nat} {L : List (Int × Int)} (h : SlcIs TyAt 2 w w.heap.size A c L) (o : Obj) : SlcIs TyAt 2 (w.alloc o) (w.alloc o).heap.size A c L :=
  (h.below_to TyAt.keeps ((Below.refl _ _).alloc (Nat.le_refl _) o) (Nat.le_refl _)).keep' TyAt.keeps (by simp) (fun _ _ => rfl)
theorem fothers_is {m : Img} {h : Hnd} {w0 w : World} {f : Nat} {x : Mth} (HI : Hid (ImgIn w0 w0.heap.size h m)) (HX : Hid (Below w0.heap.size w0 w)) (hx : m.methods[f]? = some x) (hal : 0 < x.args.length) :
    Calls Try.prog 79 #[imgV h m, .int .i64 f] w (SomeTypes (x.args.drop 1) w) := fothers_any m f x hal h w (HI.out.now HX.out) hx
theorem cfields_is {m : Img} {h : Hnd} {w0 w : World} {c : Int} {L : List (Int × Int)} (HI : Hid (ImgIn w0 w0.heap.size h m)) (HX : Hid (Below w0.heap.size w0 w)) (HL : Hid (fieldsOf m.classes c = L)) (hn : m.classes.length ≤ 1000) (HF : Hid (∀ x ∈ m.classes, x.fields.length ≤ 1000)) :
    Calls Try.prog 93 #[imgV h m, .int .i64 c] w (OwnTypes L w) := by
  have H := cfields_any m c h w (HI.out.now HX.out) hn HF.out
  rw [HL.out] at H
  exact H

set_option maxHeartbeats 1600000 in
theorem ffield_any (m : Img) (op a : Int) (k : Nat) (t : Int × Int) (hk : (fieldsOf m.classes a)[k]? = some t) (hn : m.classes.length ≤ 1000) (hf : ∀ x ∈ m.classes, x.fields.length ≤ 1000) (h : Hnd) (w : World) (H : ImgIn w w.heap.size h m) :
    Calls Try.prog 76 #[imgV h m, insV op a (k : Int)] w fun e w' => e = .returned (tyV t.1 t.2) ∧ Below w.heap.size w w' := by
  obtain ⟨L, hL⟩ : ∃ L, fieldsOf m.classes a = L := ⟨_, rfl⟩
  have HL := Lib.hid hL
  rw [hL] at hk
  have HF := Lib.hid hf
  have HK := Lib.hid hk
  obtain ⟨hw, hp⟩ := three_parts h m op a (k : Int) w
  have HW := Lib.hid hw
  have HP := Lib.hid hp
  have HI := Lib.hid (H.now hw)
  clear hw hp H hk hL hf
  go_enter Try.func76, Try.ntmps76
  go_upto_region 1 with fail
  change Code.wp _ _ _ _ (threeW h m op a (k : Int) w)
  generalize threeW h m op a (k : Int) w = w1 at *
  have HX : Hid (Below w1.heap.size w1 w1.drew) := Lib.hid (Below.refl w1.heap.size w1).drew
  have HXA : Hid (Below w1.heap.size w1 (w1.alloc (.cells #[.int .i64 0, .int .i64 0] 39)).drew) := Lib.hid ((Below.refl w1.heap.size w1).alloc (Nat.le_refl _) _).drew
  have HKP : Hid (∀ W, Below w1.heap.size w1 W → (fun w' => w'.cell? ⟨w.heap.size, 0, none⟩ = some (.slice h.A0 m.classes.length h.c0) ∧ w'.cell? ⟨w.heap.size, 1, none⟩ = some (.slice h.A1 m.statics.length h.c1) ∧ w'.cell? ⟨w.heap.size, 2, none⟩ = some (.slice h.A2 m.ints.length h.c2) ∧ w'.cell? ⟨w.heap.size, 3, none⟩ = some (.slice h.A3 m.methods.length h.c3) ∧ w'.cell? ⟨w.heap.size, 4, none⟩ = some (.slice h.A4 m.entries.length h.c4) ∧ w'.cell? ⟨w.heap.size, 5, none⟩ = some (.int .i64 m.stack) ∧ w'.cell? ⟨w.heap.size, 6, none⟩ = some (.int .i64 m.heap) ∧ w'.cell? ⟨w.heap.size + 1, 1, none⟩ = some (.int .i64 a) ∧ w'.cell? ⟨w.heap.size + 1, 2, none⟩ = some (.int .i64 (k : Int))) W) := Lib.hid (fun W hW => by
    have hz := HP.out.size
    obtain ⟨d0, d1, d2, d3, d4, d5, d6⟩ := HP.out.img.keep hW (by omega)
    have di := HP.out.ins.keep hW (by omega)
    exact ⟨d0, d1, d2, d3, d4, d5, d6, di 1 _ rfl, di 2 _ rfl⟩)
  go_region_held3 (fun w' => w'.cell? ⟨w.heap.size, 0, none⟩ = some (.slice h.A0 m.classes.length h.c0) ∧ w'.cell? ⟨w.heap.size, 1, none⟩ = some (.slice h.A1 m.statics.length h.c1) ∧ w'.cell? ⟨w.heap.size, 2, none⟩ = some (.slice h.A2 m.ints.length h.c2) ∧ w'.cell? ⟨w.heap.size, 3, none⟩ = some (.slice h.A3 m.methods.length h.c3) ∧ w'.cell? ⟨w.heap.size, 4, none⟩ = some (.slice h.A4 m.entries.length h.c4) ∧ w'.cell? ⟨w.heap.size, 5, none⟩ = some (.int .i64 m.stack) ∧ w'.cell? ⟨w.heap.size, 6, none⟩ = some (.int .i64 m.heap) ∧ w'.cell? ⟨w.heap.size + 1, 1, none⟩ = some (.int .i64 a) ∧ w'.cell? ⟨w.heap.size + 1, 2, none⟩ = some (.int .i64 (k : Int))) (first | exact HKP.out _ HX.out | exact HKP.out _ HXA.out | exact HKP.out _ HX4.out | exact HKP.out _ HX3.out | exact HKP.out _ (HX3.out.alloc HX3.out.size _) | exact HKP.out _ (HX4.out.alloc HX4.out.size _) | exact HKP.out _ ((HX4.out.setCell (p := ⟨w1.heap.size, 0, none⟩) (Nat.le_refl _) _).setCell (p := ⟨w1.heap.size, 1, none⟩) (Nat.le_refl _) _) | exact HKP.out _ ((HX4.out.setCell (p := ⟨w3.heap.size, 0, none⟩) HX3.out.size _).setCell (p := ⟨w3.heap.size, 1, none⟩) HX3.out.size _)) (first
    | (go_at_call 93; (first | ((with_reducible refine (cfields_is HI HX HL hn HF).mono ?_); have HY := HX) | ((with_reducible refine (cfields_is HI HXA HL hn HF).mono ?_); have HY := HXA)); rintro e w3 ⟨v3, rfl, ho, hb⟩; (first | (have HQA := Lib.hid (Whole.keep (show Whole (w1.alloc (.cells #[.int .i64 0, .int .i64 0] 39)).drew w1.heap.size [.int .i64 0, .int .i64 0] 39 from Whole.new w1 _ _) hb (by simp))) | skip); obtain ⟨A3, c3, rfl, hs, _⟩ := own_types ho; have HZ3 := Lib.hid hb; have HX3 := Lib.hid (HY.out.trans (hb.mono HY.out.size)); have HS3 := Lib.hid hs; clear ho hb hs)
    | (go_at_call 92; (first | ((with_reducible refine (fattyp_is HS3.out HK.out).mono ?_); have HY4 := HX3) | ((with_reducible refine (fattyp_is (ftslc_alloc HS3.out _) HK.out).mono ?_); have HY4 := Lib.hid (HX3.out.alloc HX3.out.size (.cells #[.int .i64 0, .int .i64 0] 39)))); rintro e w4 ⟨rfl, hb⟩; have HZ4 := Lib.hid hb; have HX4 := Lib.hid (HY4.out.trans (hb.mono HY4.out.size)); (first | (have hq := HQA.out.keep hb HQA.out.lt) | (have hq := (Whole.new w3 [.int .i64 0, .int .i64 0] 39).keep hb (by simp)) | (have hq := trivial)); (first | (have f0 := hq.free 0; have f1 := hq.free 1; have r0 := hq.cells 0 _ rfl; have r1 := hq.cells 1 _ rfl) | skip); have HQ4 := Lib.hid hq; clear hq hb))
  all_goals
    first
      | (have HQ5 : Hid (Whole ((w4.setCell ⟨w1.heap.size, 0, none⟩ (.int .i64 t.1)).setCell ⟨w1.heap.size, 1, none⟩ (.int .i64 t.2)) w1.heap.size [.int .i64 t.1, .int .i64 t.2] 39) := Lib.hid ((HQ4.out.set 0 (.int .i64 t.1)).set 1 (.int .i64 t.2)); have HB5 : Hid (Below w1.heap.size w1 ((w4.setCell ⟨w1.heap.size, 0, none⟩ (.int .i64 t.1)).setCell ⟨w1.heap.size, 1, none⟩ (.int .i64 t.2))) := Lib.hid ((HX4.out.setCell (p := ⟨w1.heap.size, 0, none⟩) (Nat.le_refl _) (.int .i64 t.1)).setCell (p := ⟨w1.heap.size, 1, none⟩) (Nat.le_refl _) (.int .i64 t.2)); generalize ((w4.setCell ⟨w1.heap.size, 0, none⟩ (.int .i64 t.1)).setCell ⟨w1.heap.size, 1, none⟩ (.int .i64 t.2)) = w5 at *)
      | (have HQ5 : Hid (Whole ((w4.setCell ⟨w3.heap.size, 0, none⟩ (.int .i64 t.1)).setCell ⟨w3.heap.size, 1, none⟩ (.int .i64 t.2)) w3.heap.size [.int .i64 t.1, .int .i64 t.2] 39) := Lib.hid ((HQ4.out.set 0 (.int .i64 t.1)).set 1 (.int .i64 t.2)); have HB5 : Hid (Below w1.heap.size w1 ((w4.setCell ⟨w3.heap.size, 0, none⟩ (.int .i64 t.1)).setCell ⟨w3.heap.size, 1, none⟩ (.int .i64 t.2))) := Lib.hid ((HX4.out.setCell (p := ⟨w3.heap.size, 0, none⟩) HX3.out.size (.int .i64 t.1)).setCell (p := ⟨w3.heap.size, 1, none⟩) HX3.out.size (.int .i64 t.2)); generalize ((w4.setCell ⟨w3.heap.size, 0, none⟩ (.int .i64 t.1)).setCell ⟨w3.heap.size, 1, none⟩ (.int .i64 t.2)) = w5 at *)
      | (have HQ5 := Lib.hid (Whole.new w4 [.int .i64 t.1, .int .i64 t.2] 39); have HB5 : Hid (Below w1.heap.size w1 (w4.alloc (.cells #[.int .i64 t.1, .int .i64 t.2] 39))) := Lib.hid (HX4.out.alloc HX4.out.size _); change Exit.then _ _ _ _ (w4.alloc (.cells #[.int .i64 t.1, .int .i64 t.2] 39)); generalize w4.alloc (.cells #[.int .i64 t.1, .int .i64 t.2] 39) = w5 at *)
    have c0 := HQ5.out.cells 0 _ rfl
    have c1 := HQ5.out.cells 1 _ rfl
    have hq := HP.out.res.keep HB5.out HP.out.res.lt
    have f0 := hq.free 0
    have f1 := hq.free 1
    have r0 := hq.cells 0 _ rfl
    have r1 := hq.cells 1 _ rfl
    clear hq
    go_wp2_with fail
    obtain ⟨d0, d1, db⟩ := res_set (x := t.1) (y := t.2) HW.out HB5.out HP.out.res.lt HP.out.res
    exact bodyPost_ret (v := tyV t.1 t.2) (by simp [results, Try.results76, go_sem, d0, d1]) rfl ⟨rfl, db⟩
theorem ffield_is {m : Img} {h : Hnd} {w0 w : World} {op a : Int} {k : Nat} {t : Int × Int} (HI : Hid (ImgIn w0 w0.heap.size h m)) (HX : Hid (Below w0.heap.size w0 w)) (HK : Hid ((fieldsOf m.classes a)[k]? = some t)) (hn : m.classes.length ≤ 1000) (HF : Hid (∀ x ∈ m.classes, x.fields.length ≤ 1000)) :
    Calls Try.prog 76 #[imgV h m, insV op a (k : Int)] w fun e w' => e = .returned (tyV t.1 t.2) ∧ Below w.heap.size w w' := ffield_any m op a k t HK.out hn HF.out h w (HI.out.now HX.out)
end Go.Proofs.Ytgpmdhdooglkfaa
namespace Go.Proofs.Ytgpmdhdooglkfaa
set_option maxRecDepth 100000
set_option linter.unusedVariables false
set_option linter.unusedSimpArgs false
open Go.ChangeShapes Go.WideShapes Go.ChangeAt Go.RowKit

theorem fgrow_any (n : Nat) (hn : n ≤ 1000000) (w : World) :
    Calls Try.prog 85 #[.slice none 0 0, .int .i64 n] w fun e w' => ∃ v, e = .returned v ∧ w'.ownsRow w.heap.size 39 2 v 0 [] ∧ Below w.heap.size w w' := by
  obtain ⟨i0, hi, hz0, hz1, hz2⟩ := info_partsK info_type
  rcases Nat.eq_zero_or_pos n with rfl | hp
  · go_enter Try.func85, Try.ntmps85
    go_wp2
    go_ret
    exact ⟨_, rfl, World.ownsRow_nil _ _ _ _, Below.refl _ _⟩
  · have hw1 : IntKind.i64.wrap ((n : Int) - 0) = (n : Int) := by rw [Int.sub_zero]; exact IntWalk.i64_in _ (by omega)
    have h1 : ¬ ((n : Int) < 0) := by omega
    have h4 : (n : Int) > 0 := by omega
    have hrz : ∀ ty, (Builtin.append_ #[23, 3] ty #[.slice none 0 0, .int .i64 n]).run Try.prog w = _ := fun ty =>
      Lib.run_append_nil_zeros w 23 3 ty 39 i0 _ .i64 .i64 Try.underlying23 Try.underlying3 hi hz0 n hp (by omega) (by omega) (by rw [hz2]; omega)
    have hg1 := grownCap_ge w n 0 39
    have hg2 := grownCap_le_maxLen w n 0 39 (by unfold maxLen; omega)
    obtain ⟨G, hG⟩ : ∃ G, G = grownCap w n 0 39 := ⟨_, rfl⟩
    rw [← hG] at hrz hg1 hg2
    have hG63 : G ≤ 9223372036854775807 := by unfold maxLen at hg2; omega
    have HO : Hid (∀ w1, w1 = w.drew.alloc (.cells (Builtin.zeroCells (Value.agg #[.int .i64 0, .int .i64 0]).cells n ++ Builtin.zeroCells (Value.agg #[.int .i64 0, .int .i64 0]).cells (G - n)) 39) → w1.ownsRow w.heap.size 39 2 (.slice (some ⟨w.heap.size, 0, none⟩) 0 G) 0 [] ∧ Below w.heap.size w w1) := Lib.hid (fun w1 h => by
      subst h
      refine ⟨⟨rfl, .inr ⟨w.heap.size, G, _, rfl, Nat.le_refl _, heap_alloc_new _ _, Nat.zero_le _, hg2, ?_, by simp⟩⟩, ((Below.refl _ _).drew).alloc (Nat.le_refl _) _⟩
      rw [Array.size_append, size_zeroCells, size_zeroCells]
      show n * 2 + (G - n) * 2 = G * 2
      omega)
    clear hG hi hz0 hz1 hz2
    go_enter Try.func85, Try.ntmps85
    go_wp2_with (at_builtin; refine Lib.wpList_append_run _ rfl _ _ _ _ rfl _ _ rfl rfl _ _ (hrz _) ?_)
    go_ret
    obtain ⟨o1, o2⟩ := HO.out _ rfl
    exact ⟨_, rfl, o1, o2⟩
theorem fgrow_is {n : Nat} {w : World} {z : Int} (HZ : Hid (z = (n : Int))) (hn : n ≤ 1000000) :
    Calls Try.prog 85 #[.slice none 0 0, .int .i64 z] w fun e w' => ∃ v, e = .returned v ∧ w'.ownsRow w.heap.size 39 2 v 0 [] ∧ Below w.heap.size w w' := by
  rw [HZ.out]
  exact fgrow_any n hn w
set_option maxHeartbeats 1600000 in
theorem fconcat_any (L M : List (Int × Int)) (A B : Option Addr) (c d g : Nat) (w : World) (h : SlcIs TyAt 2 w w.heap.size A c L) (h' : SlcIs TyAt 2 w w.heap.size B d M) (hg : g < w.heap.size) (hc : Cells w g [.slice A L.length c, .slice B M.length d]) (hL : L.length ≤ 4000) (hM : M.length ≤ 1000) :
    Calls Try.prog 60 #[.slice (some ⟨g, 0, none⟩) 2 2] w (OwnTypes (L ++ M) w) := by
  obtain ⟨i0, hi, hz0, hz1, hz2⟩ := info_partsK info_type
  have HL := Lib.hid h
  have HM := Lib.hid h'
  have HC := Lib.hid hc
  have HG := Lib.hid hg
  have HZ2 : Hid ((((L.length + M.length : Nat) : Int)) = ((L.length + M.length : Nat) : Int)) := Lib.hid rfl
  have c0 := hc 0 _ rfl
  have c1 := hc 1 _ rfl
  have HLM : Hid ((L ++ M).length = L.length + M.length) := Lib.hid List.length_append
  clear h h' hc
  go_enter Try.func60, Try.ntmps60
  go_wp2_with fail
  go_loopw [3, 11] (fun z i wr => wr = w ∧ ((i = .int .i64 0 ∧ z = .int .i64 0) ∨ (i = .int .i64 1 ∧ z = .int .i64 (L.length : Int)) ∨ (i = .int .i64 2 ∧ z = .int .i64 ((L.length + M.length : Nat) : Int)))) (fun _ i _ => 2 - (intOf i).toNat)
  case atStart => exact ⟨rfl, .inl ⟨rfl, rfl⟩⟩
  case round =>
    obtain ⟨hwr, h⟩ := hrel
    have hwr := hwr.symm
    subst hwr
    rcases h with ⟨rfl, rfl⟩ | ⟨rfl, rfl⟩ | ⟨rfl, rfl⟩
    · have hw1 : IntKind.i64.wrap (0 + (L.length : Int)) = (L.length : Int) := by rw [Int.zero_add]; exact IntWalk.i64_in _ (by omega)
      have hw2 : IntKind.i64.wrap (L.length : Int) = (L.length : Int) := IntWalk.i64_in _ (by omega)
      have hnn : ¬ (L.length : Int) < 0 := by omega
      go_wp2_with fail
      go_roundw
      case rel => exact ⟨trivial, .inr (.inl ⟨by go_num, rfl⟩)⟩
      case measure => simp [intOf]
    · have hw1 : IntKind.i64.wrap ((L.length : Int) + (M.length : Int)) = ((L.length + M.length : Nat) : Int) := by rw [← Int.natCast_add]; exact IntWalk.i64_in _ (by omega)
      have hnn : ¬ ((L.length + M.length : Nat) : Int) < 0 := by omega
      go_wp2_with fail
      go_roundw
      case rel => exact ⟨trivial, .inr (.inr ⟨by go_num, by go_num⟩)⟩
      case measure => simp [intOf]
    · go_wp2_with (go_at_call 85; (with_reducible refine (fgrow_is (n := L.length + M.length) (Lib.hid (by omega)) (by omega)).mono ?_); rintro e w2 ⟨v2, rfl, ho, hb⟩; have HO2 := Lib.hid ho; have HB2 := Lib.hid hb; clear ho hb)
      go_loopw [6, 27] (fun v i w3 => ((i = .int .i64 0 ∧ Hid (w3.ownsRow w.heap.size 39 2 v 0 [])) ∨ (i = .int .i64 1 ∧ Hid (w3.ownsRow w.heap.size 39 2 v L.length (tysV L))) ∨ (i = .int .i64 2 ∧ Hid (w3.ownsRow w.heap.size 39 2 v (L.length + M.length) (tysV L ++ tysV M)))) ∧ Hid (Below w.heap.size w w3)) (fun _ i _ => 2 - (intOf i).toNat)
      case atStart => exact ⟨.inl ⟨rfl, HO2⟩, HB2⟩
      case round =>
        obtain ⟨h, HX⟩ := hrel
        rcases h with ⟨rfl, HO⟩ | ⟨rfl, HO⟩ | ⟨rfl, HO⟩
        · have c0 := (HX.out.cell (p := ⟨g, 0, none⟩) HG.out).trans (HC.out 0 _ rfl)
          have HT := Lib.hid (tys_lie (HL.out.below_to TyAt.keeps HX.out (Nat.le_refl _)).row)
          have hsz := HX.out.size
          go_wp2_with (at_builtin; refine append_liesK rfl _ _ 23 rfl w.heap.size 39 i0 (.agg #[.int .i64 0, .int .i64 0]) 2 16 Try.underlying23 hi hz0 hz1 hz2 rfl (by decide) _ 0 [] rfl HO.out A L.length c _ (tysV L) (tysV_len _) rfl HT.out (tysV_one _) (by unfold maxLen; omega) (by omega) hsz ?_; intro v6 w6 hown hgrow; have HX6 := Lib.hid (appK_more HX.out HO.out hsz hgrow); have HO6 := Lib.hid hown; clear hown hgrow)
          go_roundw
          case rel => exact ⟨.inr (.inl ⟨by go_num, Lib.hid (by simpa using HO6.out)⟩), HX6⟩
          case measure => simp [intOf]
        · have c1 := (HX.out.cell (p := ⟨g, 1, none⟩) HG.out).trans (HC.out 1 _ rfl)
          have HT := Lib.hid (tys_lie (HM.out.below_to TyAt.keeps HX.out (Nat.le_refl _)).row)
          have hsz := HX.out.size
          go_wp2_with (at_builtin; refine append_liesK rfl _ _ 23 rfl w.heap.size 39 i0 (.agg #[.int .i64 0, .int .i64 0]) 2 16 Try.underlying23 hi hz0 hz1 hz2 rfl (by decide) _ L.length (tysV L) rfl HO.out B M.length d _ (tysV M) (tysV_len _) rfl HT.out (tysV_one _) (by unfold maxLen; omega) (by omega) hsz ?_; intro v6 w6 hown hgrow; have HX6 := Lib.hid (appK_more HX.out HO.out hsz hgrow); have HO6 := Lib.hid hown; clear hown hgrow)
          go_roundw
          case rel => exact ⟨.inr (.inr ⟨by go_num, HO6⟩), HX6⟩
          case measure => simp [intOf]
        · go_wp2_with fail
          go_ret
          refine ⟨_, rfl, ?_, HX.out⟩
          rw [HLM.out]
          show World.ownsRow _ _ _ _ _ _ ((L ++ M).flatMap tyC)
          rw [List.flatMap_append]
          exact HO.out
theorem fconcat_more {L M N : List (Int × Int)} {A B : Option Addr} {c d g : Nat} {w : World} (HN : Hid (L ++ M = N)) (h : SlcIs TyAt 2 w w.heap.size A c L) (h' : SlcIs TyAt 2 w w.heap.size B d M) (hg : g < w.heap.size) (hc : Cells w g [.slice A L.length c, .slice B M.length d]) (hL : L.length ≤ 4000) (hM : M.length ≤ 1000) :
    Calls Try.prog 60 #[.slice (some ⟨g, 0, none⟩) 2 2] w (OwnTypes N w) := by
  have H := fconcat_any L M A B c d g w h h' hg hc hL hM
  rw [HN.out] at H
  exact H
theorem fconcat_is {L M N : List (Int × Int)} {A B : Option Addr} {c d g : Nat} {w : World} (HN : Hid (L ++ M = N)) (h : SlcIs TyAt 2 w w.heap.size A c L) (h' : SlcIs TyAt 2 w w.heap.size B d M) (hg : g < w.heap.size) (hc : Cells w g [.slice A L.length c, .slice B M.length d]) (hL : L.length ≤ 1000) (hM : M.length ≤ 1000) :
    Calls Try.prog 60 #[.slice (some ⟨g, 0, none⟩) 2 2] w (OwnTypes N w) := by
  have H := fconcat_any L M A B c d g w h h' hg hc (Nat.le_trans hL (by decide)) hM
  rw [HN.out] at H
  exact H
end Go.Proofs.Ytgpmdhdooglkfaa
namespace Go.Proofs.Ytgpmdhdooglkfaa
set_option maxRecDepth 100000
set_option linter.unusedVariables false
set_option linter.unusedSimpArgs false
open Go.ChangeShapes Go.WideShapes Go.ChangeAt Go.RowKit

theorem is_yes (op : Int) (h0 : 7 ≤ op) (h1 : op ≤ 17) (w : World) : Calls Try.prog 82 #[.int .i64 op] w fun e w' => e = .returned (.bool true) ∧ w = w' := by
  have h : op = 7 ∨ op = 8 ∨ op = 9 ∨ op = 10 ∨ op = 11 ∨ op = 12 ∨ op = 13 ∨ op = 14 ∨ op = 15 ∨ op = 16 ∨ op = 17 := by omega
  clear h0 h1
  rcases h with rfl | rfl | rfl | rfl | rfl | rfl | rfl | rfl | rfl | rfl | rfl
  all_goals
    go_enter Try.func82, Try.ntmps82
    go_wp2
    go_ret
    exact ⟨rfl, rfl⟩
theorem is_no (op : Int) (h : op < 7 ∨ 17 < op) (w : World) : Calls Try.prog 82 #[.int .i64 op] w fun e w' => e = .returned (.bool false) ∧ w = w' := by
  have n7 : ¬ op = 7 := by omega
  have n8 : ¬ op = 8 := by omega
  have n9 : ¬ op = 9 := by omega
  have n10 : ¬ op = 10 := by omega
  have n11 : ¬ op = 11 := by omega
  have n12 : ¬ op = 12 := by omega
  have n13 : ¬ op = 13 := by omega
  have n14 : ¬ op = 14 := by omega
  have n15 : ¬ op = 15 := by omega
  have n16 : ¬ op = 16 := by omega
  have n17 : ¬ op = 17 := by omega
  clear h
  go_enter Try.func82, Try.ntmps82
  go_wp2
  go_ret
  exact ⟨rfl, rfl⟩
end Go.Proofs.Ytgpmdhdooglkfaa
