/-
  What flow's words for where an instruction goes on (goesOn), and whether one of the places lies behind the last instruction (leaves), come to.
  What flow's words for a method's other arguments (others) and for the field that an instruction names (field) come to.
  What slices.Concat of two lists of types comes to (by slices.Grow of none).
-/
import Derived.Test.YtndacljmcofopaaM08
import Derived.Test.YtndacljmcofopaaM23
import Derived.IntWalk
import Derived.Lib.AppendZeros
namespace Go.Proofs.Ytndacljmcofopaa
set_option maxRecDepth 100000
set_option linter.unusedVariables false
set_option linter.unusedSimpArgs false
open Go.ChangeShapes Go.WideShapes Go.ChangeAt Go.RowKit

/-- A list of numbers, wherever it lies. -/
def SomeInts (L : List Int) (w : World) (e : Ending) (w' : World) : Prop := ∃ A c, e = .returned (.slice A L.length c) ∧ SlcIs IntAt 1 w' w'.heap.size A c L ∧ Below w.heap.size w w'
theorem int_two {w : World} {g : Nat} {p q : Int} (hg : g < w.heap.size) (h0 : w.cell? ⟨g, 0, none⟩ = some (.int .i64 p)) (h1 : w.cell? ⟨g, 1, none⟩ = some (.int .i64 q)) : SlcIs IntAt 1 w w.heap.size (some ⟨g, 0, none⟩) 2 [p, q] :=
  ⟨Nat.le_refl _, by omega, fun i t hi => by
    match i, hi with
    | 0, hi => simp at hi; subst hi; exact ⟨_, rfl, hg, h0⟩
    | 1, hi => simp at hi; subst hi; exact ⟨_, rfl, hg, (show w.cell? _ = _ by simpa [Addr.add] using h1)⟩
    | i + 2, hi => simp at hi⟩
theorem fgoes_any (op a b : Int) (pc : Nat) (hpc : pc ≤ 1000000) (w : World) :
    Calls Try.prog 20 #[insV op a b, .int .i64 pc] w (SomeInts (nextOfOp pc op a) w) := by
  have hw1 : IntKind.i64.wrap ((pc : Int) + 1) = (pc : Int) + 1 := IntWalk.i64_in _ (by omega)
  by_cases h18 : op = 18
  · subst h18
    have e : nextOfOp (pc : Int) 18 a = [a] := rfl
    rw [e]
    clear e
    go_enter Try.func20, Try.ntmps20
    go_wp2_with fail
    go_ret
    exact ⟨_, _, rfl, int_one (by simp) (by go_simp), ((Below.refl _ _).alloc (Nat.le_refl _) _).alloc (by simp) _⟩
  · by_cases h19 : op = 19
    · subst h19
      have e : nextOfOp (pc : Int) 19 a = [(pc : Int) + 1, a] := rfl
      rw [e]
      clear e
      go_enter Try.func20, Try.ntmps20
      go_wp2_with fail
      go_ret
      exact ⟨_, _, rfl, int_two (by simp) (by go_simp) (by go_simp), ((Below.refl _ _).alloc (Nat.le_refl _) _).alloc (by simp) _⟩
    · by_cases h33 : op = 33
      · subst h33
        have e : nextOfOp (pc : Int) 33 a = [] := rfl
        rw [e]
        clear e
        go_enter Try.func20, Try.ntmps20
        go_wp2_with fail
        go_ret
        exact ⟨_, _, rfl, slc_none, (Below.refl _ _).alloc (Nat.le_refl _) _⟩
      · have e : nextOfOp (pc : Int) op a = [(pc : Int) + 1] := by unfold nextOfOp; rw [if_neg h18, if_neg h19, if_neg h33]
        rw [e]
        clear e
        go_enter Try.func20, Try.ntmps20
        go_wp2_with fail
        go_ret
        exact ⟨_, _, rfl, int_one (by simp) (by go_simp), ((Below.refl _ _).alloc (Nat.le_refl _) _).alloc (by simp) _⟩
theorem fgoes_is {op a b : Int} {pc : Nat} {w : World} {L : List Int} (HL : Hid (nextOfOp pc op a = L)) (hpc : pc ≤ 1000000) :
    Calls Try.prog 20 #[insV op a b, .int .i64 pc] w (SomeInts L w) := by
  have H := fgoes_any op a b pc hpc w
  rw [HL.out] at H
  exact H

/-- Is one of these numbers as great? -/
def farB (n : Int) (l : List Int) : Bool := l.any fun x => decide (n ≤ x)
abbrev leaveF (N : Nat) : Value := .func (.func 40) #[] #[.pointer (some ⟨N, 0, none⟩)]
theorem fleave1_any (x n : Int) (N : Nat) (w : World) (hc : w.cell? ⟨N, 0, none⟩ = some (.int .i64 n)) :
    Calls Try.prog 40 #[.int .i64 x, .pointer (some ⟨N, 0, none⟩)] w fun e w' => e = .returned (.bool (decide (n ≤ x))) ∧ w' = w := by
  go_enter Try.func40, Try.ntmps40
  go_wp2_with fail
  go_ret
  exact ⟨rfl, rfl⟩
theorem fleave1_is {x n : Int} {N : Nat} {w : World} {r : Bool} (hc : w.cell? ⟨N, 0, none⟩ = some (.int .i64 n)) (HR : Hid (decide (n ≤ x) = r)) :
    Calls Try.prog 40 #[.int .i64 x, .pointer (some ⟨N, 0, none⟩)] w fun e w' => e = .returned (.bool r) ∧ w' = w := by
  have H := fleave1_any x n N w hc
  rw [HR.out] at H
  exact H
theorem any_take {f : Int → Bool} {l : List Int} {k : Nat} (hk : k < l.length) (h : (l.take k).any f = false) (hx : f l[k] = false) : (l.take (k + 1)).any f = false := by
  rw [List.take_succ_eq_append_getElem hk, List.any_append, h]
  simp [hx]
theorem any_at {f : Int → Bool} {l : List Int} {k : Nat} (hk : k < l.length) (hx : f l[k] = true) : l.any f = true := List.any_eq_true.mpr ⟨_, List.getElem_mem hk, hx⟩
theorem findex_any (l : List Int) (n : Int) (N : Nat) (A : Option Addr) (c : Nat) (w : World) (hc : w.cell? ⟨N, 0, none⟩ = some (.int .i64 n)) (h : SlcIs IntAt 1 w w.heap.size A c l) :
    Calls Try.prog 62 #[.slice A l.length c, leaveF N] w fun e w' => ∃ z : Int, e = .returned (.int .i64 z) ∧ decide (z ≥ 0) = farB n l ∧ w' = w := by
  have hle := h.le
  have hcap := h.cap
  have HS := Lib.hid h
  clear h
  go_enter Try.func62, Try.ntmps62
  go_wp2_with fail
  go_loopw [8] (fun i wr => ∃ k : Nat, k ≤ l.length ∧ i = .int .i64 k ∧ Hid (farB n (l.take k) = false) ∧ wr = w) (fun i _ => l.length - (intOf i).toNat)
  case atStart => exact ⟨0, by omega, rfl, Lib.hid rfl, rfl⟩
  case round =>
    obtain ⟨k, hk, rfl, HA, rfl⟩ := hrel
    by_cases hlt : k < l.length
    · obtain ⟨ad, rfl, hab, hcz⟩ := HS.out.row.at_ hlt
      have hcz : wr.cell? (ad.add k) = some (.int .i64 l[k]) := by have := hcz; rw [Nat.mul_one] at this; exact this
      obtain ⟨r, hr⟩ : ∃ r, decide (n ≤ l[k]) = r := ⟨_, rfl⟩
      have HR := Lib.hid hr
      cases r
      · have HA2 : Hid (farB n (l.take (k + 1)) = false) := Lib.hid (any_take hlt HA.out hr)
        clear hr
        go_wp2_with (go_at_call 40; (with_reducible refine (fleave1_is hc HR).mono ?_); rintro e w1 ⟨rfl, rfl⟩)
        go_roundw
        case rel => exact ⟨k + 1, by omega, by go_num, HA2, trivial⟩
        case measure => simp [intOf]; omega
      · have HA2 : Hid (farB n l = true) := Lib.hid (any_at hlt hr)
        clear hr
        go_wp2_with (go_at_call 40; (with_reducible refine (fleave1_is hc HR).mono ?_); rintro e w1 ⟨rfl, rfl⟩)
        go_ret
        exact ⟨_, rfl, by rw [HA2.out]; simp, rfl⟩
    · have HA2 : Hid (farB n l = false) := Lib.hid (by have := HA.out; rwa [List.take_of_length_le (by omega)] at this)
      go_wp2_with fail
      go_ret
      exact ⟨_, rfl, by rw [HA2.out]; rfl, rfl⟩
theorem fcontains_any (l : List Int) (n : Int) (N : Nat) (A : Option Addr) (c : Nat) (w : World) (hc : w.cell? ⟨N, 0, none⟩ = some (.int .i64 n)) (h : SlcIs IntAt 1 w w.heap.size A c l) :
    Calls Try.prog 39 #[.slice A l.length c, leaveF N] w fun e w' => e = .returned (.bool (farB n l)) ∧ w' = w := by
  have HS := Lib.hid h
  have HC := Lib.hid hc
  clear h hc
  go_enter Try.func39, Try.ntmps39
  go_wp2_with (go_at_call 62; (with_reducible refine (findex_any l n N A c _ HC.out HS.out).mono ?_); rintro e w1 ⟨z, rfl, hz, rfl⟩; have HZ := Lib.hid hz; clear hz)
  go_ret
  exact ⟨by rw [← HZ.out]; rfl, rfl⟩
theorem fleaves_any (l : List Int) (n : Int) (A : Option Addr) (c : Nat) (w : World) (h : SlcIs IntAt 1 w w.heap.size A c l) :
    Calls Try.prog 21 #[.slice A l.length c, .int .i64 n] w fun e w' => e = .returned (.bool (farB n l)) ∧ Below w.heap.size w w' := by
  have hA : Below w.heap.size w (w.alloc (.cells #[.int .i64 n] 3)) := (Below.refl _ _).alloc (Nat.le_refl _) _
  have HA := Lib.hid hA
  have HS := Lib.hid ((h.below_to IntAt.keeps hA (Nat.le_refl _)).keep' IntAt.keeps hA.size (fun _ _ => rfl))
  have HC := Lib.hid (cells_new w [.int .i64 n] 3)
  clear h hA
  go_enter Try.func21, Try.ntmps21
  go_upto_region 1 with fail
  generalize w.alloc (.cells #[.int .i64 n] 3) = w1 at *
  have c0 := HC.out 0 _ rfl
  go_wp2_with (go_at_call 39; (with_reducible refine (fcontains_any l n w.heap.size A c w1 c0 HS.out).mono ?_); rintro e w2 ⟨rfl, rfl⟩)
  go_ret
  exact ⟨rfl, HA.out⟩
theorem fleaves_is {l : List Int} {n : Int} {A : Option Addr} {c : Nat} {w : World} {r : Bool} (h : SlcIs IntAt 1 w w.heap.size A c l) (HR : Hid (farB n l = r)) :
    Calls Try.prog 21 #[.slice A l.length c, .int .i64 n] w fun e w' => e = .returned (.bool r) ∧ Below w.heap.size w w' := by
  have H := fleaves_any l n A c w h
  rw [HR.out] at H
  exact H
end Go.Proofs.Ytndacljmcofopaa
namespace Go.Proofs.Ytndacljmcofopaa
set_option maxRecDepth 100000
set_option linter.unusedVariables false
set_option linter.unusedSimpArgs false
open Go.ChangeShapes Go.WideShapes Go.ChangeAt Go.RowKit

theorem ftslc_drop {w : World} {B c n : Nat} {ad : Addr} {L : List (Int × Int)} (h : SlcIs TyAt 2 w B (some ad) c L) (hn : n ≤ L.length) : SlcIs TyAt 2 w B (some (ad.add (n * 2))) (c - n) (L.drop n) := by
  refine ⟨by have := h.le; rw [List.length_drop]; omega, by have := h.cap; omega, fun i t hi => ?_⟩
  rw [List.getElem?_drop] at hi
  obtain ⟨ad', e, hb, ht⟩ := h.row (n + i) t hi
  injection e with e
  subst e
  refine ⟨_, rfl, by rw [addr_add_block]; exact hb, ?_⟩
  rw [addr_add_add, ← Nat.add_mul]
  exact ht
theorem ftslc_end {w : World} {B c : Nat} {A : Option Addr} {L : List (Int × Int)} (hL : L = []) (hc : c ≤ 9223372036854775807) : SlcIs TyAt 2 w B A c L := by
  subst hL
  exact ⟨Nat.zero_le _, hc, RowOf.nil⟩

theorem fothers_any (m : Img) (f : Nat) (x : Mth) (hal : 0 < x.args.length) (h : Hnd) (w : World) (H : ImgIn w w.heap.size h m) (hx : m.methods[f]? = some x) :
    Calls Try.prog 46 #[imgV h m, .int .i64 f] w (SomeTypes (x.args.drop 1) w) := by
  have HW := Lib.hid ((Below.refl w.heap.size w).alloc (Nat.le_refl _) (imgO h m))
  have HI := Lib.hid (H.now HW.out)
  have HBX := Lib.hid (img_box w h m)
  have HLE := Lib.hid hx
  have hdl : (x.args.drop 1).length = x.args.length - 1 := List.length_drop
  have HDL := Lib.hid hdl
  clear H hx hdl
  go_enter Try.func46, Try.ntmps46
  go_upto_region 1 with fail
  generalize w.alloc (imgO h m) = w1 at *
  obtain ⟨q0, q1, q2, q3, q4, q5, q6⟩ := HBX.out
  have HX0 : Hid (Below w1.heap.size w1 w1) := Lib.hid (Below.refl _ _)
  go_upto_region 2 with (go_at_call 45; (with_reducible refine (fargs_is HI HX0 HLE.out).mono ?_); rintro e w2 ⟨A, c, rfl, hs, hb⟩; have HS2 := Lib.hid hs; have HB2 := Lib.hid hb; clear hs hb)
  obtain ⟨ad, rfl, hab, _⟩ := HS2.out.row.at_ (i := 0) hal
  have hle := HS2.out.le
  have hcap := HS2.out.cap
  have hgt : (x.args.length : Int) > 0 := by omega
  have hb1 : (1 : Int) ≤ (x.args.length : Int) := by omega
  have hb2 : (x.args.length : Int) ≤ (c : Int) := by omega
  by_cases hc1 : c = 1
  · subst hc1
    go_wp2_with fail
    go_ret
    exact ⟨some ad, 0, by rw [show (x.args.drop 1).length = 0 by rw [HDL.out]; omega]; rfl, ftslc_end (List.eq_nil_of_length_eq_zero (by rw [HDL.out]; omega)) (by omega), HW.out.trans (HB2.out.mono HW.out.size)⟩
  · go_wp2_with fail
    go_ret
    exact ⟨some (ad.add (1 * 2)), c - 1, by rw [HDL.out]; rfl, ftslc_drop (n := 1) HS2.out hal, HW.out.trans (HB2.out.mono HW.out.size)⟩
theorem ftslc_alloc {w : World} {A : Option Addr} {c : Nat} {L : List (Int × Int)} (h : SlcIs TyAt 2 w w.heap.size A c L) (o : Obj) : SlcIs TyAt 2 (w.alloc o) (w.alloc o).heap.size A c L :=
  (h.below_to TyAt.keeps ((Below.refl _ _).alloc (Nat.le_refl _) o) (Nat.le_refl _)).keep' TyAt.keeps (by simp) (fun _ _ => rfl)
theorem fothers_is {m : Img} {h : Hnd} {w0 w : World} {f : Nat} {x : Mth} (HI : Hid (ImgIn w0 w0.heap.size h m)) (HX : Hid (Below w0.heap.size w0 w)) (hx : m.methods[f]? = some x) (hal : 0 < x.args.length) :
    Calls Try.prog 46 #[imgV h m, .int .i64 f] w (SomeTypes (x.args.drop 1) w) := fothers_any m f x hal h w (HI.out.now HX.out) hx
theorem cfields_is {m : Img} {h : Hnd} {w0 w : World} {c : Int} {L : List (Int × Int)} (HI : Hid (ImgIn w0 w0.heap.size h m)) (HX : Hid (Below w0.heap.size w0 w)) (HL : Hid (fieldsOf m.classes c = L)) (hn : m.classes.length ≤ 1000) (HF : Hid (∀ x ∈ m.classes, x.fields.length ≤ 1000)) :
    Calls Try.prog 66 #[imgV h m, .int .i64 c] w (OwnTypes L w) := by
  have H := cfields_any m c h w (HI.out.now HX.out) hn HF.out
  rw [HL.out] at H
  exact H

set_option maxHeartbeats 1600000 in
theorem ffield_any (m : Img) (op a : Int) (k : Nat) (t : Int × Int) (hk : (fieldsOf m.classes a)[k]? = some t) (hn : m.classes.length ≤ 1000) (hf : ∀ x ∈ m.classes, x.fields.length ≤ 1000) (h : Hnd) (w : World) (H : ImgIn w w.heap.size h m) :
    Calls Try.prog 43 #[imgV h m, insV op a (k : Int)] w fun e w' => e = .returned (tyV t.1 t.2) ∧ Below w.heap.size w w' := by
  obtain ⟨L, hL⟩ : ∃ L, fieldsOf m.classes a = L := ⟨_, rfl⟩
  have HL := Lib.hid hL
  rw [hL] at hk
  have HF := Lib.hid hf
  have HK := Lib.hid hk
  obtain ⟨hw, hp⟩ := three_parts h m op a (k : Int) w
  have HW := Lib.hid hw
  have HP := Lib.hid hp
  have HI := Lib.hid (H.now hw)
  clear hw hp H hk hL hf
  go_enter Try.func43, Try.ntmps43
  go_upto_region 1 with fail
  change Code.wp _ _ _ _ (threeW h m op a (k : Int) w)
  generalize threeW h m op a (k : Int) w = w1 at *
  have HX : Hid (Below w1.heap.size w1 w1.drew) := Lib.hid (Below.refl w1.heap.size w1).drew
  have HXA : Hid (Below w1.heap.size w1 (w1.alloc (.cells #[.int .i64 0, .int .i64 0] 38)).drew) := Lib.hid ((Below.refl w1.heap.size w1).alloc (Nat.le_refl _) _).drew
  have HKP : Hid (∀ W, Below w1.heap.size w1 W → (fun w' => w'.cell? ⟨w.heap.size, 0, none⟩ = some (.slice h.A0 m.classes.length h.c0) ∧ w'.cell? ⟨w.heap.size, 1, none⟩ = some (.slice h.A1 m.statics.length h.c1) ∧ w'.cell? ⟨w.heap.size, 2, none⟩ = some (.slice h.A2 m.ints.length h.c2) ∧ w'.cell? ⟨w.heap.size, 3, none⟩ = some (.slice h.A3 m.methods.length h.c3) ∧ w'.cell? ⟨w.heap.size, 4, none⟩ = some (.slice h.A4 m.entries.length h.c4) ∧ w'.cell? ⟨w.heap.size, 5, none⟩ = some (.int .i64 m.stack) ∧ w'.cell? ⟨w.heap.size, 6, none⟩ = some (.int .i64 m.heap) ∧ w'.cell? ⟨w.heap.size + 1, 1, none⟩ = some (.int .i64 a) ∧ w'.cell? ⟨w.heap.size + 1, 2, none⟩ = some (.int .i64 (k : Int))) W) := Lib.hid (fun W hW => by
    have hz := HP.out.size
    obtain ⟨d0, d1, d2, d3, d4, d5, d6⟩ := HP.out.img.keep hW (by omega)
    have di := HP.out.ins.keep hW (by omega)
    exact ⟨d0, d1, d2, d3, d4, d5, d6, di 1 _ rfl, di 2 _ rfl⟩)
  go_region_held3 (fun w' => w'.cell? ⟨w.heap.size, 0, none⟩ = some (.slice h.A0 m.classes.length h.c0) ∧ w'.cell? ⟨w.heap.size, 1, none⟩ = some (.slice h.A1 m.statics.length h.c1) ∧ w'.cell? ⟨w.heap.size, 2, none⟩ = some (.slice h.A2 m.ints.length h.c2) ∧ w'.cell? ⟨w.heap.size, 3, none⟩ = some (.slice h.A3 m.methods.length h.c3) ∧ w'.cell? ⟨w.heap.size, 4, none⟩ = some (.slice h.A4 m.entries.length h.c4) ∧ w'.cell? ⟨w.heap.size, 5, none⟩ = some (.int .i64 m.stack) ∧ w'.cell? ⟨w.heap.size, 6, none⟩ = some (.int .i64 m.heap) ∧ w'.cell? ⟨w.heap.size + 1, 1, none⟩ = some (.int .i64 a) ∧ w'.cell? ⟨w.heap.size + 1, 2, none⟩ = some (.int .i64 (k : Int))) (first | exact HKP.out _ HX.out | exact HKP.out _ HXA.out | exact HKP.out _ HX4.out | exact HKP.out _ HX3.out | exact HKP.out _ (HX3.out.alloc HX3.out.size _) | exact HKP.out _ (HX4.out.alloc HX4.out.size _) | exact HKP.out _ ((HX4.out.setCell (p := ⟨w1.heap.size, 0, none⟩) (Nat.le_refl _) _).setCell (p := ⟨w1.heap.size, 1, none⟩) (Nat.le_refl _) _) | exact HKP.out _ ((HX4.out.setCell (p := ⟨w3.heap.size, 0, none⟩) HX3.out.size _).setCell (p := ⟨w3.heap.size, 1, none⟩) HX3.out.size _)) (first
    | (go_at_call 66; (first | ((with_reducible refine (cfields_is HI HX HL hn HF).mono ?_); have HY := HX) | ((with_reducible refine (cfields_is HI HXA HL hn HF).mono ?_); have HY := HXA)); rintro e w3 ⟨v3, rfl, ho, hb⟩; (first | (have HQA := Lib.hid (Whole.keep (show Whole (w1.alloc (.cells #[.int .i64 0, .int .i64 0] 38)).drew w1.heap.size [.int .i64 0, .int .i64 0] 38 from Whole.new w1 _ _) hb (by simp))) | skip); obtain ⟨A3, c3, rfl, hs, _⟩ := own_types ho; have HZ3 := Lib.hid hb; have HX3 := Lib.hid (HY.out.trans (hb.mono HY.out.size)); have HS3 := Lib.hid hs; clear ho hb hs)
    | (go_at_call 65; (first | ((with_reducible refine (fattyp_is HS3.out HK.out).mono ?_); have HY4 := HX3) | ((with_reducible refine (fattyp_is (ftslc_alloc HS3.out _) HK.out).mono ?_); have HY4 := Lib.hid (HX3.out.alloc HX3.out.size (.cells #[.int .i64 0, .int .i64 0] 38)))); rintro e w4 ⟨rfl, hb⟩; have HZ4 := Lib.hid hb; have HX4 := Lib.hid (HY4.out.trans (hb.mono HY4.out.size)); (first | (have hq := HQA.out.keep hb HQA.out.lt) | (have hq := (Whole.new w3 [.int .i64 0, .int .i64 0] 38).keep hb (by simp)) | (have hq := trivial)); (first | (have f0 := hq.free 0; have f1 := hq.free 1; have r0 := hq.cells 0 _ rfl; have r1 := hq.cells 1 _ rfl) | skip); have HQ4 := Lib.hid hq; clear hq hb))
  all_goals
    first
      | (have HQ5 : Hid (Whole ((w4.setCell ⟨w1.heap.size, 0, none⟩ (.int .i64 t.1)).setCell ⟨w1.heap.size, 1, none⟩ (.int .i64 t.2)) w1.heap.size [.int .i64 t.1, .int .i64 t.2] 38) := Lib.hid ((HQ4.out.set 0 (.int .i64 t.1)).set 1 (.int .i64 t.2)); have HB5 : Hid (Below w1.heap.size w1 ((w4.setCell ⟨w1.heap.size, 0, none⟩ (.int .i64 t.1)).setCell ⟨w1.heap.size, 1, none⟩ (.int .i64 t.2))) := Lib.hid ((HX4.out.setCell (p := ⟨w1.heap.size, 0, none⟩) (Nat.le_refl _) (.int .i64 t.1)).setCell (p := ⟨w1.heap.size, 1, none⟩) (Nat.le_refl _) (.int .i64 t.2)); generalize ((w4.setCell ⟨w1.heap.size, 0, none⟩ (.int .i64 t.1)).setCell ⟨w1.heap.size, 1, none⟩ (.int .i64 t.2)) = w5 at *)
      | (have HQ5 : Hid (Whole ((w4.setCell ⟨w3.heap.size, 0, none⟩ (.int .i64 t.1)).setCell ⟨w3.heap.size, 1, none⟩ (.int .i64 t.2)) w3.heap.size [.int .i64 t.1, .int .i64 t.2] 38) := Lib.hid ((HQ4.out.set 0 (.int .i64 t.1)).set 1 (.int .i64 t.2)); have HB5 : Hid (Below w1.heap.size w1 ((w4.setCell ⟨w3.heap.size, 0, none⟩ (.int .i64 t.1)).setCell ⟨w3.heap.size, 1, none⟩ (.int .i64 t.2))) := Lib.hid ((HX4.out.setCell (p := ⟨w3.heap.size, 0, none⟩) HX3.out.size (.int .i64 t.1)).setCell (p := ⟨w3.heap.size, 1, none⟩) HX3.out.size (.int .i64 t.2)); generalize ((w4.setCell ⟨w3.heap.size, 0, none⟩ (.int .i64 t.1)).setCell ⟨w3.heap.size, 1, none⟩ (.int .i64 t.2)) = w5 at *)
      | (have HQ5 := Lib.hid (Whole.new w4 [.int .i64 t.1, .int .i64 t.2] 38); have HB5 : Hid (Below w1.heap.size w1 (w4.alloc (.cells #[.int .i64 t.1, .int .i64 t.2] 38))) := Lib.hid (HX4.out.alloc HX4.out.size _); change Exit.then _ _ _ _ (w4.alloc (.cells #[.int .i64 t.1, .int .i64 t.2] 38)); generalize w4.alloc (.cells #[.int .i64 t.1, .int .i64 t.2] 38) = w5 at *)
    have c0 := HQ5.out.cells 0 _ rfl
    have c1 := HQ5.out.cells 1 _ rfl
    have hq := HP.out.res.keep HB5.out HP.out.res.lt
    have f0 := hq.free 0
    have f1 := hq.free 1
    have r0 := hq.cells 0 _ rfl
    have r1 := hq.cells 1 _ rfl
    clear hq
    go_wp2_with fail
    obtain ⟨d0, d1, db⟩ := res_set (x := t.1) (y := t.2) HW.out HB5.out HP.out.res.lt HP.out.res
    exact bodyPost_ret (v := tyV t.1 t.2) (by simp [results, Try.results43, go_sem, d0, d1]) rfl ⟨rfl, db⟩
theorem ffield_is {m : Img} {h : Hnd} {w0 w : World} {op a : Int} {k : Nat} {t : Int × Int} (HI : Hid (ImgIn w0 w0.heap.size h m)) (HX : Hid (Below w0.heap.size w0 w)) (HK : Hid ((fieldsOf m.classes a)[k]? = some t)) (hn : m.classes.length ≤ 1000) (HF : Hid (∀ x ∈ m.classes, x.fields.length ≤ 1000)) :
    Calls Try.prog 43 #[imgV h m, insV op a (k : Int)] w fun e w' => e = .returned (tyV t.1 t.2) ∧ Below w.heap.size w w' := ffield_any m op a k t HK.out hn HF.out h w (HI.out.now HX.out)
end Go.Proofs.Ytndacljmcofopaa
namespace Go.Proofs.Ytndacljmcofopaa
set_option maxRecDepth 100000
set_option linter.unusedVariables false
set_option linter.unusedSimpArgs false
open Go.ChangeShapes Go.WideShapes Go.ChangeAt Go.RowKit

theorem fgrow_any (n : Nat) (hn : n ≤ 1000000) (w : World) :
    Calls Try.prog 53 #[.slice none 0 0, .int .i64 n] w fun e w' => ∃ v, e = .returned v ∧ w'.ownsRow w.heap.size 38 2 v 0 [] ∧ Below w.heap.size w w' := by
  obtain ⟨i0, hi, hz0, hz1, hz2⟩ := info_partsK info_type
  rcases Nat.eq_zero_or_pos n with rfl | hp
  · go_enter Try.func53, Try.ntmps53
    go_wp2
    go_ret
    exact ⟨_, rfl, World.ownsRow_nil _ _ _ _, Below.refl _ _⟩
  · have hw1 : IntKind.i64.wrap ((n : Int) - 0) = (n : Int) := by rw [Int.sub_zero]; exact IntWalk.i64_in _ (by omega)
    have h1 : ¬ ((n : Int) < 0) := by omega
    have h4 : (n : Int) > 0 := by omega
    have hrz : ∀ ty, (Builtin.append_ #[23, 3] ty #[.slice none 0 0, .int .i64 n]).run Try.prog w = _ := fun ty =>
      Lib.run_append_nil_zeros w 23 3 ty 38 i0 _ .i64 .i64 Try.underlying23 Try.underlying3 hi hz0 n hp (by omega) (by omega) (by rw [hz2]; omega)
    have hg1 := grownCap_ge w n 0 38
    have hg2 := grownCap_le_maxLen w n 0 38 (by unfold maxLen; omega)
    obtain ⟨G, hG⟩ : ∃ G, G = grownCap w n 0 38 := ⟨_, rfl⟩
    rw [← hG] at hrz hg1 hg2
    have hG63 : G ≤ 9223372036854775807 := by unfold maxLen at hg2; omega
    have HO : Hid (∀ w1, w1 = w.drew.alloc (.cells (Builtin.zeroCells (Value.agg #[.int .i64 0, .int .i64 0]).cells n ++ Builtin.zeroCells (Value.agg #[.int .i64 0, .int .i64 0]).cells (G - n)) 38) → w1.ownsRow w.heap.size 38 2 (.slice (some ⟨w.heap.size, 0, none⟩) 0 G) 0 [] ∧ Below w.heap.size w w1) := Lib.hid (fun w1 h => by
      subst h
      refine ⟨⟨rfl, .inr ⟨w.heap.size, G, _, rfl, Nat.le_refl _, heap_alloc_new _ _, Nat.zero_le _, hg2, ?_, by simp⟩⟩, ((Below.refl _ _).drew).alloc (Nat.le_refl _) _⟩
      rw [Array.size_append, size_zeroCells, size_zeroCells]
      show n * 2 + (G - n) * 2 = G * 2
      omega)
    clear hG hi hz0 hz1 hz2
    go_enter Try.func53, Try.ntmps53
    go_wp2_with (at_builtin; refine Lib.wpList_append_run _ rfl _ _ _ _ rfl _ _ rfl rfl _ _ (hrz _) ?_)
    go_ret
    obtain ⟨o1, o2⟩ := HO.out _ rfl
    exact ⟨_, rfl, o1, o2⟩
theorem fgrow_is {n : Nat} {w : World} {z : Int} (HZ : Hid (z = (n : Int))) (hn : n ≤ 1000000) :
    Calls Try.prog 53 #[.slice none 0 0, .int .i64 z] w fun e w' => ∃ v, e = .returned v ∧ w'.ownsRow w.heap.size 38 2 v 0 [] ∧ Below w.heap.size w w' := by
  rw [HZ.out]
  exact fgrow_any n hn w
set_option maxHeartbeats 1600000 in
theorem fconcat_any (L M : List (Int × Int)) (A B : Option Addr) (c d g : Nat) (w : World) (h : SlcIs TyAt 2 w w.heap.size A c L) (h' : SlcIs TyAt 2 w w.heap.size B d M) (hg : g < w.heap.size) (hc : Cells w g [.slice A L.length c, .slice B M.length d]) (hL : L.length ≤ 1000) (hM : M.length ≤ 1000) :
    Calls Try.prog 25 #[.slice (some ⟨g, 0, none⟩) 2 2] w (OwnTypes (L ++ M) w) := by
  obtain ⟨i0, hi, hz0, hz1, hz2⟩ := info_partsK info_type
  have HL := Lib.hid h
  have HM := Lib.hid h'
  have HC := Lib.hid hc
  have HG := Lib.hid hg
  have HZ2 : Hid ((((L.length + M.length : Nat) : Int)) = ((L.length + M.length : Nat) : Int)) := Lib.hid rfl
  have c0 := hc 0 _ rfl
  have c1 := hc 1 _ rfl
  have HLM : Hid ((L ++ M).length = L.length + M.length) := Lib.hid List.length_append
  clear h h' hc
  go_enter Try.func25, Try.ntmps25
  go_wp2_with fail
  go_loopw [3, 11] (fun z i wr => wr = w ∧ ((i = .int .i64 0 ∧ z = .int .i64 0) ∨ (i = .int .i64 1 ∧ z = .int .i64 (L.length : Int)) ∨ (i = .int .i64 2 ∧ z = .int .i64 ((L.length + M.length : Nat) : Int)))) (fun _ i _ => 2 - (intOf i).toNat)
  case atStart => exact ⟨rfl, .inl ⟨rfl, rfl⟩⟩
  case round =>
    obtain ⟨hwr, h⟩ := hrel
    have hwr := hwr.symm
    subst hwr
    rcases h with ⟨rfl, rfl⟩ | ⟨rfl, rfl⟩ | ⟨rfl, rfl⟩
    · have hw1 : IntKind.i64.wrap (0 + (L.length : Int)) = (L.length : Int) := by rw [Int.zero_add]; exact IntWalk.i64_in _ (by omega)
      have hw2 : IntKind.i64.wrap (L.length : Int) = (L.length : Int) := IntWalk.i64_in _ (by omega)
      have hnn : ¬ (L.length : Int) < 0 := by omega
      go_wp2_with fail
      go_roundw
      case rel => exact ⟨trivial, .inr (.inl ⟨by go_num, rfl⟩)⟩
      case measure => simp [intOf]
    · have hw1 : IntKind.i64.wrap ((L.length : Int) + (M.length : Int)) = ((L.length + M.length : Nat) : Int) := by rw [← Int.natCast_add]; exact IntWalk.i64_in _ (by omega)
      have hnn : ¬ ((L.length + M.length : Nat) : Int) < 0 := by omega
      go_wp2_with fail
      go_roundw
      case rel => exact ⟨trivial, .inr (.inr ⟨by go_num, by go_num⟩)⟩
      case measure => simp [intOf]
    · go_wp2_with (go_at_call 53; (with_reducible refine (fgrow_is (n := L.length + M.length) (Lib.hid (by omega)) (by omega)).mono ?_); rintro e w2 ⟨v2, rfl, ho, hb⟩; have HO2 := Lib.hid ho; have HB2 := Lib.hid hb; clear ho hb)
      go_loopw [6, 27] (fun v i w3 => ((i = .int .i64 0 ∧ Hid (w3.ownsRow w.heap.size 38 2 v 0 [])) ∨ (i = .int .i64 1 ∧ Hid (w3.ownsRow w.heap.size 38 2 v L.length (tysV L))) ∨ (i = .int .i64 2 ∧ Hid (w3.ownsRow w.heap.size 38 2 v (L.length + M.length) (tysV L ++ tysV M)))) ∧ Hid (Below w.heap.size w w3)) (fun _ i _ => 2 - (intOf i).toNat)
      case atStart => exact ⟨.inl ⟨rfl, HO2⟩, HB2⟩
      case round =>
        obtain ⟨h, HX⟩ := hrel
        rcases h with ⟨rfl, HO⟩ | ⟨rfl, HO⟩ | ⟨rfl, HO⟩
        · have c0 := (HX.out.cell (p := ⟨g, 0, none⟩) HG.out).trans (HC.out 0 _ rfl)
          have HT := Lib.hid (tys_lie (HL.out.below_to TyAt.keeps HX.out (Nat.le_refl _)).row)
          have hsz := HX.out.size
          go_wp2_with (at_builtin; refine append_liesK rfl _ _ 23 rfl w.heap.size 38 i0 (.agg #[.int .i64 0, .int .i64 0]) 2 16 Try.underlying23 hi hz0 hz1 hz2 rfl (by decide) _ 0 [] rfl HO.out A L.length c _ (tysV L) (tysV_len _) rfl HT.out (tysV_one _) (by unfold maxLen; omega) (by omega) hsz ?_; intro v6 w6 hown hgrow; have HX6 := Lib.hid (appK_more HX.out HO.out hsz hgrow); have HO6 := Lib.hid hown; clear hown hgrow)
          go_roundw
          case rel => exact ⟨.inr (.inl ⟨by go_num, Lib.hid (by simpa using HO6.out)⟩), HX6⟩
          case measure => simp [intOf]
        · have c1 := (HX.out.cell (p := ⟨g, 1, none⟩) HG.out).trans (HC.out 1 _ rfl)
          have HT := Lib.hid (tys_lie (HM.out.below_to TyAt.keeps HX.out (Nat.le_refl _)).row)
          have hsz := HX.out.size
          go_wp2_with (at_builtin; refine append_liesK rfl _ _ 23 rfl w.heap.size 38 i0 (.agg #[.int .i64 0, .int .i64 0]) 2 16 Try.underlying23 hi hz0 hz1 hz2 rfl (by decide) _ L.length (tysV L) rfl HO.out B M.length d _ (tysV M) (tysV_len _) rfl HT.out (tysV_one _) (by unfold maxLen; omega) (by omega) hsz ?_; intro v6 w6 hown hgrow; have HX6 := Lib.hid (appK_more HX.out HO.out hsz hgrow); have HO6 := Lib.hid hown; clear hown hgrow)
          go_roundw
          case rel => exact ⟨.inr (.inr ⟨by go_num, HO6⟩), HX6⟩
          case measure => simp [intOf]
        · go_wp2_with fail
          go_ret
          refine ⟨_, rfl, ?_, HX.out⟩
          rw [HLM.out]
          show World.ownsRow _ _ _ _ _ _ ((L ++ M).flatMap tyC)
          rw [List.flatMap_append]
          exact HO.out
theorem fconcat_is {L M N : List (Int × Int)} {A B : Option Addr} {c d g : Nat} {w : World} (HN : Hid (L ++ M = N)) (h : SlcIs TyAt 2 w w.heap.size A c L) (h' : SlcIs TyAt 2 w w.heap.size B d M) (hg : g < w.heap.size) (hc : Cells w g [.slice A L.length c, .slice B M.length d]) (hL : L.length ≤ 1000) (hM : M.length ≤ 1000) :
    Calls Try.prog 25 #[.slice (some ⟨g, 0, none⟩) 2 2] w (OwnTypes N w) := by
  have H := fconcat_any L M A B c d g w h h' hg hc hL hM
  rw [HN.out] at H
  exact H
end Go.Proofs.Ytndacljmcofopaa
