/-
  Who calls whom (Of), by the program.
  depth.graph: who calls whom, a row for each method.
  What the document's own step (Step) comes to: outside.
-/
import Derived.Test.YtefgepppcmhphaaM29
import Derived.Test.YtefgepppcmhphaaM26
import Derived.Test.YtefgepppcmhphaaM16
import Derived.Test.YtefgepppcmhphaaM24
import Derived.Test.YtefgepppcmhphaaM13
import Derived.RegionTactic
import Derived.ChangeAlike
import Derived.Deep.RegionHeld3
import Derived.Deep.QuietTactic
import Derived.BigQuiet
import Derived.IntWalk
namespace Go.Proofs.Ytefgepppcmhphaa
set_option maxRecDepth 100000
set_option linter.unusedVariables false
set_option linter.unusedSimpArgs false
open Go.ChangeShapes Go.WideShapes Go.ChangeAt Go.RowKit

set_option maxHeartbeats 3200000 in
theorem cof_own (m : Img) (f : Int) (h : Hnd) (w : World) (H : ImgIn w w.heap.size h m) (hn : m.classes.length ≤ 1000) (hml : m.methods.length ≤ 1048576) (hc : ∀ x ∈ m.methods, x.code.length ≤ 1048576) :
    Calls Try.prog 34 #[imgV h m, .int .i64 f] w (OwnInts (callsOf m f) w) := by
  by_cases hf : 0 ≤ f ∧ f < m.methods.length
  · obtain ⟨f0, f1⟩ := hf
    obtain ⟨k, rfl⟩ := Int.eq_ofNat_of_zero_le f0
    have hk : k < m.methods.length := by omega
    obtain ⟨x, hx⟩ : ∃ x, m.methods[k] = x := ⟨_, rfl⟩
    have hxc := hc x (by rw [← hx]; exact List.getElem_mem hk)
    have HPK := Lib.hid (calls_pick hk hx)
    obtain ⟨L, hL⟩ : ∃ L, callsOf m (k : Int) = L := ⟨_, rfl⟩
    rw [hL] at HPK ⊢
    have hle := H.methods.le
    have hcap := H.methods.cap
    obtain ⟨ad, hx', eA, hab, hin, hcc⟩ := img_mth H hk
    rw [hx] at hin hcc
    obtain ⟨A0, A1, A2, A3, A4, k0, k1, k2, k3, k4⟩ := h
    obtain ⟨A0x, A1x, A4x, A7x, k0x, k1x, k4x, k7x⟩ := hx'
    dsimp only at eA hcap hle
    subst eA
    have HN := Lib.hid hn
    have HW := Lib.hid ((Below.refl w.heap.size w).alloc (Nat.le_refl _) (imgO ⟨A0, A1, A2, some ad, A4, k0, k1, k2, k3, k4⟩ m))
    have HIM := Lib.hid (H.now HW.out)
    have HBX := Lib.hid (img_box w ⟨A0, A1, A2, some ad, A4, k0, k1, k2, k3, k4⟩ m)
    have HZ : Hid (w.heap.size < (w.alloc (imgO ⟨A0, A1, A2, some ad, A4, k0, k1, k2, k3, k4⟩ m)).heap.size) := Lib.hid (by simp)
    have HAB : Hid ((ad.add (k * 8)).block < (w.alloc (imgO ⟨A0, A1, A2, some ad, A4, k0, k1, k2, k3, k4⟩ m)).heap.size) := Lib.hid (by rw [addr_add_block]; simp; omega)
    have HMC := Lib.hid (hcc.keep HW.out (by rw [addr_add_block]; exact hab))
    have HIN := Lib.hid (hin.now HW.out).code
    have ccap := hin.code.cap
    have cle := hin.code.le
    have HR1 : Hid ((decide (0 ≤ (k : Int)) && decide ((k : Int) < m.methods.length)) = true) := Lib.hid (by rw [decide_eq_true f0, decide_eq_true f1]; rfl)
    dsimp only at ccap cle
    have hmm := @run_makeMap Try.prog
    clear H hc hin hcc hn hab hx hL f0 f1
    go_enter Try.func34, Try.ntmps34
    go_upto_region 1 with fail
    generalize w.alloc (imgO ⟨A0, A1, A2, some ad, A4, k0, k1, k2, k3, k4⟩ m) = w1 at *
    have HX0 : Hid (Below w1.heap.size w1 w1) := Lib.hid (Below.refl _ _)
    obtain ⟨q0, q1, q2, q3, q4, q5, q6⟩ := HBX.out
    dsimp only at q0 q1 q2 q3 q4 q5 q6
    go_upto_region 4 with (go_at_call 55; (with_reducible refine (cismethod_is HIM HX0 HR1).mono ?_); rintro e w2 ⟨rfl, hb⟩; have HX2 := Lib.hid hb; clear hb)
    clear q0 q1 q2 q3 q4 q5 q6
    have HM0 := Lib.hid (MetIs.made w2 m.methods.length)
    have HX3 := Lib.hid (HX2.out.alloc HX2.out.size (.map #[] 0))
    have hB1 := HX2.out.size
    generalize w2.alloc (.map #[] 0) = w3 at *
    generalize w2.heap.size = B at *
    obtain ⟨q0, q1, q2, q3, q4, q5, q6⟩ := HBX.out.keep HX3.out HZ.out
    dsimp only at q0 q1 q2 q3 q4 q5 q6
    have c4 := (HMC.out.keep HX3.out HAB.out).c4
    dsimp only at c4
    go_wp2_with fail
    clear q0 q1 q2 q3 q4 q5 q6 c4
    go_loopw [22] (fun i wr => ∃ t : Nat, t ≤ x.code.length ∧ i = .int .i64 t ∧ Hid (MetIs wr B (fun g => metTo m (x.code.take t) g) m.methods.length) ∧ Hid (Below w1.heap.size w1 wr)) (fun i _ => x.code.length - (intOf i).toNat)
    case atStart => exact ⟨0, Nat.zero_le _, rfl, HM0, HX3⟩
    case round =>
      clear HM0 HX3 HX2
      obtain ⟨t, ht, rfl, HM, HX⟩ := hrel
      by_cases hlt : t < x.code.length
      · obtain ⟨ac, rfl, hac, i0, i1, i2⟩ := HIN.out.row.at_ hlt
        have HT1 := Lib.hid (metTo_snoc (m := m) hlt)
        generalize x.code[t] = ins at *
        obtain ⟨op, a, b⟩ := ins
        dsimp only at i0 i1 i2 HT1
        obtain ⟨T, hT⟩ : ∃ T, targetsOf m op a b = T := ⟨_, rfl⟩
        have hTl : T.length ≤ 1000 := by have := targets_len m op a b HN.out; rw [hT] at this; exact this
        have HTT := Lib.hid hT
        rw [hT] at HT1
        clear hT
        obtain ⟨P, hP⟩ : ∃ P, (fun g => metTo m (x.code.take t) g) = P := ⟨_, rfl⟩
        rw [hP] at HM
        have HT2 : Hid (∀ g, metTo m (x.code.take (t + 1)) g = (P g || inB T (g : Int))) := Lib.hid (fun g => by rw [HT1.out g, ← hP])
        clear HT1 hP
        have hszr := HX.out.size
        have j0 := (HX.out.cell (p := ac.add (t * 3)) (by rw [addr_add_block]; exact hac)).trans i0
        have j1 := (HX.out.cell (p := off_ (ac.add (t * 3)) 1) (by show (ac.add (t * 3)).block < _; rw [addr_add_block]; exact hac)).trans i1
        have j2 := (HX.out.cell (p := off_ (ac.add (t * 3)) 2) (by show (ac.add (t * 3)).block < _; rw [addr_add_block]; exact hac)).trans i2
        clear i0 i1 i2 hac
        go_upto_region 7 with fail
        clear j0 j1 j2
        have HIB := Lib.hid (cells_new wr [.int .i64 op, .int .i64 a, .int .i64 b] 51)
        have HA : Hid (Below wr.heap.size wr (wr.alloc (.cells ([.int .i64 op, .int .i64 a, .int .i64 b] : List Value).toArray 51))) := Lib.hid ((Below.refl _ _).alloc (Nat.le_refl _) _)
        have HM4 := Lib.hid (HM.out.below HA.out HM.out.lt)
        have HX4 := Lib.hid (HX.out.trans (HA.out.mono hszr))
        generalize wr.alloc (.cells ([.int .i64 op, .int .i64 a, .int .i64 b] : List Value).toArray 51) = w4 at *
        have i0 := HIB.out 0 _ rfl
        have i1 := HIB.out 1 _ rfl
        have i2 := HIB.out 2 _ rfl
        obtain ⟨q0, q1, q2, q3, q4, q5, q6⟩ := HBX.out.keep HX4.out HZ.out
        dsimp only at q0 q1 q2 q3 q4 q5 q6
        have hB4 := HM4.out.lt
        go_wp2_with (go_at_call 56; (with_reducible refine (cnamed_is HIM HX4 HN.out HTT).mono ?_); rintro e w5 ⟨v5, rfl, ho, hb⟩; have HM5 := Lib.hid (HM4.out.below hb HM4.out.lt); have HX5 := Lib.hid (HX4.out.trans (hb.mono HX4.out.size)); obtain ⟨A5, c5, rfl, hl5, g1, g2⟩ := own_ints ho; have HL5 := Lib.hid hl5; have HF5 : Hid (∀ ad, A5 = some ad → ad.block ≠ B) := Lib.hid (fun ad e => by have := (ho.lt ad.block (by rw [e]; rfl)).1; omega); clear hb ho hl5)
        clear q0 q1 q2 q3 q4 q5 q6 i0 i1 i2
        go_loopw [30] (fun j wi => ∃ s : Nat, s ≤ T.length ∧ j = .int .i64 s ∧ Hid (MetIs wi B (fun g => P g || inB (T.take s) (g : Int)) m.methods.length) ∧ Hid (Below w1.heap.size w1 wi) ∧ Hid (Lies wi wi.heap.size A5 (T.map (Value.int .i64)))) (fun j _ => T.length - (intOf j).toNat)
        case atStart => exact ⟨0, Nat.zero_le _, rfl, Lib.hid (HM5.out.cong (fun g _ => by rw [List.take_zero, inB_nil, Bool.or_false])), HX5, HL5⟩
        case round =>
          clear HM5 HX5 HL5
          obtain ⟨s, hs, rfl, HMi, HXi, HLi⟩ := hrel
          by_cases hst : s < T.length
          · obtain ⟨a5, rfl, hab5, p5⟩ := HLi.out s (.int .i64 T[s]) (by rw [List.getElem?_map, List.getElem?_eq_getElem hst]; rfl)
            have HSN := Lib.hid (fun g : Nat => inB_snoc hst (g : Int))
            generalize T[s] = q at *
            obtain ⟨q0, q1, q2, q3, q4, q5, q6⟩ := HBX.out.keep HXi.out HZ.out
            dsimp only at q0 q1 q2 q3 q4 q5 q6
            clear hab5
            by_cases hm : 0 ≤ q ∧ q < m.methods.length
            · obtain ⟨m0, m1⟩ := hm
              obtain ⟨g, rfl⟩ := Int.eq_ofNat_of_zero_le m0
              have HR : Hid ((decide (0 ≤ (g : Int)) && decide ((g : Int) < m.methods.length)) = true) := Lib.hid (by rw [decide_eq_true m0, decide_eq_true m1]; rfl)
              have hgm : g < m.methods.length := by omega
              clear m0 m1
              go_wp2_with (first
                | (go_at_call 55; (with_reducible refine (cismethod_is HIM HXi HR).mono ?_); rintro e w6 ⟨rfl, hb⟩; have HM6 := Lib.hid (HMi.out.below hb HMi.out.lt); have HX6 := Lib.hid (HXi.out.trans (hb.mono HXi.out.size)); have HL6 := Lib.hid ((HLi.out.below hb).more hb.size); clear hb)
                | (at_mapUpdate; refine wp_met_store _ rfl _ _ _ 102 (.inl rfl) Try.underlying102 B m.methods.length g _ rfl HM6.out hgm hml rfl rfl ?_; intro w7 hm7 hg7; have HM7 := Lib.hid hm7; have HX7 := Lib.hid (HX6.out.grown hg7 HX6.out.size (fun j hj => by injection hj with hj; omega)); have HL7 := Lib.hid (lies_other HL6.out hg7 HF5.out); clear hm7 hg7))
              go_roundw
              case rel => exact ⟨s + 1, by omega, by go_num, Lib.hid (HM7.out.cong (fun k _ => by rw [HSN.out k, ← Bool.or_assoc]; congr 1; exact decide_eq_decide.mpr (by omega))), HX7, HL7⟩
              case measure => simp [intOf]; omega
            · have HR : Hid ((decide (0 ≤ q) && decide (q < m.methods.length)) = false) := Lib.hid (by rw [Bool.eq_false_iff]; simpa using hm)
              have HNQ : Hid (∀ k : Nat, k < m.methods.length → decide ((k : Int) = q) = false) := Lib.hid (fun k hk => decide_eq_false (by omega))
              clear hm
              go_wp2_with (go_at_call 55; (with_reducible refine (cismethod_is HIM HXi HR).mono ?_); rintro e w6 ⟨rfl, hb⟩; have HM6 := Lib.hid (HMi.out.below hb HMi.out.lt); have HX6 := Lib.hid (HXi.out.trans (hb.mono HXi.out.size)); have HL6 := Lib.hid ((HLi.out.below hb).more hb.size); clear hb)
              go_roundw
              case rel => exact ⟨s + 1, by omega, by go_num, Lib.hid (HM6.out.cong (fun k hk => by rw [HSN.out k, HNQ.out k hk, Bool.or_false])), HX6, HL6⟩
              case measure => simp [intOf]; omega
          · obtain rfl : s = T.length := by omega
            go_wp2_with fail
            go_roundw
            case rel => exact ⟨t + 1, by omega, by go_num, Lib.hid (HMi.out.cong (fun k _ => by rw [HT2.out k, List.take_length])), HXi⟩
            case measure => simp [intOf]; omega
      · obtain rfl : t = x.code.length := by omega
        have HL : Hid (pickTo (fun g => metTo m (x.code.take x.code.length) g) m.methods.length = L) := Lib.hid (by rw [List.take_length]; exact HPK.out.symm)
        go_wp2_with (go_at_call 57; (with_reducible refine (rising_is HM hml HL).mono ?_); rintro e w9 ⟨v9, rfl, ho, hb⟩; have HO9 := Lib.hid ho; have HX9 := Lib.hid (HX.out.trans (hb.mono HX.out.size)); have hz9 := HX.out.size; clear ho hb)
        go_ret
        exact ⟨v9, rfl, own_lower HO9.out (Nat.le_trans HW.out.size hz9), HW.out.trans (HX9.out.mono HW.out.size)⟩
  · have HR1 : Hid ((decide (0 ≤ f) && decide (f < m.methods.length)) = false) := Lib.hid (by rw [Bool.eq_false_iff]; simpa using hf)
    rw [calls_no hf]
    have HW := Lib.hid ((Below.refl w.heap.size w).alloc (Nat.le_refl _) (imgO h m))
    have HIM := Lib.hid (H.now HW.out)
    have HBX := Lib.hid (img_box w h m)
    clear H hf hc
    go_enter Try.func34, Try.ntmps34
    go_upto_region 1 with fail
    generalize w.alloc (imgO h m) = w1 at *
    have HX0 : Hid (Below w1.heap.size w1 w1) := Lib.hid (Below.refl _ _)
    obtain ⟨q0, q1, q2, q3, q4, q5, q6⟩ := HBX.out
    go_wp2_with (go_at_call 55; (with_reducible refine (cismethod_is HIM HX0 HR1).mono ?_); rintro e w2 ⟨rfl, hb⟩; have HX2 := Lib.hid hb; clear hb)
    go_ret
    exact ⟨_, rfl, World.ownsRow_nil _ _ _ _, HW.out.trans (HX2.out.mono HW.out.size)⟩
end Go.Proofs.Ytefgepppcmhphaa
namespace Go.Proofs.Ytefgepppcmhphaa
set_option maxRecDepth 100000
set_option linter.unusedVariables false
set_option linter.unusedSimpArgs false
open Go.ChangeShapes Go.WideShapes Go.ChangeAt Go.RowKit
set_option linter.unusedVariables false

theorem cof_new (m : Img) (f : Int) (h : Hnd) (w : World) (H : ImgIn w w.heap.size h m) (hn : m.classes.length ≤ 1000) (hml : m.methods.length ≤ 1048576) (hc : ∀ x ∈ m.methods, x.code.length ≤ 1048576) :
    Calls Try.prog 34 #[imgV h m, .int .i64 f] w fun e w' => ∃ A c, e = .returned (.slice A (callsOf m f).length c) ∧ SlcIs IntAt 1 w' w'.heap.size A c (callsOf m f) ∧ (∀ ad, A = some ad → w.heap.size ≤ ad.block) ∧ Below w.heap.size w w' :=
  (cof_own m f h w H hn hml hc).mono fun e w' hO => by
    obtain ⟨v, rfl, ho, hb⟩ := hO
    obtain ⟨A, c, rfl, hl, h1, h2⟩ := own_ints ho
    exact ⟨A, c, rfl, ⟨h1, h2, fun i x hi => by
      obtain ⟨ad, e, hb, hc⟩ := hl i (.int .i64 x) (by rw [List.getElem?_map, hi]; rfl)
      exact ⟨ad, e, hb, by show w'.cell? (ad.add (i * 1)) = _; rw [Nat.mul_one]; exact hc⟩⟩, fun ad e => (ho.lt ad.block (by rw [e]; rfl)).1, hb⟩
theorem cof_iso {m : Img} {f : Int} {h : Hnd} {w0 w : World} {L : List Int} (HI : Hid (ImgIn w0 w0.heap.size h m)) (HX : Hid (Below w0.heap.size w0 w)) (HC : Hid (m.classes.length ≤ 1000 ∧ m.methods.length ≤ 1048576 ∧ ∀ x ∈ m.methods, x.code.length ≤ 1048576)) (HR : Hid (callsOf m f = L)) :
    Calls Try.prog 34 #[imgV h m, .int .i64 f] w fun e w' => ∃ A c, e = .returned (.slice A L.length c) ∧ SlcIs IntAt 1 w' w'.heap.size A c L ∧ (∀ ad, A = some ad → w.heap.size ≤ ad.block) ∧ Below w.heap.size w w' := by
  have H := cof_new m f h w (HI.out.now HX.out) HC.out.1 HC.out.2.1 HC.out.2.2
  rw [HR.out] at H
  exact H
theorem ints_far {w : World} {B c g i : Nat} {A : Option Addr} {L : List Int} {v : Value} (h : SlcIs IntAt 1 w B A c L) (hA : ∀ ad, A = some ad → ad.block ≠ g) : SlcIs IntAt 1 (w.setCell ⟨g, i, none⟩ v) B A c L :=
  ⟨h.le, h.cap, fun j x hj => by
    obtain ⟨ad, e, hb, hc⟩ := h.row j x hj
    exact ⟨ad, e, hb, (World.cell?_of_block (w := w) (Below.heap_setCell w ⟨g, i, none⟩ v _ (by rw [addr_add_block]; exact hA ad e))).trans hc⟩⟩
/-- A row of lists of numbers in a block of its own, of which the first so many are there, each in newer memory. -/
structure GrIn (w : World) (g : Nat) (EL : List (List Int)) (n k : Nat) (vs : List Value) : Prop where
  blk : Whole w g vs 26
  len : vs.length = n
  row : ∀ (i : Nat) (L : List Int), i < k → EL[i]? = some L → ∃ A c, vs[i]? = some (.slice A L.length c) ∧ SlcIs IntAt 1 w w.heap.size A c L ∧ ∀ ad, A = some ad → g < ad.block
section
variable {w w' : World} {g n k : Nat} {EL : List (List Int)} {vs : List Value}
theorem GrIn.keep (h : GrIn w g EL n k vs) (hb : Below w.heap.size w w') : GrIn w' g EL n k vs :=
  ⟨Whole.keep h.blk hb (Whole.lt h.blk), h.len, fun i L hi hL => by
    obtain ⟨A, c, h1, h2, h3⟩ := h.row i L hi hL
    exact ⟨A, c, h1, h2.keep' IntAt.keeps hb.size (fun q hq => hb.cell hq), h3⟩⟩
theorem GrIn.put (h : GrIn w g EL n k vs) {A : Option Addr} {c : Nat} {L : List Int} (hk : k < n) (hL : EL[k]? = some L) (hs : SlcIs IntAt 1 w w.heap.size A c L) (hA : ∀ ad, A = some ad → g < ad.block) : GrIn (w.setCell ⟨g, k, none⟩ (.slice A L.length c)) g EL n (k + 1) (vs.set k (.slice A L.length c)) := by
  have hz : (w.setCell ⟨g, k, none⟩ (.slice A L.length c)).heap.size = w.heap.size := by simp
  refine ⟨Whole.set h.blk k _, by rw [List.length_set]; exact h.len, fun i M hi hM => ?_⟩
  rw [hz]
  rcases Nat.lt_or_ge i k with q | q
  · obtain ⟨A', c', h1, h2, h3⟩ := h.row i M q hM
    exact ⟨A', c', by rw [List.getElem?_set, if_neg (by omega)]; exact h1, ints_far h2 (fun ad e => by have := h3 ad e; omega), h3⟩
  · obtain rfl : i = k := by omega
    have e : L = M := by rw [hL] at hM; injection hM
    subst e
    exact ⟨A, c, by rw [List.getElem?_set, if_pos rfl, if_pos (by rw [h.len]; exact hk)], ints_far hs (fun ad e => by have := hA ad e; omega), hA⟩
theorem GrIn.cell (h : GrIn w g EL n k vs) {i : Nat} (hi : i < n) : ∃ v, w.cell? ⟨g, i, none⟩ = some v :=
  ⟨_, (Whole.cells h.blk) i _ (List.getElem?_eq_getElem (by rw [h.len]; exact hi))⟩
theorem GrIn.slc (h : GrIn w g EL n k vs) (hn : EL.length = n) (hk : n ≤ k) (hc : n ≤ 9223372036854775807) : SlcIs (SlcAt IntAt 1) 1 w w.heap.size (some ⟨g, 0, none⟩) n EL :=
  ⟨by omega, hc, fun i L hi => by
    have hi' := (List.getElem?_eq_some_iff.mp hi).1
    obtain ⟨A, c, h1, h2, h3⟩ := h.row i L (by omega) hi
    refine ⟨_, rfl, Whole.lt h.blk, A, c, ?_, h2⟩
    have := (Whole.cells h.blk) i _ h1
    rw [show Addr.add ⟨g, 0, none⟩ (i * 1) = ⟨g, i, none⟩ by unfold Addr.add; split <;> simp_all]
    exact this⟩
end
set_option maxHeartbeats 3200000 in
theorem dgraph_any (m : Img) (h : Hnd) (w : World) (H : ImgIn w w.heap.size h m) (hn : m.classes.length ≤ 1000) (hml : m.methods.length ≤ 1000) (hc : ∀ x ∈ m.methods, x.code.length ≤ 1048576) :
    Calls Try.prog 19 #[imgV h m] w fun e w' => ∃ g, e = .returned (.slice (some ⟨g, 0, none⟩) m.methods.length m.methods.length) ∧ w.heap.size ≤ g ∧ g < w'.heap.size ∧ SlcIs (SlcAt IntAt 1) 1 w' w'.heap.size (some ⟨g, 0, none⟩) m.methods.length (edgesOf m) ∧ Below w.heap.size w w' := by
  obtain ⟨i0, hi, hz0, hz1, hz2⟩ := info_partsK info_ints
  have HW := Lib.hid ((Below.refl w.heap.size w).alloc (Nat.le_refl _) (imgO h m))
  have HI := Lib.hid (H.now HW.out)
  have HBX := Lib.hid (img_box w h m)
  have HZ : Hid (w.heap.size < (w.alloc (imgO h m)).heap.size) := Lib.hid (by simp)
  have HCO : Hid (m.classes.length ≤ 1000 ∧ m.methods.length ≤ 1048576 ∧ ∀ x ∈ m.methods, x.code.length ≤ 1048576) := Lib.hid ⟨hn, by omega, hc⟩
  obtain ⟨n, hnn⟩ : ∃ n, m.methods.length = n := ⟨_, rfl⟩
  have HN := Lib.hid hnn
  have HEL : Hid (∀ k, k < n → (edgesOf m)[k]? = some (callsOf m (k : Int))) := Lib.hid (fun k hk => edges_at (by omega))
  have HEN : Hid ((edgesOf m).length = n) := Lib.hid (by rw [edges_len]; exact hnn)
  rw [hnn] at hml ⊢
  have hcap := H.methods.cap
  have hle := H.methods.le
  rw [hnn] at hle
  clear H hc hnn
  go_enter Try.func19, Try.ntmps19
  go_upto_region 1 with fail
  generalize w.alloc (imgO h m) = w1 at *
  obtain ⟨q0, q1, q2, q3, q4, q5, q6⟩ := HBX.out
  rw [HN.out] at q3
  go_wp2_with (at_make; (refine wpList_make_full _ rfl _ _ 43 rfl w1.heap.size 26 i0 (.slice none 0 0) 1 Try.underlying43 hi hz0 hz1 .i64 .i64 _ _ n rfl rfl rfl rfl (by rw [hz2]; omega) (by unfold maxLen; omega) (Nat.le_refl _) ?_); intro w2 hown hgrow; have HO2 := Lib.hid hown; have HB2 := Lib.hid ((Below.refl w1.heap.size w1).grown hgrow (Nat.le_refl _) (fun k hk => by cases hk)); clear hown hgrow)
  have HG2 : Hid (GrIn w2 w1.heap.size (edgesOf m) n 0 (List.replicate n (.slice none 0 0))) := Lib.hid (by
    have h1 := own_whole1 HO2.out
    rw [made_one (v := .slice none 0 0) rfl] at h1
    exact ⟨h1, List.length_replicate .., fun i L hi _ => by omega⟩)
  clear q0 q1 q2 q3 q4 q5 q6 HO2
  try simp only [HN.out]
  go_loopw [11] (fun i wr => ∃ (k : Nat) (vs : List Value), k ≤ n ∧ i = .int .i64 k ∧ Hid (GrIn wr w1.heap.size (edgesOf m) n k vs) ∧ Hid (Below w1.heap.size w1 wr)) (fun i _ => n - (intOf i).toNat)
  case atStart => exact ⟨0, _, by omega, rfl, HG2, HB2⟩
  case round =>
    clear HG2 HB2
    obtain ⟨k, vs, hk, rfl, HG, HX⟩ := hrel
    by_cases hlt : k < n
    · obtain ⟨q0, q1, q2, q3, q4, q5, q6⟩ := HBX.out.keep HX.out HZ.out
      obtain ⟨L, hL⟩ : ∃ L, callsOf m (k : Int) = L := ⟨_, rfl⟩
      have HL := Lib.hid hL
      have HLE : Hid ((edgesOf m)[k]? = some L) := Lib.hid (by rw [HEL.out k hlt, hL])
      clear hL
      go_wp2_with (go_at_call 34; (with_reducible refine (cof_iso HI HX HCO HL).mono ?_); rintro e w5 ⟨A5, c5, rfl, hs, hA, hb⟩; have HS5 := Lib.hid hs; have HA5 : Hid (∀ ad, A5 = some ad → w1.heap.size < ad.block) := Lib.hid (fun ad e => by have h1 := hA ad e; have h2 := Whole.lt HG.out.blk; omega); have HG5 := Lib.hid (HG.out.keep hb); have HX5 := Lib.hid (HX.out.trans (hb.mono HX.out.size)); obtain ⟨v0, c0⟩ := HG5.out.cell hlt; have f0 := Whole.free HG5.out.blk k; clear hs hA hb)
      go_roundw
      case rel => exact ⟨k + 1, _, by omega, by go_num, Lib.hid (HG5.out.put hlt HLE.out HS5.out HA5.out), Lib.hid (HX5.out.setCell (p := ⟨w1.heap.size, k, none⟩) (Nat.le_refl _) _)⟩
      case measure => simp [intOf]; omega
    · go_wp2_with fail
      go_ret
      exact ⟨w1.heap.size, rfl, Nat.le_of_lt HZ.out, Whole.lt HG.out.blk, HG.out.slc HEN.out (by omega) (by omega), HW.out.trans (HX.out.mono (Nat.le_of_lt HZ.out))⟩
theorem dgraph_is {m : Img} {h : Hnd} {n : Nat} {EL : List (List Int)} {w0 w : World} (HI : Hid (ImgIn w0 w0.heap.size h m)) (HX : Hid (Below w0.heap.size w0 w)) (HC : Hid (m.classes.length ≤ 1000 ∧ m.methods.length ≤ 1000 ∧ ∀ x ∈ m.methods, x.code.length ≤ 1048576)) (HN : Hid (m.methods.length = n)) (HE : Hid (edgesOf m = EL)) :
    Calls Try.prog 19 #[imgV h m] w fun e w' => ∃ g, e = .returned (.slice (some ⟨g, 0, none⟩) n n) ∧ w.heap.size ≤ g ∧ g < w'.heap.size ∧ SlcIs (SlcAt IntAt 1) 1 w' w'.heap.size (some ⟨g, 0, none⟩) n EL ∧ Below w.heap.size w w' := by
  have H := dgraph_any m h w (HI.out.now HX.out) HC.out.1 HC.out.2.1 HC.out.2.2
  rw [HN.out, HE.out] at H
  exact H
end Go.Proofs.Ytefgepppcmhphaa
namespace Go.Proofs.Ytefgepppcmhphaa
set_option maxRecDepth 100000
set_option linter.unusedVariables false
set_option linter.unusedSimpArgs false
open Go.ChangeShapes Go.WideShapes Go.ChangeAt Go.RowKit

theorem rstep_out1 (m : Img) (f pc : Int) (st : List (Int × Int)) (A : Option Addr) (cap : Nat) (h : Hnd) (w : World) (H : ImgIn w w.heap.size h m) (hf : f < 0) :
    Calls Try.prog 31 #[imgV h m, .int .i64 f, .int .i64 pc, .slice A st.length cap] w (StepNew (stepOf m f pc st) w) := by
  have e0 : stepOf m f pc st = badStep 1 := by unfold stepOf; rw [if_neg (by omega)]
  rw [e0]
  clear e0
  have hle := H.methods.le
  have hcap := H.methods.cap
  have HW := Lib.hid (((Below.refl w.heap.size w).alloc (Nat.le_refl _) (imgO h m)))
  have HIM := Lib.hid (H.now HW.out)
  have HBX := Lib.hid (img_box w h m)
  have HZ : Hid (w.heap.size < (w.alloc (imgO h m)).heap.size) := Lib.hid (by simp)
  clear H
  go_enter Try.func31, Try.ntmps31
  go_upto_region 1 with fail
  generalize w.alloc (imgO h m) = w1 at *
  obtain ⟨q0, q1, q2, q3, q4, q5, q6⟩ := HBX.out
  go_wp2_with fail
  go_ret3
  exact step_badN 1 HW.out

theorem rstep_out2 (m : Img) (f pc : Int) (st : List (Int × Int)) (A : Option Addr) (cap : Nat) (h : Hnd) (w : World) (H : ImgIn w w.heap.size h m) (hf0 : 0 ≤ f) (hf : (m.methods.length : Int) ≤ f) :
    Calls Try.prog 31 #[imgV h m, .int .i64 f, .int .i64 pc, .slice A st.length cap] w (StepNew (stepOf m f pc st) w) := by
  have e0 : stepOf m f pc st = badStep 1 := by unfold stepOf; rw [if_neg (by omega)]
  rw [e0]
  clear e0
  have hle := H.methods.le
  have hcap := H.methods.cap
  have HW := Lib.hid (((Below.refl w.heap.size w).alloc (Nat.le_refl _) (imgO h m)))
  have HIM := Lib.hid (H.now HW.out)
  have HBX := Lib.hid (img_box w h m)
  have HZ : Hid (w.heap.size < (w.alloc (imgO h m)).heap.size) := Lib.hid (by simp)
  clear H
  go_enter Try.func31, Try.ntmps31
  go_upto_region 1 with fail
  generalize w.alloc (imgO h m) = w1 at *
  obtain ⟨q0, q1, q2, q3, q4, q5, q6⟩ := HBX.out
  have g0 : ¬ f < 0 := by omega
  go_wp2_with fail
  go_ret3
  exact step_badN 1 HW.out

theorem rstep_out3 (m : Img) (f pc : Int) (st : List (Int × Int)) (A : Option Addr) (cap : Nat) (h : Hnd) (w : World) (H : ImgIn w w.heap.size h m) (hf0 : 0 ≤ f) (hf : f < (m.methods.length : Int)) (hp : pc < 0) :
    Calls Try.prog 31 #[imgV h m, .int .i64 f, .int .i64 pc, .slice A st.length cap] w (StepNew (stepOf m f pc st) w) := by
  have e0 : stepOf m f pc st = badStep 1 := by unfold stepOf; rw [if_neg (by omega)]
  rw [e0]
  clear e0
  have hle := H.methods.le
  have hcap := H.methods.cap
  have HW := Lib.hid (((Below.refl w.heap.size w).alloc (Nat.le_refl _) (imgO h m)))
  have HIM := Lib.hid (H.now HW.out)
  have HBX := Lib.hid (img_box w h m)
  have HZ : Hid (w.heap.size < (w.alloc (imgO h m)).heap.size) := Lib.hid (by simp)
  clear H
  go_enter Try.func31, Try.ntmps31
  go_upto_region 1 with fail
  generalize w.alloc (imgO h m) = w1 at *
  obtain ⟨q0, q1, q2, q3, q4, q5, q6⟩ := HBX.out
  have g0 : ¬ f < 0 := by omega
  have g1 : ¬ (m.methods.length : Int) ≤ f := by omega
  go_wp2_with fail
  go_ret3
  exact step_badN 1 HW.out

theorem rstep_out4 (m : Img) (x : Mth) (f : Nat) (pc : Int) (st : List (Int × Int)) (A : Option Addr) (cap : Nat) (h : Hnd) (w : World) (H : ImgIn w w.heap.size h m) (hg : m.methods[f]? = some x) (hp0 : 0 ≤ pc) (hp : (x.code.length : Int) ≤ pc) :
    Calls Try.prog 31 #[imgV h m, .int .i64 f, .int .i64 pc, .slice A st.length cap] w (StepNew (stepOf m f pc st) w) := by
  have hk : f < m.methods.length := (List.getElem?_eq_some_iff.mp hg).1
  have hx : m.methods[f] = x := (List.getElem?_eq_some_iff.mp hg).2
  have e0 : stepOf m f pc st = badStep 1 := by unfold stepOf mthN; rw [Int.toNat_natCast, hg, Option.getD_some, if_neg (by omega)]
  rw [e0]
  clear e0
  have hle := H.methods.le
  have hcap := H.methods.cap
  have HW := Lib.hid (((Below.refl w.heap.size w).alloc (Nat.le_refl _) (imgO h m)))
  have HIM := Lib.hid (H.now HW.out)
  have HBX := Lib.hid (img_box w h m)
  have HZ : Hid (w.heap.size < (w.alloc (imgO h m)).heap.size) := Lib.hid (by simp)
  clear H hg
  go_enter Try.func31, Try.ntmps31
  go_upto_region 1 with fail
  generalize w.alloc (imgO h m) = w1 at *
  obtain ⟨q0, q1, q2, q3, q4, q5, q6⟩ := HBX.out
  obtain ⟨ad, hx', eA, hab, hin, hc⟩ := img_mth HIM.out hk
  rw [hx] at hin hc
  have ccap := hin.code.cap
  have cle := hin.code.le
  have c4 := hc.c4
  rw [eA] at q3
  clear hin hc eA
  have g0 : ¬ (f : Int) < 0 := by omega
  have g1 : ¬ (m.methods.length : Int) ≤ f := by omega
  have g2 : ¬ pc < 0 := by omega
  go_wp2_with fail
  go_ret3
  exact step_badN 1 HW.out

end Go.Proofs.Ytefgepppcmhphaa
