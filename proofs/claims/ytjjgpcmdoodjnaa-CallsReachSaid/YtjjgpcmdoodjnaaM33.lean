/-
  Who calls whom (Of), by the program.
  Who comes to whom (Reach), by the program.
-/
import Derived.Test.YtjjgpcmdoodjnaaM32
import Derived.Deep.LoopGhost
namespace Go.Proofs.Ytjjgpcmdoodjnaa
set_option maxRecDepth 100000
set_option linter.unusedVariables false
set_option linter.unusedSimpArgs false
open Go.ChangeShapes Go.WideShapes Go.ChangeAt Go.RowKit

set_option maxHeartbeats 3200000 in
theorem cof_own (m : Img) (f : Int) (h : Hnd) (w : World) (H : ImgIn w w.heap.size h m) (hn : m.classes.length ≤ 1000) (hml : m.methods.length ≤ 1048576) (hc : ∀ x ∈ m.methods, x.code.length ≤ 1048576) :
    Calls Try.prog 10 #[imgV h m, .int .i64 f] w (OwnInts (callsOf m f) w) := by
  by_cases hf : 0 ≤ f ∧ f < m.methods.length
  · obtain ⟨f0, f1⟩ := hf
    obtain ⟨k, rfl⟩ := Int.eq_ofNat_of_zero_le f0
    have hk : k < m.methods.length := by omega
    obtain ⟨x, hx⟩ : ∃ x, m.methods[k] = x := ⟨_, rfl⟩
    have hxc := hc x (by rw [← hx]; exact List.getElem_mem hk)
    have HPK := Lib.hid (calls_pick hk hx)
    obtain ⟨L, hL⟩ : ∃ L, callsOf m (k : Int) = L := ⟨_, rfl⟩
    rw [hL] at HPK ⊢
    have hle := H.methods.le
    have hcap := H.methods.cap
    obtain ⟨ad, hx', eA, hab, hin, hcc⟩ := img_mth H hk
    rw [hx] at hin hcc
    obtain ⟨A0, A1, A2, A3, A4, k0, k1, k2, k3, k4⟩ := h
    obtain ⟨A0x, A1x, A4x, A7x, k0x, k1x, k4x, k7x⟩ := hx'
    dsimp only at eA hcap hle
    subst eA
    have HN := Lib.hid hn
    have HW := Lib.hid ((Below.refl w.heap.size w).alloc (Nat.le_refl _) (imgO ⟨A0, A1, A2, some ad, A4, k0, k1, k2, k3, k4⟩ m))
    have HIM := Lib.hid (H.now HW.out)
    have HBX := Lib.hid (img_box w ⟨A0, A1, A2, some ad, A4, k0, k1, k2, k3, k4⟩ m)
    have HZ : Hid (w.heap.size < (w.alloc (imgO ⟨A0, A1, A2, some ad, A4, k0, k1, k2, k3, k4⟩ m)).heap.size) := Lib.hid (by simp)
    have HAB : Hid ((ad.add (k * 8)).block < (w.alloc (imgO ⟨A0, A1, A2, some ad, A4, k0, k1, k2, k3, k4⟩ m)).heap.size) := Lib.hid (by rw [addr_add_block]; simp; omega)
    have HMC := Lib.hid (hcc.keep HW.out (by rw [addr_add_block]; exact hab))
    have HIN := Lib.hid (hin.now HW.out).code
    have ccap := hin.code.cap
    have cle := hin.code.le
    have HR1 : Hid ((decide (0 ≤ (k : Int)) && decide ((k : Int) < m.methods.length)) = true) := Lib.hid (by rw [decide_eq_true f0, decide_eq_true f1]; rfl)
    dsimp only at ccap cle
    have hmm := @run_makeMap Try.prog
    clear H hc hin hcc hn hab hx hL f0 f1
    go_enter Try.func10, Try.ntmps10
    go_upto_region 1 with fail
    generalize w.alloc (imgO ⟨A0, A1, A2, some ad, A4, k0, k1, k2, k3, k4⟩ m) = w1 at *
    have HX0 : Hid (Below w1.heap.size w1 w1) := Lib.hid (Below.refl _ _)
    obtain ⟨q0, q1, q2, q3, q4, q5, q6⟩ := HBX.out
    dsimp only at q0 q1 q2 q3 q4 q5 q6
    go_upto_region 4 with (go_at_call 16; (with_reducible refine (cismethod_is HIM HX0 HR1).mono ?_); rintro e w2 ⟨rfl, hb⟩; have HX2 := Lib.hid hb; clear hb)
    clear q0 q1 q2 q3 q4 q5 q6
    have HM0 := Lib.hid (MetIs.made w2 m.methods.length)
    have HX3 := Lib.hid (HX2.out.alloc HX2.out.size (.map #[] 0))
    have hB1 := HX2.out.size
    generalize w2.alloc (.map #[] 0) = w3 at *
    generalize w2.heap.size = B at *
    obtain ⟨q0, q1, q2, q3, q4, q5, q6⟩ := HBX.out.keep HX3.out HZ.out
    dsimp only at q0 q1 q2 q3 q4 q5 q6
    have c4 := (HMC.out.keep HX3.out HAB.out).c4
    dsimp only at c4
    go_wp2_with fail
    clear q0 q1 q2 q3 q4 q5 q6 c4
    go_loopw [22] (fun i wr => ∃ t : Nat, t ≤ x.code.length ∧ i = .int .i64 t ∧ Hid (MetIs wr B (fun g => metTo m (x.code.take t) g) m.methods.length) ∧ Hid (Below w1.heap.size w1 wr)) (fun i _ => x.code.length - (intOf i).toNat)
    case atStart => exact ⟨0, Nat.zero_le _, rfl, HM0, HX3⟩
    case round =>
      clear HM0 HX3 HX2
      obtain ⟨t, ht, rfl, HM, HX⟩ := hrel
      by_cases hlt : t < x.code.length
      · obtain ⟨ac, rfl, hac, i0, i1, i2⟩ := HIN.out.row.at_ hlt
        have HT1 := Lib.hid (metTo_snoc (m := m) hlt)
        generalize x.code[t] = ins at *
        obtain ⟨op, a, b⟩ := ins
        dsimp only at i0 i1 i2 HT1
        obtain ⟨T, hT⟩ : ∃ T, targetsOf m op a b = T := ⟨_, rfl⟩
        have hTl : T.length ≤ 1000 := by have := targets_len m op a b HN.out; rw [hT] at this; exact this
        have HTT := Lib.hid hT
        rw [hT] at HT1
        clear hT
        obtain ⟨P, hP⟩ : ∃ P, (fun g => metTo m (x.code.take t) g) = P := ⟨_, rfl⟩
        rw [hP] at HM
        have HT2 : Hid (∀ g, metTo m (x.code.take (t + 1)) g = (P g || inB T (g : Int))) := Lib.hid (fun g => by rw [HT1.out g, ← hP])
        clear HT1 hP
        have hszr := HX.out.size
        have j0 := (HX.out.cell (p := ac.add (t * 3)) (by rw [addr_add_block]; exact hac)).trans i0
        have j1 := (HX.out.cell (p := off_ (ac.add (t * 3)) 1) (by show (ac.add (t * 3)).block < _; rw [addr_add_block]; exact hac)).trans i1
        have j2 := (HX.out.cell (p := off_ (ac.add (t * 3)) 2) (by show (ac.add (t * 3)).block < _; rw [addr_add_block]; exact hac)).trans i2
        clear i0 i1 i2 hac
        go_upto_region 7 with fail
        clear j0 j1 j2
        have HIB := Lib.hid (cells_new wr [.int .i64 op, .int .i64 a, .int .i64 b] 45)
        have HA : Hid (Below wr.heap.size wr (wr.alloc (.cells ([.int .i64 op, .int .i64 a, .int .i64 b] : List Value).toArray 45))) := Lib.hid ((Below.refl _ _).alloc (Nat.le_refl _) _)
        have HM4 := Lib.hid (HM.out.below HA.out HM.out.lt)
        have HX4 := Lib.hid (HX.out.trans (HA.out.mono hszr))
        generalize wr.alloc (.cells ([.int .i64 op, .int .i64 a, .int .i64 b] : List Value).toArray 45) = w4 at *
        have i0 := HIB.out 0 _ rfl
        have i1 := HIB.out 1 _ rfl
        have i2 := HIB.out 2 _ rfl
        obtain ⟨q0, q1, q2, q3, q4, q5, q6⟩ := HBX.out.keep HX4.out HZ.out
        dsimp only at q0 q1 q2 q3 q4 q5 q6
        have hB4 := HM4.out.lt
        go_wp2_with (go_at_call 17; (with_reducible refine (cnamed_is HIM HX4 HN.out HTT).mono ?_); rintro e w5 ⟨v5, rfl, ho, hb⟩; have HM5 := Lib.hid (HM4.out.below hb HM4.out.lt); have HX5 := Lib.hid (HX4.out.trans (hb.mono HX4.out.size)); obtain ⟨A5, c5, rfl, hl5, g1, g2⟩ := own_ints ho; have HL5 := Lib.hid hl5; have HF5 : Hid (∀ ad, A5 = some ad → ad.block ≠ B) := Lib.hid (fun ad e => by have := (ho.lt ad.block (by rw [e]; rfl)).1; omega); clear hb ho hl5)
        clear q0 q1 q2 q3 q4 q5 q6 i0 i1 i2
        go_loopw [30] (fun j wi => ∃ s : Nat, s ≤ T.length ∧ j = .int .i64 s ∧ Hid (MetIs wi B (fun g => P g || inB (T.take s) (g : Int)) m.methods.length) ∧ Hid (Below w1.heap.size w1 wi) ∧ Hid (Lies wi wi.heap.size A5 (T.map (Value.int .i64)))) (fun j _ => T.length - (intOf j).toNat)
        case atStart => exact ⟨0, Nat.zero_le _, rfl, Lib.hid (HM5.out.cong (fun g _ => by rw [List.take_zero, inB_nil, Bool.or_false])), HX5, HL5⟩
        case round =>
          clear HM5 HX5 HL5
          obtain ⟨s, hs, rfl, HMi, HXi, HLi⟩ := hrel
          by_cases hst : s < T.length
          · obtain ⟨a5, rfl, hab5, p5⟩ := HLi.out s (.int .i64 T[s]) (by rw [List.getElem?_map, List.getElem?_eq_getElem hst]; rfl)
            have HSN := Lib.hid (fun g : Nat => inB_snoc hst (g : Int))
            generalize T[s] = q at *
            obtain ⟨q0, q1, q2, q3, q4, q5, q6⟩ := HBX.out.keep HXi.out HZ.out
            dsimp only at q0 q1 q2 q3 q4 q5 q6
            clear hab5
            by_cases hm : 0 ≤ q ∧ q < m.methods.length
            · obtain ⟨m0, m1⟩ := hm
              obtain ⟨g, rfl⟩ := Int.eq_ofNat_of_zero_le m0
              have HR : Hid ((decide (0 ≤ (g : Int)) && decide ((g : Int) < m.methods.length)) = true) := Lib.hid (by rw [decide_eq_true m0, decide_eq_true m1]; rfl)
              have hgm : g < m.methods.length := by omega
              clear m0 m1
              go_wp2_with (first
                | (go_at_call 16; (with_reducible refine (cismethod_is HIM HXi HR).mono ?_); rintro e w6 ⟨rfl, hb⟩; have HM6 := Lib.hid (HMi.out.below hb HMi.out.lt); have HX6 := Lib.hid (HXi.out.trans (hb.mono HXi.out.size)); have HL6 := Lib.hid ((HLi.out.below hb).more hb.size); clear hb)
                | (at_mapUpdate; refine wp_met_store _ rfl _ _ _ 51 (.inl rfl) Try.underlying51 B m.methods.length g _ rfl HM6.out hgm hml rfl rfl ?_; intro w7 hm7 hg7; have HM7 := Lib.hid hm7; have HX7 := Lib.hid (HX6.out.grown hg7 HX6.out.size (fun j hj => by injection hj with hj; omega)); have HL7 := Lib.hid (lies_other HL6.out hg7 HF5.out); clear hm7 hg7))
              go_roundw
              case rel => exact ⟨s + 1, by omega, by go_num, Lib.hid (HM7.out.cong (fun k _ => by rw [HSN.out k, ← Bool.or_assoc]; congr 1; exact decide_eq_decide.mpr (by omega))), HX7, HL7⟩
              case measure => simp [intOf]; omega
            · have HR : Hid ((decide (0 ≤ q) && decide (q < m.methods.length)) = false) := Lib.hid (by rw [Bool.eq_false_iff]; simpa using hm)
              have HNQ : Hid (∀ k : Nat, k < m.methods.length → decide ((k : Int) = q) = false) := Lib.hid (fun k hk => decide_eq_false (by omega))
              clear hm
              go_wp2_with (go_at_call 16; (with_reducible refine (cismethod_is HIM HXi HR).mono ?_); rintro e w6 ⟨rfl, hb⟩; have HM6 := Lib.hid (HMi.out.below hb HMi.out.lt); have HX6 := Lib.hid (HXi.out.trans (hb.mono HXi.out.size)); have HL6 := Lib.hid ((HLi.out.below hb).more hb.size); clear hb)
              go_roundw
              case rel => exact ⟨s + 1, by omega, by go_num, Lib.hid (HM6.out.cong (fun k hk => by rw [HSN.out k, HNQ.out k hk, Bool.or_false])), HX6, HL6⟩
              case measure => simp [intOf]; omega
          · obtain rfl : s = T.length := by omega
            go_wp2_with fail
            go_roundw
            case rel => exact ⟨t + 1, by omega, by go_num, Lib.hid (HMi.out.cong (fun k _ => by rw [HT2.out k, List.take_length])), HXi⟩
            case measure => simp [intOf]; omega
      · obtain rfl : t = x.code.length := by omega
        have HL : Hid (pickTo (fun g => metTo m (x.code.take x.code.length) g) m.methods.length = L) := Lib.hid (by rw [List.take_length]; exact HPK.out.symm)
        go_wp2_with (go_at_call 18; (with_reducible refine (rising_is HM hml HL).mono ?_); rintro e w9 ⟨v9, rfl, ho, hb⟩; have HO9 := Lib.hid ho; have HX9 := Lib.hid (HX.out.trans (hb.mono HX.out.size)); have hz9 := HX.out.size; clear ho hb)
        go_ret
        exact ⟨v9, rfl, own_lower HO9.out (Nat.le_trans HW.out.size hz9), HW.out.trans (HX9.out.mono HW.out.size)⟩
  · have HR1 : Hid ((decide (0 ≤ f) && decide (f < m.methods.length)) = false) := Lib.hid (by rw [Bool.eq_false_iff]; simpa using hf)
    rw [calls_no hf]
    have HW := Lib.hid ((Below.refl w.heap.size w).alloc (Nat.le_refl _) (imgO h m))
    have HIM := Lib.hid (H.now HW.out)
    have HBX := Lib.hid (img_box w h m)
    clear H hf hc
    go_enter Try.func10, Try.ntmps10
    go_upto_region 1 with fail
    generalize w.alloc (imgO h m) = w1 at *
    have HX0 : Hid (Below w1.heap.size w1 w1) := Lib.hid (Below.refl _ _)
    obtain ⟨q0, q1, q2, q3, q4, q5, q6⟩ := HBX.out
    go_wp2_with (go_at_call 16; (with_reducible refine (cismethod_is HIM HX0 HR1).mono ?_); rintro e w2 ⟨rfl, hb⟩; have HX2 := Lib.hid hb; clear hb)
    go_ret
    exact ⟨_, rfl, World.ownsRow_nil _ _ _ _, HW.out.trans (HX2.out.mono HW.out.size)⟩
end Go.Proofs.Ytjjgpcmdoodjnaa
namespace Go.Proofs.Ytjjgpcmdoodjnaa
set_option maxRecDepth 100000
set_option linter.unusedVariables false
set_option linter.unusedSimpArgs false
open Go.ChangeShapes Go.WideShapes Go.ChangeAt Go.RowKit

theorem cofown_is {m : Img} {f : Int} {T : List Int} {h : Hnd} {w0 w : World} (HI : Hid (ImgIn w0 w0.heap.size h m)) (HX : Hid (Below w0.heap.size w0 w)) (hn : m.classes.length ≤ 1000) (hml : m.methods.length ≤ 1048576) (hc : Hid (∀ x ∈ m.methods, x.code.length ≤ 1048576)) (HL : Hid (callsOf m f = T)) :
    Calls Try.prog 10 #[imgV h m, .int .i64 f] w (OwnInts T w) := by
  have H := cof_own m f h w (HI.out.now HX.out) hn hml hc.out
  rw [HL.out] at H
  exact H
/-- A row of the call's own, and one that came later, are apart. -/
theorem apart_own {w w5 : World} {B e n n' c' : Nat} {v : Value} {xs ys : List Value} {A : Option Addr} (hv : w.ownsRow B e 1 v n xs) (ho : w5.ownsRow w.heap.size e 1 (.slice A n' c') n' ys) : Apart v A := fun g hg ad e => by
  have h1 := own_block_lt hv g hg
  have h2 := (ho.lt ad.block (by rw [e]; rfl)).1
  omega
theorem lies_kept {w w' : World} {A : Option Addr} {xs : List Value} {b C : Nat} (h : Lies w C A xs) (hC : C ≤ w.heap.size) (hg : w.grownBy w' (some b)) (hf : ∀ ad, A = some ad → ad.block ≠ b) : Lies w' C A xs := fun j u hu => by
  obtain ⟨ad, e, hb, hc⟩ := h j u hu
  refine ⟨ad, e, hb, ?_⟩
  have hk : (ad.add j).block = ad.block := by rw [addr_add_block]
  exact (World.cell?_of_block (hg.block _ (by rw [hk]; omega) (fun e' => hf ad e (by injection e' with e'; rw [hk] at e'; exact e')))).trans hc
/-- The last one taken off. -/
theorem own_pop {w : World} {B e n c : Nat} {ad : Option Addr} {xs : List Value} {x : Value} (hl : xs.length = n) (h : w.ownsRow B e 1 (.slice ad (n + 1) c) (n + 1) (xs ++ [x])) : w.ownsRow B e 1 (.slice ad n c) n xs ∧ (∃ g, ad = some ⟨g, 0, none⟩ ∧ w.cell? ⟨g, n, none⟩ = some x) ∧ n + 1 ≤ c ∧ c ≤ maxLen := by
  subst hl
  rcases h.2 with ⟨h0, _⟩ | ⟨g, cap, cur, hv, hg, hh, h1, h2, h3, h4⟩
  · cases h0
  · injection hv with e1 e2 e3
    subst e1
    subst e3
    have ht : cur.toList.take (xs.length * 1) = xs := by
      have : (cur.toList.take ((xs.length + 1) * 1)).take xs.length = xs := by rw [h4, List.take_left]
      rw [List.take_take, Nat.min_eq_left (by omega)] at this
      rw [Nat.mul_one]
      exact this
    refine ⟨⟨by simp, .inr ⟨g, c, cur, rfl, hg, hh, by omega, h2, h3, ht⟩⟩, ⟨g, rfl, ?_⟩, h1, h2⟩
    have hx : cur.toList[xs.length]? = some x := by
      have : (cur.toList.take ((xs.length + 1) * 1))[xs.length]? = (xs ++ [x])[xs.length]? := by rw [h4]
      rw [List.getElem?_take_of_lt (by omega)] at this
      rw [this]
      simp
    simp [World.cell?, hh]
    simpa using hx

theorem list_last : ∀ l : List Int, l = [] ∨ ∃ A y, l = A ++ [y]
  | [] => .inl rfl
  | x :: l => .inr (by
    rcases list_last l with rfl | ⟨A, y, rfl⟩
    · exact ⟨[], x, rfl⟩
    · exact ⟨x :: A, y, rfl⟩)
set_option maxHeartbeats 3200000 in
theorem creach_own (m : Img) (f : Int) (h : Hnd) (w : World) (H : ImgIn w w.heap.size h m) (hn : m.classes.length ≤ 1000) (hml : m.methods.length ≤ 1048576) (hc : ∀ x ∈ m.methods, x.code.length ≤ 1048576) :
    Calls Try.prog 11 #[imgV h m, .int .i64 f] w (OwnInts (reachOf m f) w) := by
  have HCO := Lib.hid hc
  have HW := Lib.hid ((Below.refl w.heap.size w).alloc (Nat.le_refl _) (imgO h m))
  have HIM := Lib.hid (H.now HW.out)
  have HBX := Lib.hid (img_box w h m)
  have HZ : Hid (w.heap.size < (w.alloc (imgO h m)).heap.size) := Lib.hid (by simp)
  clear H hc
  by_cases hf : 0 ≤ f ∧ f < m.methods.length
  · obtain ⟨f0, f1⟩ := hf
    obtain ⟨k, rfl⟩ := Int.eq_ofNat_of_zero_le f0
    have hk : k < m.methods.length := by omega
    obtain ⟨L, hL⟩ : ∃ L, reachOf m (k : Int) = L := ⟨_, rfl⟩
    rw [hL]
    have HL := Lib.hid hL
    have HR1 : Hid ((decide (0 ≤ (k : Int)) && decide ((k : Int) < m.methods.length)) = true) := Lib.hid (by rw [decide_eq_true f0, decide_eq_true f1]; rfl)
    have HST := Lib.hid (Reached.start (m := m) hk)
    have hmm := @run_makeMap Try.prog
    obtain ⟨i0, hi, hz0, hz1, hz2⟩ := info_parts info_int
    clear hL f0 f1
    go_enter Try.func11, Try.ntmps11
    go_upto_region 1 with fail
    generalize w.alloc (imgO h m) = w1 at *
    have HX0 : Hid (Below w1.heap.size w1 w1) := Lib.hid (Below.refl _ _)
    obtain ⟨q0, q1, q2, q3, q4, q5, q6⟩ := HBX.out
    go_upto_region 3 with (go_at_call 16; (with_reducible refine (cismethod_is HIM HX0 HR1).mono ?_); rintro e w2 ⟨rfl, hb⟩; have HX2 := Lib.hid hb; clear hb)
    clear q0 q1 q2 q3 q4 q5 q6
    have HM0 := Lib.hid (MetIs.made w2 m.methods.length)
    have HX3 := Lib.hid (HX2.out.alloc HX2.out.size (.map #[] 0))
    go_upto_region 4 with (first
      | (refine wp_met_store _ rfl _ _ _ 51 (.inr rfl) Try.underlying51 w2.heap.size m.methods.length k _ rfl HM0.out hk hml rfl rfl ?_; intro w4 hm4 hg4; have HM4 := Lib.hid hm4; have HX4 := Lib.hid (HX3.out.grown hg4 HX3.out.size (fun j hj => by injection hj with hj; have := HX2.out.size; omega)); clear hm4 hg4))
    have hBB := HM4.out.lt
    have hB2 := HX2.out.size
    have HA : Hid (Below w4.heap.size w4 (w4.alloc (.cells #[.int .i64 (k : Int)] 3))) := Lib.hid ((Below.refl _ _).alloc (Nat.le_refl _) _)
    have HM5 := Lib.hid (HM4.out.below HA.out hBB)
    have HX5 := Lib.hid (HX4.out.trans (HA.out.mono HX4.out.size))
    have HO5 : Hid ((w4.alloc (.cells #[.int .i64 (k : Int)] 3)).ownsRow w4.heap.size 3 1 (.slice (some ⟨w4.heap.size, 0, none⟩) 1 1) 1 [.int .i64 (k : Int)]) := Lib.hid ⟨rfl, .inr ⟨w4.heap.size, 1, #[.int .i64 (k : Int)], rfl, Nat.le_refl _, heap_alloc_new _ _, Nat.le_refl _, by unfold maxLen; omega, rfl, rfl⟩⟩
    have hZ4 := HX4.out.size
    generalize w2.heap.size = B at *
    go_upto_region 5 with fail
    generalize w4.alloc (.cells #[.int .i64 (k : Int)] 3) = w5 at *
    generalize w4.heap.size = B1 at *
    have HUN := Lib.hid HST.out.room
    go_loopg [6] (1 + 2 * unmet (fun j => (fun _ => false) j || decide (j = k)) m.methods.length) (fun gk v wr => ∃ (p : Nat → Bool) (ask : List Int) (n g c : Nat), v = .slice (some ⟨g, 0, none⟩) n c ∧ Hid (ask.length = n) ∧ Hid (wr.ownsRow B1 3 1 (.slice (some ⟨g, 0, none⟩) n c) n (ask.map (Value.int .i64))) ∧ Hid (MetIs wr B p m.methods.length) ∧ Hid (Below w1.heap.size w1 wr) ∧ Hid (Reached m k p ask) ∧ Hid (n + 2 * unmet p m.methods.length ≤ gk))
    case atStart => exact ⟨_, [(k : Int)], 1, B1, 1, rfl, Lib.hid rfl, HO5, HM5, HX5, HST, Lib.hid (Nat.le_refl _)⟩
    case round =>
      clear HM0 HX3 HX2 HM4 HX4 HA HM5 HX5 HO5 HST HUN
      obtain ⟨p, ask, n, g, c, rfl, HN, HO, HM, HX, HRE, HGK⟩ := hrel
      rcases list_last ask with rfl | ⟨A, y, rfl⟩
      · obtain rfl : 0 = n := HN.out
        have HPK : Hid (pickTo p m.methods.length = L) := Lib.hid (by rw [← HL.out]; exact HRE.out.all hk)
        go_wp2_with (go_at_call 18; (with_reducible refine (rising_is HM hml HPK).mono ?_); rintro e w9 ⟨v9, rfl, ho, hb⟩; have HO9 := Lib.hid ho; have HX9 := Lib.hid (HX.out.trans (hb.mono HX.out.size)); have hz9 := HX.out.size; clear ho hb)
        go_ret
        exact ⟨v9, rfl, own_lower HO9.out (Nat.le_trans HW.out.size hz9), HW.out.trans (HX9.out.mono HW.out.size)⟩
      · obtain ⟨nA, hnA⟩ : ∃ nA, A.length = nA := ⟨_, rfl⟩
        obtain rfl : nA + 1 = n := by have := HN.out; rw [List.length_append, List.length_singleton] at this; omega
        obtain ⟨nx, rfl, hre⟩ := HRE.out.pop
        have HO' := HO.out
        rw [List.map_append] at HO'
        obtain ⟨hop, ⟨g', e', p0⟩, hnc, hcm⟩ := own_pop (by rw [List.length_map, hnA]) HO'
        injection e' with e'
        injection e' with e1
        subst e1
        have HNA := Lib.hid hnA
        have HOp := Lib.hid hop
        have HRG := Lib.hid hre
        have hroom := hre.room
        rw [hnA] at hroom
        clear HO' hop hre hnA HN
        clear HO HRE
        have hcm' : c ≤ 9223372036854775807 := by unfold maxLen at hcm; omega
        go_upto_region 9 with fail
        clear p0 hcm hcm'
        obtain ⟨T, hT⟩ : ∃ T, callsOf m (nx : Int) = T := ⟨_, rfl⟩
        rw [hT] at HRG
        have hTl : T.length ≤ m.methods.length := by rw [← hT]; exact calls_len _ _
        have HTT := Lib.hid hT
        clear hT
        have HGK0 : Hid (nA + 2 * unmet p m.methods.length + 1 ≤ gk) := Lib.hid (by have := HGK.out; omega)
        obtain ⟨q0, q1, q2, q3, q4, q5, q6⟩ := HBX.out.keep HX.out HZ.out
        have hBr := HM.out.lt
        go_wp2_with (go_at_call 10; (with_reducible refine (cofown_is HIM HX hn hml HCO HTT).mono ?_); rintro e w6 ⟨v6, rfl, ho, hb⟩; have HM6 := Lib.hid (HM.out.below hb hBr); have HX6 := Lib.hid (HX.out.trans (hb.mono HX.out.size)); obtain ⟨A6, c6, rfl, hl6, g1, g2⟩ := own_ints ho; have HL6 := Lib.hid hl6; have HF6 : Hid (∀ ad, A6 = some ad → ad.block ≠ B) := Lib.hid (fun ad e => by have := (ho.lt ad.block (by rw [e]; rfl)).1; omega); have HAP6 := Lib.hid (apart_own HOp.out ho); have HO6 := Lib.hid (own_below HOp.out hb (own_block_lt HOp.out)); clear hb ho hl6)
        clear q0 q1 q2 q3 q4 q5 q6
        go_loopw [6, 40] (fun v j wi => ∃ (p : Nat → Bool) (ask : List Int) (n g c s : Nat), v = .slice (some ⟨g, 0, none⟩) n c ∧ j = .int .i64 s ∧ s ≤ T.length ∧ Hid (ask.length = n) ∧ Hid (wi.ownsRow B1 3 1 (.slice (some ⟨g, 0, none⟩) n c) n (ask.map (Value.int .i64))) ∧ Hid (MetIs wi B p m.methods.length) ∧ Hid (Below w1.heap.size w1 wi) ∧ Hid (Reaching m k p ask nx T s) ∧ Hid (n + 2 * unmet p m.methods.length + 1 ≤ gk) ∧ Hid (Lies wi w6.heap.size A6 (T.map (Value.int .i64))) ∧ Hid (Apart (.slice (some ⟨g, 0, none⟩) n c) A6) ∧ Hid (w6.heap.size ≤ wi.heap.size)) (fun _ j _ => T.length - (intOf j).toNat)
        case atStart => exact ⟨p, A, nA, g, c, 0, rfl, rfl, Nat.zero_le _, HNA, HO6, HM6, HX6, HRG, HGK0, HL6, HAP6, Lib.hid (Nat.le_refl _)⟩
        case round =>
          clear HM6 HX6 HL6 HAP6 HO6 HRG HGK0 HGK HOp HM HX HNA hroom hnc
          obtain ⟨P, K, n, d, cd, s, rfl, rfl, hs, HN, HO, HM, HX, HRG, HGK, HL6, HAP, HSZ⟩ := hrel
          by_cases hst : s < T.length
          · obtain ⟨a6, rfl, hab6, p6⟩ := HL6.out s (.int .i64 T[s]) (by rw [List.getElem?_map, List.getElem?_eq_getElem hst]; rfl)
            obtain ⟨gn, hgn, hgm⟩ := HRG.out.at_ hst
            have HGN := Lib.hid hgn
            rw [hgn] at p6
            clear hgn
            have HLT6 : Hid (∀ ad', some a6 = some ad' → ad'.block < w6.heap.size) := Lib.hid (fun ad' e => by injection e with e; subst e; exact hab6)
            clear hab6
            obtain rfl : K.length = n := HN.out
            have hroom : K.length + 1 ≤ m.methods.length := by have := HRG.out.room; omega
            have HA : Hid (Below wr.heap.size wr (wr.alloc (.cells #[] 53))) := Lib.hid ((Below.refl _ _).alloc (Nat.le_refl _) _)
            obtain ⟨r, hr⟩ : ∃ r, P gn = r := ⟨_, rfl⟩
            have HPR := Lib.hid hr
            clear hr HN
            go_upto_region 13 with (at_lookup; refine wp_met_look _ rfl _ _ 51 rfl Try.underlying51 B m.methods.length gn P r rfl HM.out hgm hml rfl HPR.out ?_)
            clear p6
            have HMa := Lib.hid (HM.out.below HA.out HM.out.lt)
            have HXa := Lib.hid (HX.out.trans (HA.out.mono HX.out.size))
            have HOa := Lib.hid (own_below HO.out HA.out (own_block_lt HO.out))
            have HLa : Hid (Lies (wr.alloc (.cells #[] 53)) w6.heap.size (some a6) (T.map (Value.int .i64))) := Lib.hid (HL6.out.below_to HA.out HSZ.out)
            have HSa : Hid (w6.heap.size ≤ (wr.alloc (.cells #[] 53)).heap.size) := Lib.hid (Nat.le_trans HSZ.out HA.out.size)
            generalize wr.alloc (.cells #[] 53) = w7 at *
            clear HA HM HX HO HL6 HSZ
            cases r
            · have HNW := Lib.hid (HRG.out.new hst HGN.out hgm HPR.out)
              have HGK2 : Hid (K.length + 1 + 2 * unmet (fun j => P j || decide (j = gn)) m.methods.length + 1 ≤ gk) := Lib.hid (by have := unmet_put HPR.out m.methods.length hgm; have := HGK.out; omega)
              go_wp2_with (first
                | (at_mapUpdate; refine wp_met_store _ rfl _ _ _ 51 (.inl rfl) Try.underlying51 B m.methods.length gn P rfl HMa.out hgm hml rfl rfl ?_; intro w8 hm8 hg8; have HM8 := Lib.hid hm8; have HX8 := Lib.hid (HXa.out.grown hg8 HXa.out.size (fun j hj => by injection hj with hj; omega)); have HO8 := Lib.hid (HOa.out.kept hg8 (Or.inr (row_ne_low HOa.out hBB).symm)); have HL8 := Lib.hid (lies_kept HLa.out HSa.out hg8 HF6.out); have HS8 := Lib.hid (Nat.le_trans HSa.out hg8.size); have hz8 := HX8.out.size; clear hm8 hg8)
                | (at_builtin; refine wpList_append_lies _ rfl _ _ 26 rfl B1 3 i0 (.int .i64 0) 1 8 Try.underlying26 hi hz0 hz1 hz2 rfl (by decide) _ _ _ rfl (HO8.out.alloc _) ⟨_, 0, none⟩ 1 1 [.int .i64 (gn : Int)] rfl rfl (own_one _ _) (one_cell _) (by decide) (by unfold maxLen; omega) (by omega) (by have := own_block_lt HO8.out d rfl; have := (HO8.out.lt d rfl).1; simp; omega) _ rfl ?_; intro g9 c9 w9 hown' hgrow hor hlt9; have HO9 : Hid (w9.ownsRow B1 3 1 (.slice (some ⟨g9, 0, none⟩) (K.length + 1) c9) (K.length + 1) ((K ++ [(gn : Int)]).map (Value.int .i64))) := Lib.hid (by rw [List.map_append]; exact hown'); have HX9 := Lib.hid (appK_more (HX8.out.alloc hz8 _) (own_lower (HO8.out.alloc _) hZ4) (by simp; omega) hgrow); have HM9 := Lib.hid ((HM8.out.below ((Below.refl _ _).alloc (Nat.le_refl _) _) HM8.out.lt).kept hgrow (row_ne_low HO8.out hBB)); have HL9 := Lib.hid (lies_grown HL8.out HS8.out hgrow HAP.out); have HAP9 : Hid (Apart (.slice (some ⟨g9, 0, none⟩) (K.length + 1) c9) (some a6)) := Lib.hid (apart_next HAP.out HLT6.out hor (by have := HS8.out; simp; omega)); have HS9 : Hid (w6.heap.size ≤ w9.heap.size) := Lib.hid (by have h1 := hgrow.size; have h2 := HS8.out; simp at h1; omega); clear hown' hgrow hor hlt9))
              go_roundw
              case rel => exact ⟨_, K ++ [(gn : Int)], K.length + 1, g9, c9, s + 1, rfl, by go_num, by omega, Lib.hid (by simp), HO9, HM9, HX9, HNW, HGK2, HL9, HAP9, HS9⟩
              case measure => simp [intOf]; omega
            · have HNW := Lib.hid (HRG.out.old hst HGN.out HPR.out)
              go_wp2_with fail
              go_roundw
              case rel => exact ⟨P, K, K.length, d, cd, s + 1, rfl, by go_num, by omega, Lib.hid rfl, HOa, HMa, HXa, HNW, HGK, HLa, HAP, HSa⟩
              case measure => simp [intOf]; omega
          · obtain rfl : s = T.length := by omega
            have HEN := Lib.hid (HRG.out.end_)
            go_wp2_with fail
            go_roundg (n + 2 * unmet P m.methods.length)
            case measure => have := HGK.out; omega
            case rel => exact ⟨P, K, n, d, cd, rfl, HN, HO, HM, HX, HEN, Lib.hid (Nat.le_refl _)⟩
  · have HR1 : Hid ((decide (0 ≤ f) && decide (f < m.methods.length)) = false) := Lib.hid (by rw [Bool.eq_false_iff]; simpa using hf)
    rw [reach_no hf]
    clear hf HCO
    go_enter Try.func11, Try.ntmps11
    go_upto_region 1 with fail
    generalize w.alloc (imgO h m) = w1 at *
    have HX0 : Hid (Below w1.heap.size w1 w1) := Lib.hid (Below.refl _ _)
    obtain ⟨q0, q1, q2, q3, q4, q5, q6⟩ := HBX.out
    go_wp2_with (go_at_call 16; (with_reducible refine (cismethod_is HIM HX0 HR1).mono ?_); rintro e w2 ⟨rfl, hb⟩; have HX2 := Lib.hid hb; clear hb)
    go_ret
    exact ⟨_, rfl, World.ownsRow_nil _ _ _ _, HW.out.trans (HX2.out.mono HW.out.size)⟩
end Go.Proofs.Ytjjgpcmdoodjnaa
