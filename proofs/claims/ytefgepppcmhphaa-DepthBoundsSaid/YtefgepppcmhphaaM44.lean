/-
  What the document's own answer for what methods take (Bound) comes to.
-/
import Derived.Test.YtefgepppcmhphaaM28
import Derived.Test.YtefgepppcmhphaaM43
import Derived.Test.YtefgepppcmhphaaM14
import Derived.IntWalk
import Derived.RegionTactic
import Derived.ChangeAlike
import Derived.Deep.RegionHeld3
import Derived.Deep.QuietTactic
import Derived.BigQuiet
namespace Go.Proofs.Ytefgepppcmhphaa
set_option maxRecDepth 100000
set_option linter.unusedVariables false
set_option linter.unusedSimpArgs false
open Go.ChangeShapes Go.WideShapes Go.ChangeAt Go.RowKit
set_option linter.unusedVariables false
set_option linter.unusedSimpArgs false

/-- What Bound answers: numbers, or that there is none. -/
def BoundOut (m : Img) (maps : List (List Shp)) (w : World) (e : Ending) (w' : World) : Prop := ∃ A n c ok, e = .returned (.tuple #[.slice A n c, .bool ok]) ∧ Below w.heap.size w w' ∧ ok = ringsB m ∧ (ok = true → n = m.methods.length ∧ SlcIs IntAt 1 w' w'.heap.size A c (boundsOf m maps))
set_option maxHeartbeats 12800000 in
theorem rbound_any (m : Img) (maps : List (List Shp)) (A : Option Addr) (c : Nat) (h : Hnd) (w : World) (H : ImgIn w w.heap.size h m) (hs : saneB8 m = true) (hM : SlcIs (SlcAt ShpAt 2) 1 w w.heap.size A c maps) (hz : MapsTo 4000 maps) :
    Calls Try.prog 10 #[imgV h m, .slice A maps.length c] w (BoundOut m maps w) := by
  obtain ⟨i1, hi1, hy0, hy1, hy2⟩ := info_partsK info_int
  have HW := Lib.hid (below_box (w := w) (h := h) (m := m))
  have HBX := Lib.hid (img_box w h m)
  have HZ : Hid (w.heap.size < (w.alloc (imgO h m)).heap.size) := Lib.hid (by simp)
  have HI := Lib.hid (H.now HW.out)
  have HM0 := Lib.hid (slcUp RowAt.keeps hM HW.out)
  have HMZ := Lib.hid hz
  have HSB := Lib.hid hs
  have HM := Lib.hid (saneB8_yes hs)
  have hle := H.methods.le
  have hcap := H.methods.cap
  have hl1 := hM.le
  have hl2 := hM.cap
  obtain ⟨n, hn⟩ : ∃ n, m.methods.length = n := ⟨_, rfl⟩
  have hn12 : n ≤ 12 := by have := (saneB8_parts hs).1; omega
  have HN := Lib.hid hn
  obtain ⟨EL, hEL⟩ : ∃ EL, edgesOf m = EL := ⟨_, rfl⟩
  have HEQ := Lib.hid hEL
  have HEL : Hid (edgesOf m = EL ∧ EL.length = n) := Lib.hid ⟨hEL, by rw [← hEL, edges_len]; exact hn⟩
  have HELN : Hid (EL.length = n) := Lib.hid HEL.out.2
  have HED : Hid (EdgesIn EL n) := Lib.hid (by rw [← hEL, ← hn]; exact edges_in m)
  obtain ⟨nm, hnm⟩ : ∃ z, maps.length = z := ⟨_, rfl⟩
  have HMN := Lib.hid hnm
  rw [hnm]
  rw [hnm] at hl1
  clear H hM hz hs hn hEL hnm
  have HX : Hid (Below (w.alloc (imgO h m)).heap.size (w.alloc (imgO h m)) (w.alloc (imgO h m))) := Lib.hid (Below.refl _ _)
  go_enter Try.func10, Try.ntmps10
  go_upto_region 1 with fail
  generalize w.alloc (imgO h m) = w1 at *
  obtain ⟨q0, q1, q2, q3, q4, q5, q6⟩ := HBX.out
  go_upto_region 3 with (first
    | (go_at_call 15; (with_reducible refine (redges_is HI HX HSB HEL).mono ?_); rintro e w5 ⟨A5, c5, rfl, hs, hb⟩; have HX5 := Lib.hid hb; have HE5 := Lib.hid hs; clear hb hs; obtain ⟨q0, q1, q2, q3, q4, q5, q6⟩ := HBX.out.keep HX5.out HZ.out)
    | (go_at_call 14; (with_reducible refine (rways_is HE5 HELN (by omega)).mono ?_); rintro e w6 ⟨gO, G, W, rfl, hb, hq, hg, hw, hgo, hgg⟩; have H65 := Lib.hid hb; have H61 := Lib.hid (HX5.out.trans (hb.mono HX5.out.size)); have HQ6 := Lib.hid hq; have HGL := Lib.hid hg; have HWY := Lib.hid hw; clear hb hq hg hw hgo hgg; obtain ⟨q0, q1, q2, q3, q4, q5, q6⟩ := HBX.out.keep H61.out HZ.out))
  have HWB : Hid (∀ i j : Nat, i < n → j < n → wat W i j = wayB EL n i j) := Lib.hid (fun i j hi hj => by
    have h1 := HWY.out.iff hi hj
    rw [← wayB_iff] at h1
    exact Bool.eq_iff_iff.mpr h1)
  have hel := HE5.out.le
  have hec := HE5.out.cap
  rw [HELN.out] at hel
  clear HX HX5
  go_wp2_with fail
  try simp only [HN.out]
  go_loopw [9] (fun i wr => ∃ k : Nat, k ≤ n ∧ i = .int .i64 k ∧ Hid (∀ f, f < k → badRing m f = false) ∧ wr = w6) (fun i _ => n - (intOf i).toNat)
  case atStart => exact ⟨0, Nat.zero_le _, rfl, Lib.hid (fun f hf => by omega), by first | rfl | trivial⟩
  case round =>
    obtain ⟨k, hk, rfl, HBD, hwr⟩ := hrel
    have hwr := hwr.symm
    subst hwr
    by_cases hkn : k < n
    · have hkm : k < m.methods.length := by rw [HN.out]; exact hkn
      obtain ⟨ad, hx, eA, hab, hin, hc⟩ := img_mth HI.out hkm
      have c5 := (H61.out.cell (p := off_ (ad.add (k * 8)) 5) (by show (ad.add _).block < _; rw [addr_add_block]; exact hab)).trans hc.c5
      have hmn : mthN m (k : Int) = m.methods[k] := by unfold mthN; rw [Int.toNat_natCast, List.getElem?_eq_getElem hkm]; rfl
      have hxd := (HM.out.method (List.getElem_mem hkm)).fits.d0
      have hxd1 := (HM.out.method (List.getElem_mem hkm)).fits.d1
      generalize m.methods[k] = x at *
      rw [eA] at q3
      obtain ⟨gk, hgk⟩ : ∃ z, G[k]? = some z := ⟨_, List.getElem?_eq_getElem (by rw [HGL.out]; exact hkn)⟩
      have e1 := HQ6.out.row_get hgk
      have e2 := HQ6.out.bit_get hgk hkn
      rw [HWB.out k k hkn hkn] at e2
      obtain ⟨b, hb⟩ : ∃ z, wayB EL n k k = z := ⟨_, rfl⟩
      rw [hb] at e2
      have HBR : Hid (badRing m k = (b && decide (x.depth < 1))) := Lib.hid (by unfold badRing; rw [hmn, HEQ.out, HN.out, hb])
      clear hgk hb hmn hc hin
      cases b
      · have HNX : Hid (∀ f, f < k + 1 → badRing m f = false) := Lib.hid (fun f hf => by
          rcases Nat.lt_or_ge f k with q | q
          · exact HBD.out f q
          · obtain rfl : f = k := by omega
            rw [HBR.out]; rfl)
        go_wp2_with fail
        go_roundw
        case rel => exact ⟨k + 1, by omega, by go_num, HNX, by first | rfl | trivial⟩
        case measure => simp [intOf]; omega
      by_cases hd : x.depth < 1
      · have HRB : Hid (false = ringsB m) := Lib.hid (by
          unfold ringsB
          rw [range_not hkm (by rw [HBR.out, decide_eq_true hd]; rfl)])
        go_wp2_with fail
        refine bodyPost_ret (v := .tuple #[.slice none 0 0, .bool false]) (by simp [results, Try.results10, go_sem]) rfl ?_
        exact ⟨none, 0, 0, false, rfl, HW.out.trans (H61.out.mono (Nat.le_of_lt HZ.out)), HRB.out, fun e => by cases e⟩
      · have HNX : Hid (∀ f, f < k + 1 → badRing m f = false) := Lib.hid (fun f hf => by
          rcases Nat.lt_or_ge f k with q | q
          · exact HBD.out f q
          · obtain rfl : f = k := by omega
            rw [HBR.out, decide_eq_false hd]; rfl)
        go_wp2_with fail
        go_roundw
        case rel => exact ⟨k + 1, by omega, by go_num, HNX, by first | rfl | trivial⟩
        case measure => simp [intOf]; omega
    have hki : ¬ (k : Int) < (n : Int) := by omega
    have HRB : Hid (true = ringsB m) := Lib.hid (by
      unfold ringsB
      rw [range_all.mpr (fun f hf => by rw [HBD.out f (by rw [HN.out] at hf; omega)]; rfl)])
    clear HBD
    go_upto_region 10 with (at_make; refine wpList_make_full _ rfl _ _ 26 rfl w6.heap.size 3 i1 (.int .i64 0) 1 Try.underlying26 hi1 hy0 hy1 .i64 .i64 _ _ n rfl rfl rfl rfl (by rw [hy2]; omega) (by unfold maxLen; omega) (Nat.le_refl _) ?_; intro w7 hown hgrow; have HO7 := Lib.hid hown; have HV := Lib.hid ((Below.refl w6.heap.size w6).grown hgrow (Nat.le_refl _) (fun k hk => by cases hk)); clear hown hgrow)
    have HB : Hid (NumsIn w7 w6.heap.size (List.replicate n 0)) := Lib.hid (by
      have h1 := own_whole1 HO7.out
      rw [made_one (v := .int .i64 0) rfl] at h1
      unfold NumsIn
      rw [List.map_replicate]
      exact h1)
    have HRI : Hid (RInv EL n (costOf m maps) 0 0 (List.replicate n 0)) := Lib.hid RInv.start
    generalize (List.replicate n (0 : Int)) = O0 at *
    clear HO7
    obtain ⟨gB, hgB⟩ : ∃ z, w6.heap.size = z := ⟨_, rfl⟩
    have HGB : Hid (w6.heap.size ≤ gB) := Lib.hid (by rw [hgB]; exact Nat.le_refl _)
    rw [hgB] at HB
    go_wp2_with fail
    try simp only [hgB]
    clear hgB q0 q1 q2 q3 q4 q5 q6
    go_loopw [11] (fun i wr => ∃ (r : Nat) (O : List Int), r ≤ n ∧ i = .int .i64 r ∧ Hid (RInv EL n (costOf m maps) r 0 O) ∧ Hid (NumsIn wr gB O) ∧ Hid (Below w6.heap.size w6 wr)) (fun i _ => n - (intOf i).toNat)
    case atStart => exact ⟨0, O0, Nat.zero_le _, rfl, HRI, HB, HV⟩
    case round =>
      clear HRI HB HV
      obtain ⟨r, O, hr, rfl, HRI, HB, HV⟩ := hrel
      by_cases hrn : r < n
      rotate_left
      · have hri : ¬ (r : Int) < (n : Int) := by omega
        have HDN : Hid (O = boundsOf m maps) := Lib.hid (by
          rw [HRI.out.done (by omega)]
          unfold boundsOf
          rw [HEQ.out, HN.out])
        have HX := Lib.hid (H61.out.trans (HV.out.mono H61.out.size))
        go_wp2_with fail
        refine bodyPost_ret (v := .tuple #[.slice (some ⟨gB, 0, none⟩) n n, .bool true]) (by simp [results, Try.results10, go_sem]) rfl ?_
        exact ⟨some ⟨gB, 0, none⟩, n, n, true, rfl, HW.out.trans (HX.out.mono (Nat.le_of_lt HZ.out)), HRB.out, fun _ => ⟨HN.out.symm, by rw [← HDN.out]; exact HB.out.slc HRI.out.len (by omega)⟩⟩
      go_wp2_with fail
      go_loopw [12] (fun i wr => ∃ (f : Nat) (O : List Int), f ≤ n ∧ i = .int .i64 f ∧ Hid (RInv EL n (costOf m maps) r f O) ∧ Hid (NumsIn wr gB O) ∧ Hid (Below w6.heap.size w6 wr)) (fun i _ => n - (intOf i).toNat)
      case atStart => exact ⟨0, O, Nat.zero_le _, rfl, HRI, HB, HV⟩
      case round =>
        clear HRI HB HV
        clear O
        obtain ⟨f, O, hf, rfl, HRI, HB, HV⟩ := hrel
        by_cases hfn : f < n
        rotate_left
        · have hfi : ¬ (f : Int) < (n : Int) := by omega
          have HRN := Lib.hid (HRI.out.next (by omega) (by omega))
          go_wp2_with fail
          go_roundw
          case rel => exact ⟨r + 1, O, by omega, by go_num, HRN, HB, HV⟩
          case measure => simp [intOf]; omega
        have HFN := Lib.hid hfn
        obtain ⟨gf, hgf⟩ : ∃ z, G[f]? = some z := ⟨_, List.getElem?_eq_getElem (by rw [HGL.out]; exact hfn)⟩
        have HGF := Lib.hid hgf
        clear hgf
        go_wp2_with fail
        go_loopw [13, 14, 15] (fun ov bv i wr => ∃ (g : Nat) (own bey : Int), g ≤ n ∧ i = .int .i64 g ∧ ov = .int .i64 own ∧ bv = .int .i64 bey ∧ Hid (ownTo EL n (costOf m maps) f g = own) ∧ Hid (beyTo EL n (oN O) f g = bey) ∧ Hid (NumsIn wr gB O) ∧ Hid (Below w6.heap.size w6 wr)) (fun _ _ i _ => n - (intOf i).toNat)
        case atStart => exact ⟨0, 0, 0, Nat.zero_le _, rfl, rfl, rfl, Lib.hid rfl, Lib.hid rfl, HB, HV⟩
        case round =>
          clear HB HV
          obtain ⟨g, own, bey, hg, rfl, rfl, rfl, HOE, HBY, HB, HV⟩ := hrel
          have HX := Lib.hid (H61.out.trans (HV.out.mono H61.out.size))
          have H5 := Lib.hid (H65.out.trans (HV.out.mono H65.out.size))
          have HQ := Lib.hid (HQ6.out.keep HV.out)
          obtain ⟨q0, q1, q2, q3, q4, q5, q6⟩ := HBX.out.keep HX.out HZ.out
          have ho0 : 0 ≤ own := by rw [← HOE.out]; exact ownTo_low (cost_low HM.out)
          have ho1 : own ≤ g * 32088 := by rw [← HOE.out]; exact ownTo_top (cost_top HM.out HMZ.out) (by omega)
          have hb0 : 0 ≤ bey := by rw [← HBY.out]; exact beyTo_low
          have hb1 : bey ≤ 4800000 * r + 400000 * f := by rw [← HBY.out]; exact beyTo_top HED.out (by omega) (fun t _ => HRI.out.top t)
          by_cases hgn : g < n
          rotate_left
          · have hgi : ¬ (g : Int) < (n : Int) := by omega
            obtain rfl : g = n := by omega
            have c0 := HB.out.at_ (t := f) (by rw [HRI.out.len]; exact hfn)
            have f0 := HB.out.free f
            have HST : Hid (RInv EL g (costOf m maps) r (f + 1) (O.set f (own + bey))) := Lib.hid (by
              have := HRI.out.step HED.out hn12 (cost_low HM.out) (cost_top HM.out HMZ.out) hfn
              rwa [HOE.out, HBY.out] at this)
            go_wp2_with fail
            go_roundw
            case rel => exact ⟨f + 1, O.set f (own + bey), by omega, by go_num, HST, Lib.hid (HB.out.set (own + bey)), Lib.hid (HV.out.setCell (p := ⟨gB, f, none⟩) HGB.out _)⟩
            case measure => simp [intOf]; omega
          have HGN := Lib.hid hgn
          have hgm : g < m.methods.length := by rw [HN.out]; exact hgn
          obtain ⟨ad, hx, eA, hab, hin, hc⟩ := img_mth HI.out hgm
          have c5 := (HX.out.cell (p := off_ (ad.add (g * 8)) 5) (by show (ad.add _).block < _; rw [addr_add_block]; exact hab)).trans hc.c5
          have hmn : mthN m (g : Int) = m.methods[g] := by unfold mthN; rw [Int.toNat_natCast, List.getElem?_eq_getElem hgm]; rfl
          have hxd := (HM.out.method (List.getElem_mem hgm)).fits.d0
          have hxd1 := (HM.out.method (List.getElem_mem hgm)).fits.d1
          generalize m.methods[g] = x at *
          clear q0 q1 q2 q3 q4 q5 q6
          obtain ⟨A0, Ab, A2, A3, A4, k0, k1, k2, k3, k4⟩ := h
          dsimp only at eA hle hcap
          subst eA
          obtain ⟨q0, q1, q2, q3, q4, q5, q6⟩ := HBX.out.keep HX.out HZ.out
          have HSM := Lib.hid (slcUp RowAt.keeps HM0.out HX.out)
          obtain ⟨FR, hFR⟩ : ∃ z, frameOf m maps (g : Int) = z := ⟨_, rfl⟩
          have HFR := Lib.hid hFR
          have hF0 : 0 ≤ FR := by rw [← hFR]; exact frame_low
          have hF1 : FR ≤ 4011 := by rw [← hFR]; exact frame_top HM.out HMZ.out
          have hgE : g < EL.length := by rw [HELN.out]; exact hgn
          obtain ⟨adE, rfl, habE, A1, cL, r0, hsr⟩ := HE5.out.row.at_ hgE
          obtain ⟨L, hL⟩ : ∃ z, EL[g] = z := ⟨_, rfl⟩
          rw [hL] at r0 hsr
          rw [Nat.mul_one] at r0
          have HLE : Hid (EL[g]?.getD [] = L) := Lib.hid (by rw [List.getElem?_eq_getElem hgE, hL]; rfl)
          have HRO := Lib.hid r0
          have HLR := Lib.hid hsr
          have hrl := hsr.le
          have hrc := hsr.cap
          obtain ⟨gg, hgg⟩ : ∃ z, G[g]? = some z := ⟨_, List.getElem?_eq_getElem (by rw [HGL.out]; exact hgn)⟩
          have e1 := HQ.out.row_get HGF.out
          have e3 := HQ.out.row_get hgg
          have e2 := HQ.out.bit_get HGF.out hgn
          have e4 := HQ.out.bit_get hgg hfn
          rw [HWB.out f g hfn hgn] at e2
          rw [HWB.out g f hgn hfn] at e4
          clear hFR hL r0 hsr hgE hc hin
          by_cases hgf : g = f
          · have hne : ((g : Int) != (f : Int)) = false := bne_eq_false_iff_eq.mpr (by omega)
            have HPT : Hid (partB EL n f g = true) := Lib.hid (part_iff.mpr (.inl hgf))
            clear hgf
            obtain ⟨b3, hb3⟩ : ∃ z, wayB EL n g g = z := ⟨_, rfl⟩
            have e5 := HQ.out.bit_get hgg HGN.out
            rw [HWB.out g g HGN.out HGN.out, hb3] at e5
            rw [← HEQ.out, ← HN.out] at hb3
            cases b3
            · have hT : timesOf m g = (1 : Int) := by unfold timesOf; rw [hmn]; rw [if_neg (by rw [hb3]; decide)]
              have HCG : Hid (costOf m maps g = (1 : Int) * FR) := Lib.hid (by unfold costOf; rw [hT, HFR.out])
              have hP0 : 0 ≤ (1 : Int) * FR := by rw [← HCG.out]; exact cost_low HM.out g
              have hP1 : (1 : Int) * FR ≤ 32088 := by rw [← HCG.out]; exact cost_top HM.out HMZ.out g
              have HOW : Hid (ownTo EL n (costOf m maps) f (g + 1) = own + (1 : Int) * FR) := Lib.hid (by
                show (if partB EL n f g = true then ownTo EL n (costOf m maps) f g + costOf m maps g else _) = _
                rw [if_pos HPT.out, HCG.out, HOE.out])
              clear hT
              go_upto_region 26 with (go_at_call 12; (with_reducible refine (rframe_is HI HX HM HSM HMZ HMN HFR).mono ?_); rintro e w9 ⟨rfl, hb⟩; have HV9 := Lib.hid (HV.out.trans (hb.mono HV.out.size)); have HB9 := Lib.hid (HB.out.keep hb); clear hb)
              have HV := HV9
              have HB := HB9
              clear HX H5 HQ q0 q1 q2 q3 q4 q5 q6
              have HX := Lib.hid (H61.out.trans (HV.out.mono H61.out.size))
              have H5 := Lib.hid (H65.out.trans (HV.out.mono H65.out.size))
              have HQ := Lib.hid (HQ6.out.keep HV.out)
              obtain ⟨q0, q1, q2, q3, q4, q5, q6⟩ := HBX.out.keep HX.out HZ.out
              have er := (H5.out.cell (p := adE.add g) (by rw [addr_add_block]; exact habE)).trans HRO.out
              go_loopw [14, 17] (fun bv i wr => ∃ k : Nat, k ≤ L.length ∧ i = .int .i64 k ∧ bv = .int .i64 (beyRow EL n (oN O) g bey (L.take k)) ∧ wr = w9) (fun _ i _ => L.length - (intOf i).toNat)
              case atStart => exact ⟨0, Nat.zero_le _, rfl, rfl, by first | rfl | trivial⟩
              case round =>
                obtain ⟨k, hk, rfl, rfl, hwr⟩ := hrel
                have hwr := hwr.symm
                subst hwr
                obtain ⟨bb, hbb⟩ : ∃ z, beyRow EL n (oN O) g bey (L.take k) = z := ⟨_, rfl⟩
                rw [hbb]
                by_cases hkl : k < L.length
                · obtain ⟨adL, rfl, habL, l0⟩ := HLR.out.row.at_ hkl
                  have l0 : w5.cell? (adL.add k) = some (.int .i64 L[k]) := by have := l0; rw [Nat.mul_one] at this; exact this
                  have l0 := (H5.out.cell (p := adL.add k) (by rw [addr_add_block]; exact habL)).trans l0
                  obtain ⟨t0, t1⟩ := HED.out g L[k] (by rw [HLE.out]; exact List.getElem_mem hkl)
                  have HTK : Hid (beyRow EL n (oN O) g bey (L.take (k + 1)) = beyOne EL n (oN O) g bb L[k]) := Lib.hid (by rw [beyRow_take hkl, hbb])
                  generalize L[k] = tt at *
                  obtain ⟨t, rfl⟩ := Int.eq_ofNat_of_zero_le t0
                  have htn : t < n := by omega
                  obtain ⟨gt, hgt⟩ : ∃ z, G[t]? = some z := ⟨_, List.getElem?_eq_getElem (by rw [HGL.out]; exact htn)⟩
                  have e1 := HQ.out.row_get hgt
                  have e2 := HQ.out.bit_get hgt HGN.out
                  have o1 := HB.out.at_ (t := t) (by rw [HRI.out.len]; exact htn)
                  have htop := HRI.out.top t
                  rw [HWB.out t g htn HGN.out] at e2
                  obtain ⟨b4, hb4⟩ : ∃ z, wayB EL n t g = z := ⟨_, rfl⟩
                  rw [hb4] at e2
                  have HB4 := Lib.hid hb4
                  clear hgt hb4
                  cases b4
                  · obtain ⟨ov, hov⟩ : ∃ z, oN O t = z := ⟨_, rfl⟩
                    have HOV := Lib.hid hov
                    rw [hov] at o1 htop
                    clear hov
                    by_cases hgr : bb < ov
                    · have hgi : ov > bb := hgr
                      have HY : Hid (beyRow EL n (oN O) g bey (L.take (k + 1)) = ov) := Lib.hid (by rw [HTK.out]; unfold beyOne; rw [Int.toNat_natCast, HOV.out, if_pos ⟨HB4.out, hgr⟩])
                      go_wp2_with fail
                      go_roundw
                      case rel => exact ⟨k + 1, by omega, by go_num, by rw [HY.out], by first | rfl | trivial⟩
                      case measure => simp [intOf]; omega
                    · have hgi : ¬ ov > bb := hgr
                      have HY : Hid (beyRow EL n (oN O) g bey (L.take (k + 1)) = bb) := Lib.hid (by rw [HTK.out]; unfold beyOne; rw [Int.toNat_natCast, HOV.out, if_neg (fun z => hgr z.2)])
                      go_wp2_with fail
                      go_roundw
                      case rel => exact ⟨k + 1, by omega, by go_num, by rw [HY.out], by first | rfl | trivial⟩
                      case measure => simp [intOf]; omega
                  · have HY : Hid (beyRow EL n (oN O) g bey (L.take (k + 1)) = bb) := Lib.hid (by rw [HTK.out]; unfold beyOne; rw [Int.toNat_natCast, if_neg (fun z => by rw [HB4.out] at z; cases z.1)])
                    go_wp2_with fail
                    go_roundw
                    case rel => exact ⟨k + 1, by omega, by go_num, by rw [HY.out], by first | rfl | trivial⟩
                    case measure => simp [intOf]; omega
                · have hki : ¬ (k : Int) < (L.length : Int) := by omega
                  have HBE : Hid (beyTo EL n (oN O) f (g + 1) = bb) := Lib.hid (by
                    show (if partB EL n f g = true then beyRow EL n (oN O) g (beyTo EL n (oN O) f g) (EL[g]?.getD []) else _) = _
                    rw [if_pos HPT.out, HBY.out, HLE.out, ← hbb, List.take_of_length_le (by omega)])
                  go_wp2_with fail
                  go_roundw
                  case rel => exact ⟨g + 1, own + (1 : Int) * FR, bb, by omega, by go_num, by go_num, rfl, HOW, HBE, HB, HV⟩
                  case measure => simp [intOf]; omega
            · have hT : timesOf m g = x.depth := by unfold timesOf; rw [hmn]; rw [if_pos hb3]
              have HCG : Hid (costOf m maps g = x.depth * FR) := Lib.hid (by unfold costOf; rw [hT, HFR.out])
              have hP0 : 0 ≤ x.depth * FR := by rw [← HCG.out]; exact cost_low HM.out g
              have hP1 : x.depth * FR ≤ 32088 := by rw [← HCG.out]; exact cost_top HM.out HMZ.out g
              have HOW : Hid (ownTo EL n (costOf m maps) f (g + 1) = own + x.depth * FR) := Lib.hid (by
                show (if partB EL n f g = true then ownTo EL n (costOf m maps) f g + costOf m maps g else _) = _
                rw [if_pos HPT.out, HCG.out, HOE.out])
              clear hT
              go_upto_region 26 with (go_at_call 12; (with_reducible refine (rframe_is HI HX HM HSM HMZ HMN HFR).mono ?_); rintro e w9 ⟨rfl, hb⟩; have HV9 := Lib.hid (HV.out.trans (hb.mono HV.out.size)); have HB9 := Lib.hid (HB.out.keep hb); clear hb)
              have HV := HV9
              have HB := HB9
              clear HX H5 HQ q0 q1 q2 q3 q4 q5 q6
              have HX := Lib.hid (H61.out.trans (HV.out.mono H61.out.size))
              have H5 := Lib.hid (H65.out.trans (HV.out.mono H65.out.size))
              have HQ := Lib.hid (HQ6.out.keep HV.out)
              obtain ⟨q0, q1, q2, q3, q4, q5, q6⟩ := HBX.out.keep HX.out HZ.out
              have er := (H5.out.cell (p := adE.add g) (by rw [addr_add_block]; exact habE)).trans HRO.out
              go_loopw [14, 17] (fun bv i wr => ∃ k : Nat, k ≤ L.length ∧ i = .int .i64 k ∧ bv = .int .i64 (beyRow EL n (oN O) g bey (L.take k)) ∧ wr = w9) (fun _ i _ => L.length - (intOf i).toNat)
              case atStart => exact ⟨0, Nat.zero_le _, rfl, rfl, by first | rfl | trivial⟩
              case round =>
                obtain ⟨k, hk, rfl, rfl, hwr⟩ := hrel
                have hwr := hwr.symm
                subst hwr
                obtain ⟨bb, hbb⟩ : ∃ z, beyRow EL n (oN O) g bey (L.take k) = z := ⟨_, rfl⟩
                rw [hbb]
                by_cases hkl : k < L.length
                · obtain ⟨adL, rfl, habL, l0⟩ := HLR.out.row.at_ hkl
                  have l0 : w5.cell? (adL.add k) = some (.int .i64 L[k]) := by have := l0; rw [Nat.mul_one] at this; exact this
                  have l0 := (H5.out.cell (p := adL.add k) (by rw [addr_add_block]; exact habL)).trans l0
                  obtain ⟨t0, t1⟩ := HED.out g L[k] (by rw [HLE.out]; exact List.getElem_mem hkl)
                  have HTK : Hid (beyRow EL n (oN O) g bey (L.take (k + 1)) = beyOne EL n (oN O) g bb L[k]) := Lib.hid (by rw [beyRow_take hkl, hbb])
                  generalize L[k] = tt at *
                  obtain ⟨t, rfl⟩ := Int.eq_ofNat_of_zero_le t0
                  have htn : t < n := by omega
                  obtain ⟨gt, hgt⟩ : ∃ z, G[t]? = some z := ⟨_, List.getElem?_eq_getElem (by rw [HGL.out]; exact htn)⟩
                  have e1 := HQ.out.row_get hgt
                  have e2 := HQ.out.bit_get hgt HGN.out
                  have o1 := HB.out.at_ (t := t) (by rw [HRI.out.len]; exact htn)
                  have htop := HRI.out.top t
                  rw [HWB.out t g htn HGN.out] at e2
                  obtain ⟨b4, hb4⟩ : ∃ z, wayB EL n t g = z := ⟨_, rfl⟩
                  rw [hb4] at e2
                  have HB4 := Lib.hid hb4
                  clear hgt hb4
                  cases b4
                  · obtain ⟨ov, hov⟩ : ∃ z, oN O t = z := ⟨_, rfl⟩
                    have HOV := Lib.hid hov
                    rw [hov] at o1 htop
                    clear hov
                    by_cases hgr : bb < ov
                    · have hgi : ov > bb := hgr
                      have HY : Hid (beyRow EL n (oN O) g bey (L.take (k + 1)) = ov) := Lib.hid (by rw [HTK.out]; unfold beyOne; rw [Int.toNat_natCast, HOV.out, if_pos ⟨HB4.out, hgr⟩])
                      go_wp2_with fail
                      go_roundw
                      case rel => exact ⟨k + 1, by omega, by go_num, by rw [HY.out], by first | rfl | trivial⟩
                      case measure => simp [intOf]; omega
                    · have hgi : ¬ ov > bb := hgr
                      have HY : Hid (beyRow EL n (oN O) g bey (L.take (k + 1)) = bb) := Lib.hid (by rw [HTK.out]; unfold beyOne; rw [Int.toNat_natCast, HOV.out, if_neg (fun z => hgr z.2)])
                      go_wp2_with fail
                      go_roundw
                      case rel => exact ⟨k + 1, by omega, by go_num, by rw [HY.out], by first | rfl | trivial⟩
                      case measure => simp [intOf]; omega
                  · have HY : Hid (beyRow EL n (oN O) g bey (L.take (k + 1)) = bb) := Lib.hid (by rw [HTK.out]; unfold beyOne; rw [Int.toNat_natCast, if_neg (fun z => by rw [HB4.out] at z; cases z.1)])
                    go_wp2_with fail
                    go_roundw
                    case rel => exact ⟨k + 1, by omega, by go_num, by rw [HY.out], by first | rfl | trivial⟩
                    case measure => simp [intOf]; omega
                · have hki : ¬ (k : Int) < (L.length : Int) := by omega
                  have HBE : Hid (beyTo EL n (oN O) f (g + 1) = bb) := Lib.hid (by
                    show (if partB EL n f g = true then beyRow EL n (oN O) g (beyTo EL n (oN O) f g) (EL[g]?.getD []) else _) = _
                    rw [if_pos HPT.out, HBY.out, HLE.out, ← hbb, List.take_of_length_le (by omega)])
                  go_wp2_with fail
                  go_roundw
                  case rel => exact ⟨g + 1, own + x.depth * FR, bb, by omega, by go_num, by go_num, rfl, HOW, HBE, HB, HV⟩
                  case measure => simp [intOf]; omega
          have hne : ((g : Int) != (f : Int)) = true := bne_iff_ne.mpr (by omega)
          obtain ⟨b1, hb1'⟩ : ∃ z, wayB EL n f g = z := ⟨_, rfl⟩
          obtain ⟨b2, hb2'⟩ : ∃ z, wayB EL n g f = z := ⟨_, rfl⟩
          rw [hb1'] at e2
          rw [hb2'] at e4
          have hpt : partB EL n f g = (b1 && b2) := by unfold partB; rw [decide_eq_false hgf, Bool.false_or, hb1', hb2']
          clear hb1' hb2' hgf
          cases b1
          · have HON : Hid (ownTo EL n (costOf m maps) f (g + 1) = own) := Lib.hid (by
              show (if partB EL n f g = true then _ else ownTo EL n (costOf m maps) f g) = _
              rw [if_neg (by rw [hpt]; simp), HOE.out])
            have HBN : Hid (beyTo EL n (oN O) f (g + 1) = bey) := Lib.hid (by
              show (if partB EL n f g = true then _ else beyTo EL n (oN O) f g) = _
              rw [if_neg (by rw [hpt]; simp), HBY.out])
            clear hpt
            go_wp2_with fail
            go_roundw
            case rel => exact ⟨g + 1, own, bey, by omega, by go_num, rfl, rfl, HON, HBN, HB, HV⟩
            case measure => simp [intOf]; omega
          cases b2
          · have HON : Hid (ownTo EL n (costOf m maps) f (g + 1) = own) := Lib.hid (by
              show (if partB EL n f g = true then _ else ownTo EL n (costOf m maps) f g) = _
              rw [if_neg (by rw [hpt]; simp), HOE.out])
            have HBN : Hid (beyTo EL n (oN O) f (g + 1) = bey) := Lib.hid (by
              show (if partB EL n f g = true then _ else beyTo EL n (oN O) f g) = _
              rw [if_neg (by rw [hpt]; simp), HBY.out])
            clear hpt
            go_wp2_with fail
            go_roundw
            case rel => exact ⟨g + 1, own, bey, by omega, by go_num, rfl, rfl, HON, HBN, HB, HV⟩
            case measure => simp [intOf]; omega
          have HPT : Hid (partB EL n f g = true) := Lib.hid hpt
          clear hpt
          obtain ⟨b3, hb3⟩ : ∃ z, wayB EL n g g = z := ⟨_, rfl⟩
          have e5 := HQ.out.bit_get hgg HGN.out
          rw [HWB.out g g HGN.out HGN.out, hb3] at e5
          rw [← HEQ.out, ← HN.out] at hb3
          cases b3
          · have hT : timesOf m g = (1 : Int) := by unfold timesOf; rw [hmn]; rw [if_neg (by rw [hb3]; decide)]
            have HCG : Hid (costOf m maps g = (1 : Int) * FR) := Lib.hid (by unfold costOf; rw [hT, HFR.out])
            have hP0 : 0 ≤ (1 : Int) * FR := by rw [← HCG.out]; exact cost_low HM.out g
            have hP1 : (1 : Int) * FR ≤ 32088 := by rw [← HCG.out]; exact cost_top HM.out HMZ.out g
            have HOW : Hid (ownTo EL n (costOf m maps) f (g + 1) = own + (1 : Int) * FR) := Lib.hid (by
              show (if partB EL n f g = true then ownTo EL n (costOf m maps) f g + costOf m maps g else _) = _
              rw [if_pos HPT.out, HCG.out, HOE.out])
            clear hT
            go_upto_region 26 with (go_at_call 12; (with_reducible refine (rframe_is HI HX HM HSM HMZ HMN HFR).mono ?_); rintro e w9 ⟨rfl, hb⟩; have HV9 := Lib.hid (HV.out.trans (hb.mono HV.out.size)); have HB9 := Lib.hid (HB.out.keep hb); clear hb)
            have HV := HV9
            have HB := HB9
            clear HX H5 HQ q0 q1 q2 q3 q4 q5 q6
            have HX := Lib.hid (H61.out.trans (HV.out.mono H61.out.size))
            have H5 := Lib.hid (H65.out.trans (HV.out.mono H65.out.size))
            have HQ := Lib.hid (HQ6.out.keep HV.out)
            obtain ⟨q0, q1, q2, q3, q4, q5, q6⟩ := HBX.out.keep HX.out HZ.out
            have er := (H5.out.cell (p := adE.add g) (by rw [addr_add_block]; exact habE)).trans HRO.out
            go_loopw [14, 17] (fun bv i wr => ∃ k : Nat, k ≤ L.length ∧ i = .int .i64 k ∧ bv = .int .i64 (beyRow EL n (oN O) g bey (L.take k)) ∧ wr = w9) (fun _ i _ => L.length - (intOf i).toNat)
            case atStart => exact ⟨0, Nat.zero_le _, rfl, rfl, by first | rfl | trivial⟩
            case round =>
              obtain ⟨k, hk, rfl, rfl, hwr⟩ := hrel
              have hwr := hwr.symm
              subst hwr
              obtain ⟨bb, hbb⟩ : ∃ z, beyRow EL n (oN O) g bey (L.take k) = z := ⟨_, rfl⟩
              rw [hbb]
              by_cases hkl : k < L.length
              · obtain ⟨adL, rfl, habL, l0⟩ := HLR.out.row.at_ hkl
                have l0 : w5.cell? (adL.add k) = some (.int .i64 L[k]) := by have := l0; rw [Nat.mul_one] at this; exact this
                have l0 := (H5.out.cell (p := adL.add k) (by rw [addr_add_block]; exact habL)).trans l0
                obtain ⟨t0, t1⟩ := HED.out g L[k] (by rw [HLE.out]; exact List.getElem_mem hkl)
                have HTK : Hid (beyRow EL n (oN O) g bey (L.take (k + 1)) = beyOne EL n (oN O) g bb L[k]) := Lib.hid (by rw [beyRow_take hkl, hbb])
                generalize L[k] = tt at *
                obtain ⟨t, rfl⟩ := Int.eq_ofNat_of_zero_le t0
                have htn : t < n := by omega
                obtain ⟨gt, hgt⟩ : ∃ z, G[t]? = some z := ⟨_, List.getElem?_eq_getElem (by rw [HGL.out]; exact htn)⟩
                have e1 := HQ.out.row_get hgt
                have e2 := HQ.out.bit_get hgt HGN.out
                have o1 := HB.out.at_ (t := t) (by rw [HRI.out.len]; exact htn)
                have htop := HRI.out.top t
                rw [HWB.out t g htn HGN.out] at e2
                obtain ⟨b4, hb4⟩ : ∃ z, wayB EL n t g = z := ⟨_, rfl⟩
                rw [hb4] at e2
                have HB4 := Lib.hid hb4
                clear hgt hb4
                cases b4
                · obtain ⟨ov, hov⟩ : ∃ z, oN O t = z := ⟨_, rfl⟩
                  have HOV := Lib.hid hov
                  rw [hov] at o1 htop
                  clear hov
                  by_cases hgr : bb < ov
                  · have hgi : ov > bb := hgr
                    have HY : Hid (beyRow EL n (oN O) g bey (L.take (k + 1)) = ov) := Lib.hid (by rw [HTK.out]; unfold beyOne; rw [Int.toNat_natCast, HOV.out, if_pos ⟨HB4.out, hgr⟩])
                    go_wp2_with fail
                    go_roundw
                    case rel => exact ⟨k + 1, by omega, by go_num, by rw [HY.out], by first | rfl | trivial⟩
                    case measure => simp [intOf]; omega
                  · have hgi : ¬ ov > bb := hgr
                    have HY : Hid (beyRow EL n (oN O) g bey (L.take (k + 1)) = bb) := Lib.hid (by rw [HTK.out]; unfold beyOne; rw [Int.toNat_natCast, HOV.out, if_neg (fun z => hgr z.2)])
                    go_wp2_with fail
                    go_roundw
                    case rel => exact ⟨k + 1, by omega, by go_num, by rw [HY.out], by first | rfl | trivial⟩
                    case measure => simp [intOf]; omega
                · have HY : Hid (beyRow EL n (oN O) g bey (L.take (k + 1)) = bb) := Lib.hid (by rw [HTK.out]; unfold beyOne; rw [Int.toNat_natCast, if_neg (fun z => by rw [HB4.out] at z; cases z.1)])
                  go_wp2_with fail
                  go_roundw
                  case rel => exact ⟨k + 1, by omega, by go_num, by rw [HY.out], by first | rfl | trivial⟩
                  case measure => simp [intOf]; omega
              · have hki : ¬ (k : Int) < (L.length : Int) := by omega
                have HBE : Hid (beyTo EL n (oN O) f (g + 1) = bb) := Lib.hid (by
                  show (if partB EL n f g = true then beyRow EL n (oN O) g (beyTo EL n (oN O) f g) (EL[g]?.getD []) else _) = _
                  rw [if_pos HPT.out, HBY.out, HLE.out, ← hbb, List.take_of_length_le (by omega)])
                go_wp2_with fail
                go_roundw
                case rel => exact ⟨g + 1, own + (1 : Int) * FR, bb, by omega, by go_num, by go_num, rfl, HOW, HBE, HB, HV⟩
                case measure => simp [intOf]; omega
          · have hT : timesOf m g = x.depth := by unfold timesOf; rw [hmn]; rw [if_pos hb3]
            have HCG : Hid (costOf m maps g = x.depth * FR) := Lib.hid (by unfold costOf; rw [hT, HFR.out])
            have hP0 : 0 ≤ x.depth * FR := by rw [← HCG.out]; exact cost_low HM.out g
            have hP1 : x.depth * FR ≤ 32088 := by rw [← HCG.out]; exact cost_top HM.out HMZ.out g
            have HOW : Hid (ownTo EL n (costOf m maps) f (g + 1) = own + x.depth * FR) := Lib.hid (by
              show (if partB EL n f g = true then ownTo EL n (costOf m maps) f g + costOf m maps g else _) = _
              rw [if_pos HPT.out, HCG.out, HOE.out])
            clear hT
            go_upto_region 26 with (go_at_call 12; (with_reducible refine (rframe_is HI HX HM HSM HMZ HMN HFR).mono ?_); rintro e w9 ⟨rfl, hb⟩; have HV9 := Lib.hid (HV.out.trans (hb.mono HV.out.size)); have HB9 := Lib.hid (HB.out.keep hb); clear hb)
            have HV := HV9
            have HB := HB9
            clear HX H5 HQ q0 q1 q2 q3 q4 q5 q6
            have HX := Lib.hid (H61.out.trans (HV.out.mono H61.out.size))
            have H5 := Lib.hid (H65.out.trans (HV.out.mono H65.out.size))
            have HQ := Lib.hid (HQ6.out.keep HV.out)
            obtain ⟨q0, q1, q2, q3, q4, q5, q6⟩ := HBX.out.keep HX.out HZ.out
            have er := (H5.out.cell (p := adE.add g) (by rw [addr_add_block]; exact habE)).trans HRO.out
            go_loopw [14, 17] (fun bv i wr => ∃ k : Nat, k ≤ L.length ∧ i = .int .i64 k ∧ bv = .int .i64 (beyRow EL n (oN O) g bey (L.take k)) ∧ wr = w9) (fun _ i _ => L.length - (intOf i).toNat)
            case atStart => exact ⟨0, Nat.zero_le _, rfl, rfl, by first | rfl | trivial⟩
            case round =>
              obtain ⟨k, hk, rfl, rfl, hwr⟩ := hrel
              have hwr := hwr.symm
              subst hwr
              obtain ⟨bb, hbb⟩ : ∃ z, beyRow EL n (oN O) g bey (L.take k) = z := ⟨_, rfl⟩
              rw [hbb]
              by_cases hkl : k < L.length
              · obtain ⟨adL, rfl, habL, l0⟩ := HLR.out.row.at_ hkl
                have l0 : w5.cell? (adL.add k) = some (.int .i64 L[k]) := by have := l0; rw [Nat.mul_one] at this; exact this
                have l0 := (H5.out.cell (p := adL.add k) (by rw [addr_add_block]; exact habL)).trans l0
                obtain ⟨t0, t1⟩ := HED.out g L[k] (by rw [HLE.out]; exact List.getElem_mem hkl)
                have HTK : Hid (beyRow EL n (oN O) g bey (L.take (k + 1)) = beyOne EL n (oN O) g bb L[k]) := Lib.hid (by rw [beyRow_take hkl, hbb])
                generalize L[k] = tt at *
                obtain ⟨t, rfl⟩ := Int.eq_ofNat_of_zero_le t0
                have htn : t < n := by omega
                obtain ⟨gt, hgt⟩ : ∃ z, G[t]? = some z := ⟨_, List.getElem?_eq_getElem (by rw [HGL.out]; exact htn)⟩
                have e1 := HQ.out.row_get hgt
                have e2 := HQ.out.bit_get hgt HGN.out
                have o1 := HB.out.at_ (t := t) (by rw [HRI.out.len]; exact htn)
                have htop := HRI.out.top t
                rw [HWB.out t g htn HGN.out] at e2
                obtain ⟨b4, hb4⟩ : ∃ z, wayB EL n t g = z := ⟨_, rfl⟩
                rw [hb4] at e2
                have HB4 := Lib.hid hb4
                clear hgt hb4
                cases b4
                · obtain ⟨ov, hov⟩ : ∃ z, oN O t = z := ⟨_, rfl⟩
                  have HOV := Lib.hid hov
                  rw [hov] at o1 htop
                  clear hov
                  by_cases hgr : bb < ov
                  · have hgi : ov > bb := hgr
                    have HY : Hid (beyRow EL n (oN O) g bey (L.take (k + 1)) = ov) := Lib.hid (by rw [HTK.out]; unfold beyOne; rw [Int.toNat_natCast, HOV.out, if_pos ⟨HB4.out, hgr⟩])
                    go_wp2_with fail
                    go_roundw
                    case rel => exact ⟨k + 1, by omega, by go_num, by rw [HY.out], by first | rfl | trivial⟩
                    case measure => simp [intOf]; omega
                  · have hgi : ¬ ov > bb := hgr
                    have HY : Hid (beyRow EL n (oN O) g bey (L.take (k + 1)) = bb) := Lib.hid (by rw [HTK.out]; unfold beyOne; rw [Int.toNat_natCast, HOV.out, if_neg (fun z => hgr z.2)])
                    go_wp2_with fail
                    go_roundw
                    case rel => exact ⟨k + 1, by omega, by go_num, by rw [HY.out], by first | rfl | trivial⟩
                    case measure => simp [intOf]; omega
                · have HY : Hid (beyRow EL n (oN O) g bey (L.take (k + 1)) = bb) := Lib.hid (by rw [HTK.out]; unfold beyOne; rw [Int.toNat_natCast, if_neg (fun z => by rw [HB4.out] at z; cases z.1)])
                  go_wp2_with fail
                  go_roundw
                  case rel => exact ⟨k + 1, by omega, by go_num, by rw [HY.out], by first | rfl | trivial⟩
                  case measure => simp [intOf]; omega
              · have hki : ¬ (k : Int) < (L.length : Int) := by omega
                have HBE : Hid (beyTo EL n (oN O) f (g + 1) = bb) := Lib.hid (by
                  show (if partB EL n f g = true then beyRow EL n (oN O) g (beyTo EL n (oN O) f g) (EL[g]?.getD []) else _) = _
                  rw [if_pos HPT.out, HBY.out, HLE.out, ← hbb, List.take_of_length_le (by omega)])
                go_wp2_with fail
                go_roundw
                case rel => exact ⟨g + 1, own + x.depth * FR, bb, by omega, by go_num, by go_num, rfl, HOW, HBE, HB, HV⟩
                case measure => simp [intOf]; omega
end Go.Proofs.Ytefgepppcmhphaa
