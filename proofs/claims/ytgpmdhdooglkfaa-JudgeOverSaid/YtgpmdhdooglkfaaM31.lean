/-
  What the document's own answer for whether types are right (Right) comes to.
-/
import Derived.Test.YtgpmdhdooglkfaaM30
import Derived.IntWalk
import Derived.RegionTactic
import Derived.ChangeAlike
import Derived.Deep.RegionHeld3
import Derived.Deep.QuietTactic
import Derived.BigQuiet
namespace Go.Proofs.Ytgpmdhdooglkfaa
set_option maxRecDepth 100000
set_option linter.unusedVariables false
set_option linter.unusedSimpArgs false
open Go.ChangeShapes Go.WideShapes Go.ChangeAt Go.RowKit
set_option linter.unusedVariables false
set_option linter.unusedSimpArgs false

theorem rstep_mk {m : Img} {h : Hnd} {f pc : Int} {st L : List (Int × Int)} {NL : List Int} {er : Int} {A : Option Addr} {cap n : Nat} {w0 w : World} (HI : Hid (ImgIn w0 w0.heap.size h m)) (HX : Hid (Below w0.heap.size w0 w)) (HM : Hid (SaneI m)) (HN : Hid (st.length = n)) (HS : Hid (SlcIs TyAt 2 w w.heap.size A cap st)) (hs : n ≤ 4000) (HR : Hid (stepOf m f pc st = ⟨L, NL, er⟩)) :
    Calls Try.prog 24 #[imgV h m, .int .i64 f, .int .i64 pc, .slice A n cap] w fun e w' => ∃ A c A' c', e = .returned (.tuple #[.slice A L.length c, .slice A' NL.length c', .int .i64 er]) ∧ SlcIs TyAt 2 w' w'.heap.size A c L ∧ SlcIs IntAt 1 w' w'.heap.size A' c' NL ∧ Below w.heap.size w w' := by
  obtain rfl := HN.out
  have H := rstep_any m f pc st A cap h w (HI.out.now HX.out) HM.out HS.out hs
  rw [HR.out] at H
  exact H
theorem rowUp {α : Type} {At : AtP α} (hK : Keeps At) {k : Nat} {w w' : World} {A : Option Addr} {c : Nat} {l : List α} (h : SlcIs At k w w.heap.size A c l) (hb : Below w.heap.size w w') : SlcIs At k w' w'.heap.size A c l := slcUp hK h hb
theorem slcDr {α : Type} {At : AtP α} (hK : Keeps At) {k : Nat} {w : World} {A : Option Addr} {c : Nat} {l : List α} (h : SlcIs At k w w.heap.size A c l) : SlcIs At k w.drew w.drew.heap.size A c l := h.keep' hK (Nat.le_refl _) (fun _ _ => rfl)
theorem img_mcode {w : World} {B : Nat} {h : Hnd} {m : Img} (H : ImgIn w B h m) {G : Nat} (hG : G < m.methods.length) : ∃ ad A4 j4, h.A3 = some ad ∧ ad.block < B ∧ w.cell? (off_ (ad.add (G * 8)) 4) = some (.slice A4 m.methods[G].code.length j4) := by
  obtain ⟨ad, hn, e0, hb, hmi, hmc⟩ := img_mth H hG
  exact ⟨ad, hn.A4, hn.k4, e0, hb, hmc.c4⟩
theorem stepIn_of {m : Img} {x : Mth} {F P : Nat} {op a b : Int} {st : List (Int × Int)} (hx : m.methods[F]? = some x) (hi : x.code[P]? = some (op, a, b)) : stepOf m F P st = stepIn m x P op a b st := by
  have hF := (List.getElem?_eq_some_iff.mp hx).1
  have hP := (List.getElem?_eq_some_iff.mp hi).1
  unfold stepOf mthN
  rw [Int.toNat_natCast, hx, Option.getD_some, if_pos ⟨by omega, by omega, by omega, by omega⟩, Int.toNat_natCast, hi]
theorem place_err {m : Img} {f pc : Int} {S : List Shp} (hs : (shpN S pc).seen = true) (he : ¬ (stepOf m f pc (shpN S pc).stack).err = 0) : placeB m f S pc = false := by
  unfold placeB goB
  rw [hs, decide_eq_false he]
  rfl
theorem place_on {m : Img} {f pc : Int} {S : List Shp} {j : Nat} (hs : (shpN S pc).seen = true) (hj : j < (stepOf m f pc (shpN S pc).stack).next.length) (h : onB m S (stepOf m f pc (shpN S pc).stack).after (stepOf m f pc (shpN S pc).stack).next[j] = false) : placeB m f S pc = false := by
  unfold placeB goB
  rw [hs, all_not (f := onB m S (stepOf m f pc (shpN S pc).stack).after) hj h]
  simp
theorem place_yes {m : Img} {f pc : Int} {S : List Shp} (he : (stepOf m f pc (shpN S pc).stack).err = 0) (h : ∀ x ∈ (stepOf m f pc (shpN S pc).stack).next, onB m S (stepOf m f pc (shpN S pc).stack).after x = true) : placeB m f S pc = true := by
  unfold placeB goB
  rw [decide_eq_true he, List.all_eq_true.mpr h]
  simp
theorem place_un {m : Img} {f pc : Int} {S : List Shp} (hs : (shpN S pc).seen = false) : placeB m f S pc = true := by unfold placeB; rw [hs]; rfl

set_option maxHeartbeats 12800000 in
theorem rright_any (m : Img) (maps : List (List Shp)) (A : Option Addr) (c : Nat) (h : Hnd) (w : World) (H : ImgIn w w.heap.size h m) (hm : SaneI m) (hM : SlcIs (SlcAt ShpAt 2) 1 w w.heap.size A c maps) (hst : ∀ S ∈ maps, ∀ s ∈ S, s.stack.length ≤ 4000) :
    Calls Try.prog 13 #[imgV h m, .slice A maps.length c] w fun e w' => e = .returned (.bool (rightB m maps)) ∧ Below w.heap.size w w' := by
  have HW := Lib.hid (below_box (w := w) (h := h) (m := m))
  have HBX := Lib.hid (img_box w h m)
  have HZ : Hid (w.heap.size < (w.alloc (imgO h m)).heap.size) := Lib.hid (by simp)
  have HI := Lib.hid (H.now HW.out)
  have HM := Lib.hid hm
  have HST := Lib.hid hst
  have hle := H.methods.le
  have hcap := H.methods.cap
  have hl1 := hM.le
  have hl2 := hM.cap
  have hcl : m.classes.length ≤ 1000 := by have := hm.fits.cl; omega
  have HM0 := Lib.hid (slcUp RowAt.keeps hM HW.out)
  obtain ⟨b, hb⟩ : ∃ b, rightB m maps = b := ⟨_, rfl⟩
  rw [hb]
  have HE := Lib.hid hb.symm
  clear H hM hb hm hst
  by_cases hlen : maps.length = m.methods.length
  rotate_left
  · have hnl : ((maps.length : Int) != (m.methods.length : Int)) = true := bne_iff_ne.mpr (by omega)
    have HF : Hid (b = false) := Lib.hid (by rw [HE.out]; unfold rightB; rw [decide_eq_false hlen, Bool.false_and])
    clear hlen
    go_enter Try.func13, Try.ntmps13
    go_upto_region 1 with fail
    generalize w.alloc (imgO h m) = w1 at *
    obtain ⟨q0, q1, q2, q3, q4, q5, q6⟩ := HBX.out
    go_wp2_with fail
    go_ret
    exact ⟨by rw [HF.out]; first | rfl | simp, HW.out⟩
  have HLN := Lib.hid hlen
  have HE2 : Hid (b = (List.range maps.length).all (fun f => rightS m (f : Int) (maps[f]?.getD []))) := Lib.hid (by rw [HE.out]; unfold rightB; rw [decide_eq_true hlen, Bool.true_and])
  have HNF : Hid (∀ (k : Nat) (hk : k < maps.length), rightS m (k : Int) maps[k] = false → b = false) := Lib.hid (fun k hk g => by rw [HE2.out]; exact range_not hk (by rw [List.getElem?_eq_getElem hk]; exact g))
  have hnl : ((maps.length : Int) != (m.methods.length : Int)) = false := bne_eq_false_iff_eq.mpr (by omega)
  clear hlen
  go_enter Try.func13, Try.ntmps13
  go_upto_region 1 with fail
  generalize w.alloc (imgO h m) = w1 at *
  obtain ⟨q0, q1, q2, q3, q4, q5, q6⟩ := HBX.out
  go_wp2_with fail
  clear q0 q1 q2 q3 q4 q5 q6 hnl
  go_loopw [5] (fun i wr => ∃ k : Nat, k ≤ maps.length ∧ i = .int .i64 k ∧ Hid (∀ f, f < k → ∀ hf : f < maps.length, rightS m (f : Int) maps[f] = true) ∧ Hid (Below w1.heap.size w1 wr)) (fun i _ => maps.length - (intOf i).toNat)
  case atStart => exact ⟨0, Nat.zero_le _, rfl, Lib.hid (fun f hf => by omega), Lib.hid (Below.refl _ _)⟩
  case round =>
    obtain ⟨k, hk, rfl, HA, HX⟩ := hrel
    by_cases hlt : k < maps.length
    · obtain ⟨adM, rfl, habM, A1, c1, r0, hsr⟩ := HM0.out.row.at_ hlt
      have hltm : k < m.methods.length := by have := HLN.out; omega
      obtain ⟨ad, A4c, j4, ea, hab, hc4⟩ := img_mcode HI.out hltm
      obtain ⟨A0, Ab, A2, A3, A4, k0, k1, k2, k3, k4⟩ := h
      dsimp only at ea
      subst ea
      have hcN : mthN m (k : Int) = m.methods[k] := by unfold mthN; rw [Int.toNat_natCast, List.getElem?_eq_getElem hltm]; rfl
      have hgx : m.methods[k]? = some m.methods[k] := List.getElem?_eq_getElem hltm
      have HMS := Lib.hid (List.getElem_mem hlt)
      have HFL : Hid (rightS m (k : Int) maps[k] = false → b = false) := Lib.hid (HNF.out k hlt)
      have HTR : Hid (rightS m (k : Int) maps[k] = true → ∀ f, f < k + 1 → ∀ hf : f < maps.length, rightS m (f : Int) maps[f] = true) := Lib.hid (fun g f hf hf2 => by
        rcases Nat.lt_or_ge f k with q | q
        · exact HA.out f q hf2
        · obtain rfl : f = k := by omega
          exact g)
      have HSTK := Lib.hid (HST.out _ HMS.out)
      generalize m.methods[k] = x at *
      generalize maps[k] = S at *
      have HGX := Lib.hid hgx
      have HCN := Lib.hid hcN
      have HSR := Lib.hid hsr
      have hS1 := hsr.le
      have hS2 := hsr.cap
      have HK : Hid (∀ W, Below w1.heap.size w1 W → W.cell? ⟨w.heap.size, 0, none⟩ = some (.slice A0 m.classes.length k0) ∧ W.cell? ⟨w.heap.size, 1, none⟩ = some (.slice Ab m.statics.length k1) ∧ W.cell? ⟨w.heap.size, 2, none⟩ = some (.slice A2 m.ints.length k2) ∧ W.cell? ⟨w.heap.size, 3, none⟩ = some (.slice (some ad) m.methods.length k3) ∧ W.cell? ⟨w.heap.size, 4, none⟩ = some (.slice A4 m.entries.length k4) ∧ W.cell? ⟨w.heap.size, 5, none⟩ = some (.int .i64 m.stack) ∧ W.cell? ⟨w.heap.size, 6, none⟩ = some (.int .i64 m.heap) ∧ W.cell? (off_ (ad.add (k * 8)) 4) = some (.slice A4c x.code.length j4) ∧ W.cell? (adM.add (k * 1)) = some (.slice A1 S.length c1)) := Lib.hid (fun W hW => by
        obtain ⟨d0, d1, d2, d3, d4, d5, d6⟩ := HBX.out.keep hW HZ.out
        exact ⟨d0, d1, d2, d3, d4, d5, d6, (hW.cell (p := off_ (ad.add (k * 8)) 4) (by show (ad.add _).block < _; rw [addr_add_block]; exact hab)).trans hc4, (hW.cell (p := adM.add (k * 1)) (by rw [addr_add_block]; exact habM)).trans r0⟩)
      clear hc4 r0 hgx hcN hsr
      obtain ⟨q0, q1, q2, q3, q4, q5, q6, cc4, r0⟩ := HK.out _ HX.out
      rw [Nat.mul_one] at r0
      by_cases hz0 : S.length = 0
      · have he0 : ((S.length : Int) == 0) = true := beq_iff_eq.mpr (by omega)
        have HF : Hid (b = false) := Lib.hid (HFL.out (by unfold rightS firstB; rw [decide_eq_false (show ¬ 0 < S.length by omega)]; rfl))
        clear hz0
        go_wp2_with fail
        go_ret
        exact ⟨by rw [HF.out]; first | rfl | simp, HW.out.trans (HX.out.mono (Nat.le_of_lt HZ.out))⟩
      have hp0 : 0 < S.length := by omega
      have he0 : ((S.length : Int) == 0) = false := beq_eq_false_iff_ne.mpr (by omega)
      by_cases hcl0 : S.length = x.code.length
      rotate_left
      · have hnc : ((S.length : Int) != (x.code.length : Int)) = true := bne_iff_ne.mpr (by omega)
        have HF : Hid (b = false) := Lib.hid (HFL.out (by unfold rightS firstB; rw [HCN.out, decide_eq_false hcl0]; simp))
        go_wp2_with fail
        go_ret
        exact ⟨by rw [HF.out]; first | rfl | simp, HW.out.trans (HX.out.mono (Nat.le_of_lt HZ.out))⟩
      have hnc : ((S.length : Int) != (x.code.length : Int)) = false := bne_eq_false_iff_eq.mpr (by omega)
      have HCL := Lib.hid hcl0
      obtain ⟨adS, rfl, habS, s0, Az0, cz0, s1, hs1⟩ := HSR.out.row.at_ hp0
      have e00 : adS.add (0 * 2) = adS := by unfold Addr.add; rw [if_pos (by omega)]
      rw [e00] at s0 s1
      have hN0 : shpN S 0 = S[0] := shpN_at (i := 0) hp0
      have s0 := (HX.out.cell (p := adS) habS).trans s0
      have s1 := (HX.out.cell (p := off_ adS 1) habS).trans s1
      clear hs1 e00 hcl0
      obtain ⟨z0, hz0'⟩ : ∃ z, S[0] = z := ⟨_, rfl⟩
      rw [hz0'] at s0 s1 hN0
      clear hz0'
      have HN0 := Lib.hid hN0
      clear hN0
      by_cases hse : z0.seen = true
      rotate_left
      · have hse' : z0.seen = false := by simpa using hse
        have HF : Hid (b = false) := Lib.hid (HFL.out (by unfold rightS firstB; rw [HN0.out, hse']; simp))
        go_wp2_with fail
        go_ret
        exact ⟨by rw [HF.out]; first | rfl | simp, HW.out.trans (HX.out.mono (Nat.le_of_lt HZ.out))⟩
      by_cases hsl : z0.stack.length = 0
      rotate_left
      · have hnz : ((z0.stack.length : Int) != 0) = true := bne_iff_ne.mpr (by omega)
        have HF : Hid (b = false) := Lib.hid (HFL.out (by unfold rightS firstB; rw [HN0.out, decide_eq_false hsl]; simp))
        go_wp2_with fail
        go_ret
        exact ⟨by rw [HF.out]; first | rfl | simp, HW.out.trans (HX.out.mono (Nat.le_of_lt HZ.out))⟩
      have hnz : ((z0.stack.length : Int) != 0) = false := bne_eq_false_iff_eq.mpr (by omega)
      have HHD : Hid (firstB m (k : Int) S = true) := Lib.hid (by unfold firstB; rw [HN0.out, HCN.out, hse, decide_eq_true hp0, decide_eq_true HCL.out, decide_eq_true hsl]; rfl)
      have HFP : Hid (∀ pc, pc < S.length → placeB m (k : Int) S (pc : Int) = false → b = false) := Lib.hid (fun pc hpc g => HFL.out (by unfold rightS; rw [range_not hpc g]; simp))
      have HTP : Hid ((∀ pc, pc < S.length → placeB m (k : Int) S (pc : Int) = true) → rightS m (k : Int) S = true) := Lib.hid (fun g => by unfold rightS; rw [HHD.out, range_all.mpr g]; rfl)
      go_wp2_with fail
      have HXk := HX
      clear q0 q1 q2 q3 q4 q5 q6 cc4 r0 s0 s1 hse hsl hnz HX
      go_loopw [7] (fun i wr => ∃ pc : Nat, pc ≤ S.length ∧ i = .int .i64 pc ∧ Hid (∀ p, p < pc → placeB m (k : Int) S (p : Int) = true) ∧ Hid (Below w1.heap.size w1 wr)) (fun i _ => S.length - (intOf i).toNat)
      case atStart => exact ⟨0, Nat.zero_le _, rfl, Lib.hid (fun p hp => by omega), HXk⟩
      case round =>
        obtain ⟨pc, hpc, rfl, HP, HX⟩ := hrel
        by_cases hpl : pc < S.length
        · obtain ⟨adS', eS, habP, u0, Ast, cst, u1, hu⟩ := HSR.out.row.at_ hpl
          obtain rfl : adS = adS' := by injection eS
          clear eS
          have hNp : shpN S (pc : Int) = S[pc] := shpN_at hpl
          have hst1 : S[pc].stack.length ≤ 4000 := HSTK.out _ (List.getElem_mem hpl)
          generalize S[pc] = s at *
          have HNP := Lib.hid hNp
          have HU := Lib.hid hu
          have HPX : Hid (placeB m (k : Int) S (pc : Int) = true → ∀ p, p < pc + 1 → placeB m (k : Int) S (p : Int) = true) := Lib.hid (fun g p hp => by
            rcases Nat.lt_or_ge p pc with q | q
            · exact HP.out p q
            · obtain rfl : p = pc := by omega
              exact g)
          have HPF : Hid (placeB m (k : Int) S (pc : Int) = false → b = false) := Lib.hid (HFP.out pc hpl)
          have HKP : Hid (∀ W, Below w1.heap.size w1 W → W.cell? (adS.add (pc * 2)) = some (.bool s.seen) ∧ W.cell? (off_ (adS.add (pc * 2)) 1) = some (.slice Ast s.stack.length cst)) := Lib.hid (fun W hW =>
            ⟨(hW.cell (p := adS.add (pc * 2)) (by rw [addr_add_block]; exact habS)).trans u0, (hW.cell (p := off_ (adS.add (pc * 2)) 1) (by show (adS.add _).block < _; rw [addr_add_block]; exact habS)).trans u1⟩)
          clear u0 u1 hu hNp
          obtain ⟨u0, u1⟩ := HKP.out _ HX.out
          by_cases hse : s.seen = true
          rotate_left
          · have hse' : s.seen = false := by simpa using hse
            have HY := Lib.hid (HPX.out (place_un (by rw [HNP.out]; exact hse')))
            go_wp2_with fail
            go_roundw
            case rel => exact ⟨pc + 1, by omega, by go_num, HY, HX⟩
            case measure => simp [intOf]; omega
          have HSE := Lib.hid hse
          obtain ⟨⟨L, NL, er⟩, hrs⟩ : ∃ r, stepOf m (k : Int) (pc : Int) s.stack = r := ⟨_, rfl⟩
          have HRS := Lib.hid hrs
          have HXD : Hid (Below w1.heap.size w1 wr.drew) := Lib.hid HX.out.drew
          have HSD := Lib.hid (slcDr TyAt.keeps (slcUp TyAt.keeps HU.out HX.out))
          have HKA : Hid (∀ W, Below w1.heap.size w1 W → (fun w' => w'.cell? ⟨w.heap.size, 0, none⟩ = some (.slice A0 m.classes.length k0) ∧ w'.cell? ⟨w.heap.size, 1, none⟩ = some (.slice Ab m.statics.length k1) ∧ w'.cell? ⟨w.heap.size, 2, none⟩ = some (.slice A2 m.ints.length k2) ∧ w'.cell? ⟨w.heap.size, 3, none⟩ = some (.slice (some ad) m.methods.length k3) ∧ w'.cell? ⟨w.heap.size, 4, none⟩ = some (.slice A4 m.entries.length k4) ∧ w'.cell? ⟨w.heap.size, 5, none⟩ = some (.int .i64 m.stack) ∧ w'.cell? ⟨w.heap.size, 6, none⟩ = some (.int .i64 m.heap) ∧ w'.cell? (off_ (adS.add (pc * 2)) 1) = some (.slice Ast s.stack.length cst)) W) := Lib.hid (fun W hW => by
            obtain ⟨d0, d1, d2, d3, d4, d5, d6, _⟩ := HK.out W hW
            exact ⟨d0, d1, d2, d3, d4, d5, d6, (HKP.out W hW).2⟩)
          clear hrs
          go_wp2_with fail
          clear u0 u1
          go_region_held3 (fun w' => w'.cell? ⟨w.heap.size, 0, none⟩ = some (.slice A0 m.classes.length k0) ∧ w'.cell? ⟨w.heap.size, 1, none⟩ = some (.slice Ab m.statics.length k1) ∧ w'.cell? ⟨w.heap.size, 2, none⟩ = some (.slice A2 m.ints.length k2) ∧ w'.cell? ⟨w.heap.size, 3, none⟩ = some (.slice (some ad) m.methods.length k3) ∧ w'.cell? ⟨w.heap.size, 4, none⟩ = some (.slice A4 m.entries.length k4) ∧ w'.cell? ⟨w.heap.size, 5, none⟩ = some (.int .i64 m.stack) ∧ w'.cell? ⟨w.heap.size, 6, none⟩ = some (.int .i64 m.heap) ∧ w'.cell? (off_ (adS.add (pc * 2)) 1) = some (.slice Ast s.stack.length cst)) (first | exact HKA.out _ HXD.out | exact HKA.out _ HX6.out) (first | (go_at_call 24; (with_reducible refine (rstep_mk HI HXD HM (Lib.hid rfl) HSD hst1 HRS).mono ?_); rintro e w6 ⟨A7, c7, A8, c8, rfl, hs7, hs8, hb⟩; have H7 := Lib.hid hs7; have H8 := Lib.hid hs8; have HX6 := Lib.hid (HXD.out.trans (hb.mono HXD.out.size)); clear hs7 hs8 hb))
          rename_i hHeld
          clear hHeld
          by_cases her : er = 0
          rotate_left
          · have hne : (er != 0) = true := by simpa using her
            have HF : Hid (b = false) := Lib.hid (HPF.out (place_err (by rw [HNP.out]; exact HSE.out) (by rw [HNP.out, HRS.out]; exact her)))
            go_wp2_with fail
            go_ret
            exact ⟨by rw [HF.out]; first | rfl | simp, HW.out.trans (HX6.out.mono (Nat.le_of_lt HZ.out))⟩
          subst her
          have hm1 := H8.out.le
          have hm2 := H8.out.cap
          have HIN : Hid (∀ n ∈ NL, 0 ≤ n ∧ n < (S.length : Int)) := Lib.hid (by
            have hPx : pc < x.code.length := by rw [← HCL.out]; exact hpl
            obtain ⟨⟨op, a, bb⟩, hi⟩ : ∃ i, x.code[pc]? = some i := ⟨_, List.getElem?_eq_getElem hPx⟩
            have hxm := HM.out.method (List.mem_of_getElem? HGX.out)
            have him := List.mem_of_getElem? hi
            have e1 := stepIn_of (st := s.stack) HGX.out hi
            rw [HRS.out] at e1
            have h1 := next_in (m := m) (st := s.stack) (F := 0) (hxm.fits.ct _ him) (hxm.co _ him) (by rw [← e1])
            rw [← e1] at h1
            rw [HCL.out]
            exact h1)
          have HPO : Hid (∀ j (hj : j < NL.length), onB m S L NL[j] = false → b = false) := Lib.hid (fun j hj g => HPF.out (by
            have e1 : stepOf m (k : Int) (pc : Int) (shpN S (pc : Int)).stack = ⟨L, NL, 0⟩ := by rw [HNP.out]; exact HRS.out
            refine place_on (j := j) (by rw [HNP.out]; exact HSE.out) (by rw [e1]; exact hj) ?_
            simp only [e1]
            exact g))
          have HPY : Hid ((∀ n ∈ NL, onB m S L n = true) → placeB m (k : Int) S (pc : Int) = true) := Lib.hid (fun g => by
            have e1 : stepOf m (k : Int) (pc : Int) (shpN S (pc : Int)).stack = ⟨L, NL, 0⟩ := by rw [HNP.out]; exact HRS.out
            exact place_yes (by rw [e1]) (by rw [e1]; exact g))
          go_wp2_with fail
          go_loopw [11] (fun i wr => ∃ j : Nat, j ≤ NL.length ∧ i = .int .i64 j ∧ Hid (∀ n ∈ NL.take j, onB m S L n = true) ∧ Hid (Below w1.heap.size w1 wr) ∧ Hid (Below w6.heap.size w6 wr)) (fun i _ => NL.length - (intOf i).toNat)
          case atStart => exact ⟨0, Nat.zero_le _, rfl, Lib.hid (by simp), HX6, Lib.hid (Below.refl _ _)⟩
          case round =>
            clear HX HXD
            obtain ⟨j, hj, rfl, HJ, HX, HY⟩ := hrel
            by_cases hjl : j < NL.length
            · obtain ⟨adN, rfl, habN, v0⟩ := H8.out.row.at_ hjl
              have v0 : w6.cell? (adN.add j) = some (.int .i64 NL[j]) := by have := v0; rw [Nat.mul_one] at this; exact this
              obtain ⟨n0, n1⟩ := HIN.out _ (List.getElem_mem hjl)
              have HJF : Hid (onB m S L NL[j] = false → b = false) := Lib.hid (HPO.out j hjl)
              have HJT : Hid (onB m S L NL[j] = true → ∀ n ∈ NL.take (j + 1), onB m S L n = true) := Lib.hid (fun g => all_take hjl HJ.out g)
              generalize NL[j] = nn at *
              obtain ⟨q, rfl⟩ := Int.eq_ofNat_of_zero_le n0
              have hql : q < S.length := by omega
              obtain ⟨adS', eS, _, u0, Az, cz, u1, hu⟩ := HSR.out.row.at_ hql
              obtain rfl : adS = adS' := by injection eS
              clear eS
              have hNq : shpN S (q : Int) = S[q] := shpN_at hql
              generalize S[q] = z at *
              have HNQ := Lib.hid hNq
              have HZU := Lib.hid hu
              have HKB : Hid (∀ W, Below w1.heap.size w1 W → Below w6.heap.size w6 W → (fun w' => w'.cell? ⟨w.heap.size, 0, none⟩ = some (.slice A0 m.classes.length k0) ∧ w'.cell? ⟨w.heap.size, 1, none⟩ = some (.slice Ab m.statics.length k1) ∧ w'.cell? ⟨w.heap.size, 2, none⟩ = some (.slice A2 m.ints.length k2) ∧ w'.cell? ⟨w.heap.size, 3, none⟩ = some (.slice (some ad) m.methods.length k3) ∧ w'.cell? ⟨w.heap.size, 4, none⟩ = some (.slice A4 m.entries.length k4) ∧ w'.cell? ⟨w.heap.size, 5, none⟩ = some (.int .i64 m.stack) ∧ w'.cell? ⟨w.heap.size, 6, none⟩ = some (.int .i64 m.heap) ∧ w'.cell? (adN.add j) = some (.int .i64 (q : Int)) ∧ w'.cell? (adS.add (q * 2)) = some (.bool z.seen) ∧ w'.cell? (off_ (adS.add (q * 2)) 1) = some (.slice Az z.stack.length cz)) W) := Lib.hid (fun W hW hV => by
                obtain ⟨d0, d1, d2, d3, d4, d5, d6, _⟩ := HK.out W hW
                exact ⟨d0, d1, d2, d3, d4, d5, d6, (hV.cell (p := adN.add j) (by rw [addr_add_block]; exact habN)).trans v0, (hW.cell (p := adS.add (q * 2)) (by rw [addr_add_block]; exact habS)).trans u0, (hW.cell (p := off_ (adS.add (q * 2)) 1) (by show (adS.add _).block < _; rw [addr_add_block]; exact habS)).trans u1⟩)
              clear u0 u1 hu hNq v0
              have HXD : Hid (Below w1.heap.size w1 wr.drew) := Lib.hid HX.out.drew
              have HYD : Hid (Below w6.heap.size w6 wr.drew) := Lib.hid HY.out.drew
              have H7D := Lib.hid (slcDr TyAt.keeps (slcUp TyAt.keeps H7.out HY.out))
              have HZD := Lib.hid (slcDr TyAt.keeps (slcUp TyAt.keeps HZU.out HX.out))
              by_cases hze : z.seen = true
              rotate_left
              · have hze' : z.seen = false := by simpa using hze
                have HF : Hid (b = false) := Lib.hid (HJF.out (by unfold onB; rw [HNQ.out, hze']; rfl))
                rw [hze'] at HKB
                go_wp2_with fail
                refine wp_region_noPanic ?_
                refine wp_region_held_drew (S := (fun w' => w'.cell? ⟨w.heap.size, 0, none⟩ = some (.slice A0 m.classes.length k0) ∧ w'.cell? ⟨w.heap.size, 1, none⟩ = some (.slice Ab m.statics.length k1) ∧ w'.cell? ⟨w.heap.size, 2, none⟩ = some (.slice A2 m.ints.length k2) ∧ w'.cell? ⟨w.heap.size, 3, none⟩ = some (.slice (some ad) m.methods.length k3) ∧ w'.cell? ⟨w.heap.size, 4, none⟩ = some (.slice A4 m.entries.length k4) ∧ w'.cell? ⟨w.heap.size, 5, none⟩ = some (.int .i64 m.stack) ∧ w'.cell? ⟨w.heap.size, 6, none⟩ = some (.int .i64 m.heap) ∧ w'.cell? (adN.add j) = some (.int .i64 (q : Int)) ∧ w'.cell? (adS.add (q * 2)) = some (.bool false) ∧ w'.cell? (off_ (adS.add (q * 2)) 1) = some (.slice Az z.stack.length cz))) (by kernel_rfl) (HKB.out _ HXD.out HYD.out) (fun hHeld => ?_)
                refine wpAnyH_take (i := 0) (oi := _) (v := ?_) rfl (by kernel_rfl) (by kernel_rfl) (by kernel_rfl) (fun _ _ _ h => h) (Or.inl ⟨by rfl, ?_⟩) (by assumption) ?_
                rotate_left
                · (intro w hSw; (try dsimp only at hSw); go_simp <;> with_reducible rfl)
                try simp only [List.getElem_toArray, List.getElem_cons_succ, List.getElem_cons_zero, Act.put, List.setIfInBounds_toArray, List.set_cons_zero, List.set_cons_succ]
                refine wpAnyH_take (i := 1) (oi := _) (v := ?_) rfl (by kernel_rfl) (by kernel_rfl) (by kernel_rfl) (fun _ _ _ h => h) (Or.inl ⟨by rfl, ?_⟩) (by assumption) ?_
                rotate_left
                · (intro w hSw; (try dsimp only at hSw); go_simp <;> with_reducible rfl)
                try simp only [List.getElem_toArray, List.getElem_cons_succ, List.getElem_cons_zero, Act.put, List.setIfInBounds_toArray, List.set_cons_zero, List.set_cons_succ]
                refine wpAnyH_take (i := 2) (oi := _) (v := ?_) rfl (by kernel_rfl) (by kernel_rfl) (by kernel_rfl) (fun _ _ _ h => h) (Or.inl ⟨by rfl, ?_⟩) (by assumption) ?_
                rotate_left
                · (intro w hSw; (try dsimp only at hSw); go_simp <;> with_reducible rfl)
                try simp only [List.getElem_toArray, List.getElem_cons_succ, List.getElem_cons_zero, Act.put, List.setIfInBounds_toArray, List.set_cons_zero, List.set_cons_succ]
                refine wpAnyH_take (i := 3) (oi := _) (v := ?_) rfl (by kernel_rfl) (by kernel_rfl) (by kernel_rfl) (fun _ _ _ h => h) (Or.inl ⟨by rfl, ?_⟩) (by assumption) ?_
                rotate_left
                · (intro w hSw; (try dsimp only at hSw); go_simp <;> with_reducible rfl)
                try simp only [List.getElem_toArray, List.getElem_cons_succ, List.getElem_cons_zero, Act.put, List.setIfInBounds_toArray, List.set_cons_zero, List.set_cons_succ]
                refine wpAnyH_take (i := 4) (oi := _) (v := ?_) rfl (by kernel_rfl) (by kernel_rfl) (by kernel_rfl) (fun _ _ _ h => h) (Or.inl ⟨by rfl, ?_⟩) (by assumption) ?_
                rotate_left
                · (intro w hSw; (try dsimp only at hSw); go_simp <;> with_reducible rfl)
                try simp only [List.getElem_toArray, List.getElem_cons_succ, List.getElem_cons_zero, Act.put, List.setIfInBounds_toArray, List.set_cons_zero, List.set_cons_succ]
                refine wpAnyH_take (i := 5) (oi := _) (v := ?_) rfl (by kernel_rfl) (by kernel_rfl) (by kernel_rfl) (fun _ _ _ h => h) (Or.inl ⟨by rfl, ?_⟩) (by assumption) ?_
                rotate_left
                · (intro w hSw; (try dsimp only at hSw); go_simp <;> with_reducible rfl)
                try simp only [List.getElem_toArray, List.getElem_cons_succ, List.getElem_cons_zero, Act.put, List.setIfInBounds_toArray, List.set_cons_zero, List.set_cons_succ]
                refine wpAnyH_take (i := 6) (oi := _) (v := ?_) rfl (by kernel_rfl) (by kernel_rfl) (by kernel_rfl) (fun _ _ _ h => h) (Or.inl ⟨by rfl, ?_⟩) (by assumption) ?_
                rotate_left
                · (intro w hSw; (try dsimp only at hSw); go_simp <;> with_reducible rfl)
                try simp only [List.getElem_toArray, List.getElem_cons_succ, List.getElem_cons_zero, Act.put, List.setIfInBounds_toArray, List.set_cons_zero, List.set_cons_succ]
                refine wpAnyH_take (i := 7) (oi := _) (v := ?_) rfl (by kernel_rfl) (by kernel_rfl) (by kernel_rfl) (fun _ _ _ h => h) (Or.inl ⟨by rfl, ?_⟩) (by assumption) ?_
                rotate_left
                · (intro w hSw; (try dsimp only at hSw); go_simp <;> with_reducible rfl)
                try simp only [List.getElem_toArray, List.getElem_cons_succ, List.getElem_cons_zero, Act.put, List.setIfInBounds_toArray, List.set_cons_zero, List.set_cons_succ]
                refine wpAnyH_take (i := 8) (oi := _) (v := ?_) rfl (by kernel_rfl) (by kernel_rfl) (by kernel_rfl) (fun _ _ _ h => h) (Or.inl ⟨by rfl, ?_⟩) (by assumption) ?_
                rotate_left
                · (intro w hSw; (try dsimp only at hSw); go_simp <;> with_reducible rfl)
                try simp only [List.getElem_toArray, List.getElem_cons_succ, List.getElem_cons_zero, Act.put, List.setIfInBounds_toArray, List.set_cons_zero, List.set_cons_succ]
                refine wpAnyH_take (i := 9) (oi := _) (v := ?_) rfl (by kernel_rfl) (by kernel_rfl) (by kernel_rfl) (fun _ _ _ h => h) (Or.inl ⟨by rfl, ?_⟩) (by assumption) ?_
                rotate_left
                · (intro w hSw; (try dsimp only at hSw); go_simp <;> with_reducible rfl)
                try simp only [List.getElem_toArray, List.getElem_cons_succ, List.getElem_cons_zero, Act.put, List.setIfInBounds_toArray, List.set_cons_zero, List.set_cons_succ]
                refine wpAnyH_take (i := 10) (oi := _) (v := undef) rfl (by kernel_rfl) (by kernel_rfl) (by kernel_rfl) (fun _ _ _ h => h) (Or.inr ⟨by rfl, rfl⟩) (by assumption) ?_
                try simp only [List.getElem_toArray, List.getElem_cons_succ, List.getElem_cons_zero, Act.put, List.setIfInBounds_toArray, List.set_cons_zero, List.set_cons_succ]
                refine wpAnyH_take (i := 11) (oi := _) (v := undef) rfl (by kernel_rfl) (by kernel_rfl) (by kernel_rfl) (fun _ _ _ h => h) (Or.inr ⟨by rfl, rfl⟩) (by assumption) ?_
                try simp only [List.getElem_toArray, List.getElem_cons_succ, List.getElem_cons_zero, Act.put, List.setIfInBounds_toArray, List.set_cons_zero, List.set_cons_succ]
                refine wpAnyH_take (i := 12) (oi := _) (v := undef) rfl (by kernel_rfl) (by kernel_rfl) (by kernel_rfl) (fun _ _ _ h => h) (Or.inr ⟨by rfl, rfl⟩) (by assumption) ?_
                try simp only [List.getElem_toArray, List.getElem_cons_succ, List.getElem_cons_zero, Act.put, List.setIfInBounds_toArray, List.set_cons_zero, List.set_cons_succ]
                refine wpAnyH_take (i := 13) (oi := _) (v := undef) rfl (by kernel_rfl) (by kernel_rfl) (by kernel_rfl) (fun _ _ _ h => h) (Or.inr ⟨by rfl, rfl⟩) (by assumption) ?_
                try simp only [List.getElem_toArray, List.getElem_cons_succ, List.getElem_cons_zero, Act.put, List.setIfInBounds_toArray, List.set_cons_zero, List.set_cons_succ]
                refine wpAnyH_take (i := 14) (oi := _) (v := undef) rfl (by kernel_rfl) (by kernel_rfl) (by kernel_rfl) (fun _ _ _ h => h) (Or.inr ⟨by rfl, rfl⟩) (by assumption) ?_
                try simp only [List.getElem_toArray, List.getElem_cons_succ, List.getElem_cons_zero, Act.put, List.setIfInBounds_toArray, List.set_cons_zero, List.set_cons_succ]
                refine wpAnyH_take (i := 15) (oi := _) (v := undef) rfl (by kernel_rfl) (by kernel_rfl) (by kernel_rfl) (fun _ _ _ h => h) (Or.inr ⟨by rfl, rfl⟩) (by assumption) ?_
                try simp only [List.getElem_toArray, List.getElem_cons_succ, List.getElem_cons_zero, Act.put, List.setIfInBounds_toArray, List.set_cons_zero, List.set_cons_succ]
                refine wpAnyH_take (i := 16) (oi := _) (v := undef) rfl (by kernel_rfl) (by kernel_rfl) (by kernel_rfl) (fun _ _ _ h => h) (Or.inr ⟨by rfl, rfl⟩) (by assumption) ?_
                try simp only [List.getElem_toArray, List.getElem_cons_succ, List.getElem_cons_zero, Act.put, List.setIfInBounds_toArray, List.set_cons_zero, List.set_cons_succ]
                refine wpAnyH_take (i := 17) (oi := _) (v := undef) rfl (by kernel_rfl) (by kernel_rfl) (by kernel_rfl) (fun _ _ _ h => h) (Or.inr ⟨by rfl, rfl⟩) (by assumption) ?_
                try simp only [List.getElem_toArray, List.getElem_cons_succ, List.getElem_cons_zero, Act.put, List.setIfInBounds_toArray, List.set_cons_zero, List.set_cons_succ]
                refine wpAnyH_take (i := 18) (oi := _) (v := undef) rfl (by kernel_rfl) (by kernel_rfl) (by kernel_rfl) (fun _ _ _ h => h) (Or.inr ⟨by rfl, rfl⟩) (by assumption) ?_
                try simp only [List.getElem_toArray, List.getElem_cons_succ, List.getElem_cons_zero, Act.put, List.setIfInBounds_toArray, List.set_cons_zero, List.set_cons_succ]
                refine wpAnyH_take (i := 19) (oi := _) (v := undef) rfl (by kernel_rfl) (by kernel_rfl) (by kernel_rfl) (fun _ _ _ h => h) (Or.inr ⟨by rfl, rfl⟩) (by assumption) ?_
                try simp only [List.getElem_toArray, List.getElem_cons_succ, List.getElem_cons_zero, Act.put, List.setIfInBounds_toArray, List.set_cons_zero, List.set_cons_succ]
                refine wpAnyH_take (i := 20) (oi := _) (v := undef) rfl (by kernel_rfl) (by kernel_rfl) (by kernel_rfl) (fun _ _ _ h => h) (Or.inr ⟨by rfl, rfl⟩) (by assumption) ?_
                try simp only [List.getElem_toArray, List.getElem_cons_succ, List.getElem_cons_zero, Act.put, List.setIfInBounds_toArray, List.set_cons_zero, List.set_cons_succ]
                refine wpAnyH_take (i := 21) (oi := _) (v := undef) rfl (by kernel_rfl) (by kernel_rfl) (by kernel_rfl) (fun _ _ _ h => h) (Or.inr ⟨by rfl, rfl⟩) (by assumption) ?_
                try simp only [List.getElem_toArray, List.getElem_cons_succ, List.getElem_cons_zero, Act.put, List.setIfInBounds_toArray, List.set_cons_zero, List.set_cons_succ]
                refine wpAnyH_take (i := 22) (oi := _) (v := ?_) rfl (by kernel_rfl) (by kernel_rfl) (by kernel_rfl) (fun _ _ _ h => h) (Or.inl ⟨by rfl, ?_⟩) (by assumption) ?_
                rotate_left
                · (intro w hSw; (try dsimp only at hSw); go_simp <;> with_reducible rfl)
                try simp only [List.getElem_toArray, List.getElem_cons_succ, List.getElem_cons_zero, Act.put, List.setIfInBounds_toArray, List.set_cons_zero, List.set_cons_succ]
                refine wpAnyH_done (by kernel_rfl) ?_ _
                refine NoPanic.normal ?_
                clear hHeld
                go_wp2_with fail
                go_ret
                exact ⟨by rw [HF.out]; first | rfl | simp, HW.out.trans (HXD.out.mono (Nat.le_of_lt HZ.out))⟩
              obtain ⟨v, hv⟩ : ∃ v, underB (supsOf m.classes) L z.stack = v := ⟨_, rfl⟩
              have HV := Lib.hid hv
              have HON : Hid (onB m S L (q : Int) = v) := Lib.hid (by unfold onB; rw [HNQ.out, hze, hv]; rfl)
              clear hv
              rw [hze] at HKB
              cases v
              · have HF : Hid (b = false) := Lib.hid (HJF.out HON.out)
                go_wp2_with fail
                refine wp_region_noPanic ?_
                refine wp_region_held_drew (S := (fun w' => w'.cell? ⟨w.heap.size, 0, none⟩ = some (.slice A0 m.classes.length k0) ∧ w'.cell? ⟨w.heap.size, 1, none⟩ = some (.slice Ab m.statics.length k1) ∧ w'.cell? ⟨w.heap.size, 2, none⟩ = some (.slice A2 m.ints.length k2) ∧ w'.cell? ⟨w.heap.size, 3, none⟩ = some (.slice (some ad) m.methods.length k3) ∧ w'.cell? ⟨w.heap.size, 4, none⟩ = some (.slice A4 m.entries.length k4) ∧ w'.cell? ⟨w.heap.size, 5, none⟩ = some (.int .i64 m.stack) ∧ w'.cell? ⟨w.heap.size, 6, none⟩ = some (.int .i64 m.heap) ∧ w'.cell? (adN.add j) = some (.int .i64 (q : Int)) ∧ w'.cell? (adS.add (q * 2)) = some (.bool true) ∧ w'.cell? (off_ (adS.add (q * 2)) 1) = some (.slice Az z.stack.length cz))) (by kernel_rfl) (HKB.out _ HXD.out HYD.out) (fun hHeld => ?_)
                refine wpAnyH_take (i := 0) (oi := _) (v := ?_) rfl (by kernel_rfl) (by kernel_rfl) (by kernel_rfl) (fun _ _ _ h => h) (Or.inl ⟨by rfl, ?_⟩) (by assumption) ?_
                rotate_left
                · (intro w hSw; (try dsimp only at hSw); go_simp <;> with_reducible rfl)
                try simp only [List.getElem_toArray, List.getElem_cons_succ, List.getElem_cons_zero, Act.put, List.setIfInBounds_toArray, List.set_cons_zero, List.set_cons_succ]
                refine wpAnyH_take (i := 1) (oi := _) (v := ?_) rfl (by kernel_rfl) (by kernel_rfl) (by kernel_rfl) (fun _ _ _ h => h) (Or.inl ⟨by rfl, ?_⟩) (by assumption) ?_
                rotate_left
                · (intro w hSw; (try dsimp only at hSw); go_simp <;> with_reducible rfl)
                try simp only [List.getElem_toArray, List.getElem_cons_succ, List.getElem_cons_zero, Act.put, List.setIfInBounds_toArray, List.set_cons_zero, List.set_cons_succ]
                refine wpAnyH_take (i := 2) (oi := _) (v := ?_) rfl (by kernel_rfl) (by kernel_rfl) (by kernel_rfl) (fun _ _ _ h => h) (Or.inl ⟨by rfl, ?_⟩) (by assumption) ?_
                rotate_left
                · (intro w hSw; (try dsimp only at hSw); go_simp <;> with_reducible rfl)
                try simp only [List.getElem_toArray, List.getElem_cons_succ, List.getElem_cons_zero, Act.put, List.setIfInBounds_toArray, List.set_cons_zero, List.set_cons_succ]
                refine wpAnyH_take (i := 3) (oi := _) (v := ?_) rfl (by kernel_rfl) (by kernel_rfl) (by kernel_rfl) (fun _ _ _ h => h) (Or.inl ⟨by rfl, ?_⟩) (by assumption) ?_
                rotate_left
                · (intro w hSw; (try dsimp only at hSw); go_simp <;> with_reducible rfl)
                try simp only [List.getElem_toArray, List.getElem_cons_succ, List.getElem_cons_zero, Act.put, List.setIfInBounds_toArray, List.set_cons_zero, List.set_cons_succ]
                refine wpAnyH_take (i := 4) (oi := _) (v := ?_) rfl (by kernel_rfl) (by kernel_rfl) (by kernel_rfl) (fun _ _ _ h => h) (Or.inl ⟨by rfl, ?_⟩) (by assumption) ?_
                rotate_left
                · (intro w hSw; (try dsimp only at hSw); go_simp <;> with_reducible rfl)
                try simp only [List.getElem_toArray, List.getElem_cons_succ, List.getElem_cons_zero, Act.put, List.setIfInBounds_toArray, List.set_cons_zero, List.set_cons_succ]
                refine wpAnyH_take (i := 5) (oi := _) (v := ?_) rfl (by kernel_rfl) (by kernel_rfl) (by kernel_rfl) (fun _ _ _ h => h) (Or.inl ⟨by rfl, ?_⟩) (by assumption) ?_
                rotate_left
                · (intro w hSw; (try dsimp only at hSw); go_simp <;> with_reducible rfl)
                try simp only [List.getElem_toArray, List.getElem_cons_succ, List.getElem_cons_zero, Act.put, List.setIfInBounds_toArray, List.set_cons_zero, List.set_cons_succ]
                refine wpAnyH_take (i := 6) (oi := _) (v := ?_) rfl (by kernel_rfl) (by kernel_rfl) (by kernel_rfl) (fun _ _ _ h => h) (Or.inl ⟨by rfl, ?_⟩) (by assumption) ?_
                rotate_left
                · (intro w hSw; (try dsimp only at hSw); go_simp <;> with_reducible rfl)
                try simp only [List.getElem_toArray, List.getElem_cons_succ, List.getElem_cons_zero, Act.put, List.setIfInBounds_toArray, List.set_cons_zero, List.set_cons_succ]
                refine wpAnyH_take (i := 7) (oi := _) (v := ?_) rfl (by kernel_rfl) (by kernel_rfl) (by kernel_rfl) (fun _ _ _ h => h) (Or.inl ⟨by rfl, ?_⟩) (by assumption) ?_
                rotate_left
                · (intro w hSw; (try dsimp only at hSw); go_simp <;> with_reducible rfl)
                try simp only [List.getElem_toArray, List.getElem_cons_succ, List.getElem_cons_zero, Act.put, List.setIfInBounds_toArray, List.set_cons_zero, List.set_cons_succ]
                refine wpAnyH_take (i := 8) (oi := _) (v := ?_) rfl (by kernel_rfl) (by kernel_rfl) (by kernel_rfl) (fun _ _ _ h => h) (Or.inl ⟨by rfl, ?_⟩) (by assumption) ?_
                rotate_left
                · (intro w hSw; (try dsimp only at hSw); go_simp <;> with_reducible rfl)
                try simp only [List.getElem_toArray, List.getElem_cons_succ, List.getElem_cons_zero, Act.put, List.setIfInBounds_toArray, List.set_cons_zero, List.set_cons_succ]
                refine wpAnyH_take (i := 9) (oi := _) (v := ?_) rfl (by kernel_rfl) (by kernel_rfl) (by kernel_rfl) (fun _ _ _ h => h) (Or.inl ⟨by rfl, ?_⟩) (by assumption) ?_
                rotate_left
                · (intro w hSw; (try dsimp only at hSw); go_simp <;> with_reducible rfl)
                try simp only [List.getElem_toArray, List.getElem_cons_succ, List.getElem_cons_zero, Act.put, List.setIfInBounds_toArray, List.set_cons_zero, List.set_cons_succ]
                refine wpAnyH_take (i := 10) (oi := _) (v := ?_) rfl (by kernel_rfl) (by kernel_rfl) (by kernel_rfl) (fun _ _ _ h => h) (Or.inl ⟨by rfl, ?_⟩) (by assumption) ?_
                rotate_left
                · (intro w hSw; (try dsimp only at hSw); go_simp <;> with_reducible rfl)
                try simp only [List.getElem_toArray, List.getElem_cons_succ, List.getElem_cons_zero, Act.put, List.setIfInBounds_toArray, List.set_cons_zero, List.set_cons_succ]
                refine wpAnyH_take (i := 11) (oi := _) (v := ?_) rfl (by kernel_rfl) (by kernel_rfl) (by kernel_rfl) (fun _ _ _ h => h) (Or.inl ⟨by rfl, ?_⟩) (by assumption) ?_
                rotate_left
                · (intro w hSw; (try dsimp only at hSw); go_simp <;> with_reducible rfl)
                try simp only [List.getElem_toArray, List.getElem_cons_succ, List.getElem_cons_zero, Act.put, List.setIfInBounds_toArray, List.set_cons_zero, List.set_cons_succ]
                refine wpAnyH_take (i := 12) (oi := _) (v := ?_) rfl (by kernel_rfl) (by kernel_rfl) (by kernel_rfl) (fun _ _ _ h => h) (Or.inl ⟨by rfl, ?_⟩) (by assumption) ?_
                rotate_left
                · (intro w hSw; (try dsimp only at hSw); go_simp <;> with_reducible rfl)
                try simp only [List.getElem_toArray, List.getElem_cons_succ, List.getElem_cons_zero, Act.put, List.setIfInBounds_toArray, List.set_cons_zero, List.set_cons_succ]
                refine wpAnyH_take (i := 13) (oi := _) (v := ?_) rfl (by kernel_rfl) (by kernel_rfl) (by kernel_rfl) (fun _ _ _ h => h) (Or.inl ⟨by rfl, ?_⟩) (by assumption) ?_
                rotate_left
                · (intro w hSw; (try dsimp only at hSw); go_simp <;> with_reducible rfl)
                try simp only [List.getElem_toArray, List.getElem_cons_succ, List.getElem_cons_zero, Act.put, List.setIfInBounds_toArray, List.set_cons_zero, List.set_cons_succ]
                refine wpAnyH_take (i := 14) (oi := _) (v := ?_) rfl (by kernel_rfl) (by kernel_rfl) (by kernel_rfl) (fun _ _ _ h => h) (Or.inl ⟨by rfl, ?_⟩) (by assumption) ?_
                rotate_left
                · (intro w hSw; (try dsimp only at hSw); go_simp <;> with_reducible rfl)
                try simp only [List.getElem_toArray, List.getElem_cons_succ, List.getElem_cons_zero, Act.put, List.setIfInBounds_toArray, List.set_cons_zero, List.set_cons_succ]
                refine wpAnyH_take (i := 15) (oi := _) (v := ?_) rfl (by kernel_rfl) (by kernel_rfl) (by kernel_rfl) (fun _ _ _ h => h) (Or.inl ⟨by rfl, ?_⟩) (by assumption) ?_
                rotate_left
                · (intro w hSw; (try dsimp only at hSw); go_simp <;> with_reducible rfl)
                try simp only [List.getElem_toArray, List.getElem_cons_succ, List.getElem_cons_zero, Act.put, List.setIfInBounds_toArray, List.set_cons_zero, List.set_cons_succ]
                refine wpAnyH_take (i := 16) (oi := _) (v := ?_) rfl (by kernel_rfl) (by kernel_rfl) (by kernel_rfl) (fun _ _ _ h => h) (Or.inl ⟨by rfl, ?_⟩) (by assumption) ?_
                rotate_left
                · (intro w hSw; (try dsimp only at hSw); go_simp <;> with_reducible rfl)
                try simp only [List.getElem_toArray, List.getElem_cons_succ, List.getElem_cons_zero, Act.put, List.setIfInBounds_toArray, List.set_cons_zero, List.set_cons_succ]
                refine wpAnyH_take (i := 17) (oi := _) (v := ?_) rfl (by kernel_rfl) (by kernel_rfl) (by kernel_rfl) (fun _ _ _ h => h) (Or.inl ⟨by rfl, ?_⟩) (by assumption) ?_
                rotate_left
                · (intro w hSw; (try dsimp only at hSw); go_simp <;> with_reducible rfl)
                try simp only [List.getElem_toArray, List.getElem_cons_succ, List.getElem_cons_zero, Act.put, List.setIfInBounds_toArray, List.set_cons_zero, List.set_cons_succ]
                refine wpAnyH_take (i := 18) (oi := _) (v := ?_) rfl (by kernel_rfl) (by kernel_rfl) (by kernel_rfl) (fun _ _ _ h => h) (Or.inl ⟨by rfl, ?_⟩) (by assumption) ?_
                rotate_left
                · (intro w hSw; (try dsimp only at hSw); go_simp <;> with_reducible rfl)
                try simp only [List.getElem_toArray, List.getElem_cons_succ, List.getElem_cons_zero, Act.put, List.setIfInBounds_toArray, List.set_cons_zero, List.set_cons_succ]
                refine wpAnyH_take (i := 19) (oi := _) (v := ?_) rfl (by kernel_rfl) (by kernel_rfl) (by kernel_rfl) (fun _ _ _ h => h) (Or.inl ⟨by rfl, ?_⟩) (by assumption) ?_
                rotate_left
                · (intro w hSw; (try dsimp only at hSw); go_simp <;> with_reducible rfl)
                try simp only [List.getElem_toArray, List.getElem_cons_succ, List.getElem_cons_zero, Act.put, List.setIfInBounds_toArray, List.set_cons_zero, List.set_cons_succ]
                refine wpAnyH_ready (rs := [20]) (by kernel_rfl) (by simp) ?_
                refine AllReadyH.cons (o := _) rfl (fun K hK => ?_) AllReadyH.nil
                go_simp
                go_wp2_with (go_at_call 25; (with_reducible refine (runder_is HI HXD hcl H7D.out HZD.out HV).mono ?_); rintro e w9 ⟨rfl, hb⟩; have HX9 := Lib.hid (HXD.out.trans (hb.mono HXD.out.size)); have HY9 := Lib.hid (HYD.out.trans (hb.mono HYD.out.size)); clear hb)
                refine hK.out _ _ (HKB.out _ HX9.out HY9.out) (fun hHeld => ?_)
                clear hK K
                try simp only [List.getElem_toArray, List.getElem_cons_succ, List.getElem_cons_zero, Act.put, List.setIfInBounds_toArray, List.set_cons_zero, List.set_cons_succ]
                refine wpAnyH_take (i := 21) (oi := _) (v := ?_) rfl (by kernel_rfl) (by kernel_rfl) (by kernel_rfl) (fun _ _ _ h => h) (Or.inl ⟨by rfl, ?_⟩) (by assumption) ?_
                rotate_left
                · (intro w hSw; (try dsimp only at hSw); go_simp <;> with_reducible rfl)
                try simp only [List.getElem_toArray, List.getElem_cons_succ, List.getElem_cons_zero, Act.put, List.setIfInBounds_toArray, List.set_cons_zero, List.set_cons_succ]
                refine wpAnyH_take (i := 22) (oi := _) (v := ?_) rfl (by kernel_rfl) (by kernel_rfl) (by kernel_rfl) (fun _ _ _ h => h) (Or.inl ⟨by rfl, ?_⟩) (by assumption) ?_
                rotate_left
                · (intro w hSw; (try dsimp only at hSw); go_simp <;> with_reducible rfl)
                try simp only [List.getElem_toArray, List.getElem_cons_succ, List.getElem_cons_zero, Act.put, List.setIfInBounds_toArray, List.set_cons_zero, List.set_cons_succ]
                refine wpAnyH_done (by kernel_rfl) ?_ _
                refine NoPanic.normal ?_
                clear hHeld
                go_wp2_with fail
                go_ret
                exact ⟨by rw [HF.out]; first | rfl | simp, HW.out.trans (HX9.out.mono (Nat.le_of_lt HZ.out))⟩
              · have HJ2 := Lib.hid (HJT.out HON.out)
                go_wp2_with fail
                refine wp_region_noPanic ?_
                refine wp_region_held_drew (S := (fun w' => w'.cell? ⟨w.heap.size, 0, none⟩ = some (.slice A0 m.classes.length k0) ∧ w'.cell? ⟨w.heap.size, 1, none⟩ = some (.slice Ab m.statics.length k1) ∧ w'.cell? ⟨w.heap.size, 2, none⟩ = some (.slice A2 m.ints.length k2) ∧ w'.cell? ⟨w.heap.size, 3, none⟩ = some (.slice (some ad) m.methods.length k3) ∧ w'.cell? ⟨w.heap.size, 4, none⟩ = some (.slice A4 m.entries.length k4) ∧ w'.cell? ⟨w.heap.size, 5, none⟩ = some (.int .i64 m.stack) ∧ w'.cell? ⟨w.heap.size, 6, none⟩ = some (.int .i64 m.heap) ∧ w'.cell? (adN.add j) = some (.int .i64 (q : Int)) ∧ w'.cell? (adS.add (q * 2)) = some (.bool true) ∧ w'.cell? (off_ (adS.add (q * 2)) 1) = some (.slice Az z.stack.length cz))) (by kernel_rfl) (HKB.out _ HXD.out HYD.out) (fun hHeld => ?_)
                refine wpAnyH_take (i := 0) (oi := _) (v := ?_) rfl (by kernel_rfl) (by kernel_rfl) (by kernel_rfl) (fun _ _ _ h => h) (Or.inl ⟨by rfl, ?_⟩) (by assumption) ?_
                rotate_left
                · (intro w hSw; (try dsimp only at hSw); go_simp <;> with_reducible rfl)
                try simp only [List.getElem_toArray, List.getElem_cons_succ, List.getElem_cons_zero, Act.put, List.setIfInBounds_toArray, List.set_cons_zero, List.set_cons_succ]
                refine wpAnyH_take (i := 1) (oi := _) (v := ?_) rfl (by kernel_rfl) (by kernel_rfl) (by kernel_rfl) (fun _ _ _ h => h) (Or.inl ⟨by rfl, ?_⟩) (by assumption) ?_
                rotate_left
                · (intro w hSw; (try dsimp only at hSw); go_simp <;> with_reducible rfl)
                try simp only [List.getElem_toArray, List.getElem_cons_succ, List.getElem_cons_zero, Act.put, List.setIfInBounds_toArray, List.set_cons_zero, List.set_cons_succ]
                refine wpAnyH_take (i := 2) (oi := _) (v := ?_) rfl (by kernel_rfl) (by kernel_rfl) (by kernel_rfl) (fun _ _ _ h => h) (Or.inl ⟨by rfl, ?_⟩) (by assumption) ?_
                rotate_left
                · (intro w hSw; (try dsimp only at hSw); go_simp <;> with_reducible rfl)
                try simp only [List.getElem_toArray, List.getElem_cons_succ, List.getElem_cons_zero, Act.put, List.setIfInBounds_toArray, List.set_cons_zero, List.set_cons_succ]
                refine wpAnyH_take (i := 3) (oi := _) (v := ?_) rfl (by kernel_rfl) (by kernel_rfl) (by kernel_rfl) (fun _ _ _ h => h) (Or.inl ⟨by rfl, ?_⟩) (by assumption) ?_
                rotate_left
                · (intro w hSw; (try dsimp only at hSw); go_simp <;> with_reducible rfl)
                try simp only [List.getElem_toArray, List.getElem_cons_succ, List.getElem_cons_zero, Act.put, List.setIfInBounds_toArray, List.set_cons_zero, List.set_cons_succ]
                refine wpAnyH_take (i := 4) (oi := _) (v := ?_) rfl (by kernel_rfl) (by kernel_rfl) (by kernel_rfl) (fun _ _ _ h => h) (Or.inl ⟨by rfl, ?_⟩) (by assumption) ?_
                rotate_left
                · (intro w hSw; (try dsimp only at hSw); go_simp <;> with_reducible rfl)
                try simp only [List.getElem_toArray, List.getElem_cons_succ, List.getElem_cons_zero, Act.put, List.setIfInBounds_toArray, List.set_cons_zero, List.set_cons_succ]
                refine wpAnyH_take (i := 5) (oi := _) (v := ?_) rfl (by kernel_rfl) (by kernel_rfl) (by kernel_rfl) (fun _ _ _ h => h) (Or.inl ⟨by rfl, ?_⟩) (by assumption) ?_
                rotate_left
                · (intro w hSw; (try dsimp only at hSw); go_simp <;> with_reducible rfl)
                try simp only [List.getElem_toArray, List.getElem_cons_succ, List.getElem_cons_zero, Act.put, List.setIfInBounds_toArray, List.set_cons_zero, List.set_cons_succ]
                refine wpAnyH_take (i := 6) (oi := _) (v := ?_) rfl (by kernel_rfl) (by kernel_rfl) (by kernel_rfl) (fun _ _ _ h => h) (Or.inl ⟨by rfl, ?_⟩) (by assumption) ?_
                rotate_left
                · (intro w hSw; (try dsimp only at hSw); go_simp <;> with_reducible rfl)
                try simp only [List.getElem_toArray, List.getElem_cons_succ, List.getElem_cons_zero, Act.put, List.setIfInBounds_toArray, List.set_cons_zero, List.set_cons_succ]
                refine wpAnyH_take (i := 7) (oi := _) (v := ?_) rfl (by kernel_rfl) (by kernel_rfl) (by kernel_rfl) (fun _ _ _ h => h) (Or.inl ⟨by rfl, ?_⟩) (by assumption) ?_
                rotate_left
                · (intro w hSw; (try dsimp only at hSw); go_simp <;> with_reducible rfl)
                try simp only [List.getElem_toArray, List.getElem_cons_succ, List.getElem_cons_zero, Act.put, List.setIfInBounds_toArray, List.set_cons_zero, List.set_cons_succ]
                refine wpAnyH_take (i := 8) (oi := _) (v := ?_) rfl (by kernel_rfl) (by kernel_rfl) (by kernel_rfl) (fun _ _ _ h => h) (Or.inl ⟨by rfl, ?_⟩) (by assumption) ?_
                rotate_left
                · (intro w hSw; (try dsimp only at hSw); go_simp <;> with_reducible rfl)
                try simp only [List.getElem_toArray, List.getElem_cons_succ, List.getElem_cons_zero, Act.put, List.setIfInBounds_toArray, List.set_cons_zero, List.set_cons_succ]
                refine wpAnyH_take (i := 9) (oi := _) (v := ?_) rfl (by kernel_rfl) (by kernel_rfl) (by kernel_rfl) (fun _ _ _ h => h) (Or.inl ⟨by rfl, ?_⟩) (by assumption) ?_
                rotate_left
                · (intro w hSw; (try dsimp only at hSw); go_simp <;> with_reducible rfl)
                try simp only [List.getElem_toArray, List.getElem_cons_succ, List.getElem_cons_zero, Act.put, List.setIfInBounds_toArray, List.set_cons_zero, List.set_cons_succ]
                refine wpAnyH_take (i := 10) (oi := _) (v := ?_) rfl (by kernel_rfl) (by kernel_rfl) (by kernel_rfl) (fun _ _ _ h => h) (Or.inl ⟨by rfl, ?_⟩) (by assumption) ?_
                rotate_left
                · (intro w hSw; (try dsimp only at hSw); go_simp <;> with_reducible rfl)
                try simp only [List.getElem_toArray, List.getElem_cons_succ, List.getElem_cons_zero, Act.put, List.setIfInBounds_toArray, List.set_cons_zero, List.set_cons_succ]
                refine wpAnyH_take (i := 11) (oi := _) (v := ?_) rfl (by kernel_rfl) (by kernel_rfl) (by kernel_rfl) (fun _ _ _ h => h) (Or.inl ⟨by rfl, ?_⟩) (by assumption) ?_
                rotate_left
                · (intro w hSw; (try dsimp only at hSw); go_simp <;> with_reducible rfl)
                try simp only [List.getElem_toArray, List.getElem_cons_succ, List.getElem_cons_zero, Act.put, List.setIfInBounds_toArray, List.set_cons_zero, List.set_cons_succ]
                refine wpAnyH_take (i := 12) (oi := _) (v := ?_) rfl (by kernel_rfl) (by kernel_rfl) (by kernel_rfl) (fun _ _ _ h => h) (Or.inl ⟨by rfl, ?_⟩) (by assumption) ?_
                rotate_left
                · (intro w hSw; (try dsimp only at hSw); go_simp <;> with_reducible rfl)
                try simp only [List.getElem_toArray, List.getElem_cons_succ, List.getElem_cons_zero, Act.put, List.setIfInBounds_toArray, List.set_cons_zero, List.set_cons_succ]
                refine wpAnyH_take (i := 13) (oi := _) (v := ?_) rfl (by kernel_rfl) (by kernel_rfl) (by kernel_rfl) (fun _ _ _ h => h) (Or.inl ⟨by rfl, ?_⟩) (by assumption) ?_
                rotate_left
                · (intro w hSw; (try dsimp only at hSw); go_simp <;> with_reducible rfl)
                try simp only [List.getElem_toArray, List.getElem_cons_succ, List.getElem_cons_zero, Act.put, List.setIfInBounds_toArray, List.set_cons_zero, List.set_cons_succ]
                refine wpAnyH_take (i := 14) (oi := _) (v := ?_) rfl (by kernel_rfl) (by kernel_rfl) (by kernel_rfl) (fun _ _ _ h => h) (Or.inl ⟨by rfl, ?_⟩) (by assumption) ?_
                rotate_left
                · (intro w hSw; (try dsimp only at hSw); go_simp <;> with_reducible rfl)
                try simp only [List.getElem_toArray, List.getElem_cons_succ, List.getElem_cons_zero, Act.put, List.setIfInBounds_toArray, List.set_cons_zero, List.set_cons_succ]
                refine wpAnyH_take (i := 15) (oi := _) (v := ?_) rfl (by kernel_rfl) (by kernel_rfl) (by kernel_rfl) (fun _ _ _ h => h) (Or.inl ⟨by rfl, ?_⟩) (by assumption) ?_
                rotate_left
                · (intro w hSw; (try dsimp only at hSw); go_simp <;> with_reducible rfl)
                try simp only [List.getElem_toArray, List.getElem_cons_succ, List.getElem_cons_zero, Act.put, List.setIfInBounds_toArray, List.set_cons_zero, List.set_cons_succ]
                refine wpAnyH_take (i := 16) (oi := _) (v := ?_) rfl (by kernel_rfl) (by kernel_rfl) (by kernel_rfl) (fun _ _ _ h => h) (Or.inl ⟨by rfl, ?_⟩) (by assumption) ?_
                rotate_left
                · (intro w hSw; (try dsimp only at hSw); go_simp <;> with_reducible rfl)
                try simp only [List.getElem_toArray, List.getElem_cons_succ, List.getElem_cons_zero, Act.put, List.setIfInBounds_toArray, List.set_cons_zero, List.set_cons_succ]
                refine wpAnyH_take (i := 17) (oi := _) (v := ?_) rfl (by kernel_rfl) (by kernel_rfl) (by kernel_rfl) (fun _ _ _ h => h) (Or.inl ⟨by rfl, ?_⟩) (by assumption) ?_
                rotate_left
                · (intro w hSw; (try dsimp only at hSw); go_simp <;> with_reducible rfl)
                try simp only [List.getElem_toArray, List.getElem_cons_succ, List.getElem_cons_zero, Act.put, List.setIfInBounds_toArray, List.set_cons_zero, List.set_cons_succ]
                refine wpAnyH_take (i := 18) (oi := _) (v := ?_) rfl (by kernel_rfl) (by kernel_rfl) (by kernel_rfl) (fun _ _ _ h => h) (Or.inl ⟨by rfl, ?_⟩) (by assumption) ?_
                rotate_left
                · (intro w hSw; (try dsimp only at hSw); go_simp <;> with_reducible rfl)
                try simp only [List.getElem_toArray, List.getElem_cons_succ, List.getElem_cons_zero, Act.put, List.setIfInBounds_toArray, List.set_cons_zero, List.set_cons_succ]
                refine wpAnyH_take (i := 19) (oi := _) (v := ?_) rfl (by kernel_rfl) (by kernel_rfl) (by kernel_rfl) (fun _ _ _ h => h) (Or.inl ⟨by rfl, ?_⟩) (by assumption) ?_
                rotate_left
                · (intro w hSw; (try dsimp only at hSw); go_simp <;> with_reducible rfl)
                try simp only [List.getElem_toArray, List.getElem_cons_succ, List.getElem_cons_zero, Act.put, List.setIfInBounds_toArray, List.set_cons_zero, List.set_cons_succ]
                refine wpAnyH_ready (rs := [20]) (by kernel_rfl) (by simp) ?_
                refine AllReadyH.cons (o := _) rfl (fun K hK => ?_) AllReadyH.nil
                go_simp
                go_wp2_with (go_at_call 25; (with_reducible refine (runder_is HI HXD hcl H7D.out HZD.out HV).mono ?_); rintro e w9 ⟨rfl, hb⟩; have HX9 := Lib.hid (HXD.out.trans (hb.mono HXD.out.size)); have HY9 := Lib.hid (HYD.out.trans (hb.mono HYD.out.size)); clear hb)
                refine hK.out _ _ (HKB.out _ HX9.out HY9.out) (fun hHeld => ?_)
                clear hK K
                try simp only [List.getElem_toArray, List.getElem_cons_succ, List.getElem_cons_zero, Act.put, List.setIfInBounds_toArray, List.set_cons_zero, List.set_cons_succ]
                refine wpAnyH_take (i := 21) (oi := _) (v := ?_) rfl (by kernel_rfl) (by kernel_rfl) (by kernel_rfl) (fun _ _ _ h => h) (Or.inl ⟨by rfl, ?_⟩) (by assumption) ?_
                rotate_left
                · (intro w hSw; (try dsimp only at hSw); go_simp <;> with_reducible rfl)
                try simp only [List.getElem_toArray, List.getElem_cons_succ, List.getElem_cons_zero, Act.put, List.setIfInBounds_toArray, List.set_cons_zero, List.set_cons_succ]
                refine wpAnyH_take (i := 22) (oi := _) (v := ?_) rfl (by kernel_rfl) (by kernel_rfl) (by kernel_rfl) (fun _ _ _ h => h) (Or.inl ⟨by rfl, ?_⟩) (by assumption) ?_
                rotate_left
                · (intro w hSw; (try dsimp only at hSw); go_simp <;> with_reducible rfl)
                try simp only [List.getElem_toArray, List.getElem_cons_succ, List.getElem_cons_zero, Act.put, List.setIfInBounds_toArray, List.set_cons_zero, List.set_cons_succ]
                refine wpAnyH_done (by kernel_rfl) ?_ _
                refine NoPanic.normal ?_
                clear hHeld
                go_wp2_with fail
                go_roundw
                case rel => exact ⟨j + 1, by omega, by go_num, HJ2, HX9, HY9⟩
                case measure => simp [intOf]; omega
            · have HD := Lib.hid (HPX.out (HPY.out (by have := HJ.out; rwa [List.take_of_length_le (by omega)] at this)))
              go_wp2_with fail
              go_roundw
              case rel => exact ⟨pc + 1, by omega, by go_num, HD, HX⟩
              case measure => simp [intOf]; omega
        · have HD := Lib.hid (HTR.out (HTP.out (fun p hp => HP.out p (by omega))))
          go_wp2_with fail
          go_roundw
          case rel => exact ⟨k + 1, by omega, by go_num, HD, HX⟩
          case measure => simp [intOf]; omega
    · have HB : Hid (b = true) := Lib.hid (by rw [HE2.out]; exact range_all.mpr fun f hf => by rw [List.getElem?_eq_getElem hf]; exact HA.out f (by omega) hf)
      obtain ⟨q0, q1, q2, q3, q4, q5, q6⟩ := HBX.out.keep HX.out HZ.out
      go_wp2_with fail
      go_ret
      exact ⟨by rw [HB.out]; first | rfl | simp, HW.out.trans (HX.out.mono (Nat.le_of_lt HZ.out))⟩
end Go.Proofs.Ytgpmdhdooglkfaa
