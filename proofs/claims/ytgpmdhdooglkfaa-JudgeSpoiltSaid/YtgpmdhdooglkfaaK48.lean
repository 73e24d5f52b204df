/-
  What judge.Right and judge.Over come to.
  The laws of right types: what their parts come to, over any first world. Plain lemmas; no conditions.
-/
import Derived.Test.YtgpmdhdooglkfaaK45
import Derived.Test.YtgpmdhdooglkfaaK46
import Derived.Test.YtgpmdhdooglkfaaK47
namespace Go.Proofs.Ytgpmdhdooglkfaa
set_option maxRecDepth 100000
set_option linter.unusedVariables false
set_option linter.unusedSimpArgs false
open Go.ChangeShapes Go.WideShapes Go.ChangeAt Go.RowKit
set_option linter.unusedVariables false
set_option linter.unusedSimpArgs false

set_option maxHeartbeats 6400000 in
theorem jright_any (m : Img) (maps : List (List Shp)) (A : Option Addr) (c : Nat) (h : Hnd) (w : World) (H : ImgIn w w.heap.size h m) (hm : SaneI m) (hM : SlcIs (SlcAt ShpAt 2) 1 w w.heap.size A c maps) (hz : MapsTo 4000 maps) :
    Calls Try.prog 10 #[imgV h m, .slice A maps.length c] w fun e w' => e = .returned (.bool (rightB m maps)) ∧ Below w.heap.size w w' := by
  have HW := Lib.hid (below_box (w := w) (h := h) (m := m))
  have HBX := Lib.hid (img_box w h m)
  have HZ : Hid (w.heap.size < (w.alloc (imgO h m)).heap.size) := Lib.hid (by simp)
  have HI := Lib.hid (H.now HW.out)
  have HM := Lib.hid hm
  have HST : Hid (∀ S ∈ maps, ∀ s ∈ S, s.stack.length ≤ 4000) := Lib.hid (fun S hS => (hz S hS).2)
  have hle := H.methods.le
  have hcap := H.methods.cap
  have hl1 := hM.le
  have hl2 := hM.cap
  have HM0 := Lib.hid (jslcUp RowAt.keeps hM HW.out)
  obtain ⟨b, hb⟩ : ∃ b, rightB m maps = b := ⟨_, rfl⟩
  rw [hb]
  have HE := Lib.hid hb.symm
  clear H hM hb hm hz
  by_cases hlen : maps.length = m.methods.length
  rotate_left
  · have hnl : ((maps.length : Int) != (m.methods.length : Int)) = true := bne_iff_ne.mpr (by omega)
    have HF : Hid (b = false) := Lib.hid (by rw [HE.out]; unfold rightB; rw [decide_eq_false hlen, Bool.false_and])
    clear hlen
    go_enter Try.func10, Try.ntmps10
    go_upto_region 1 with fail
    generalize w.alloc (imgO h m) = w1 at *
    obtain ⟨q0, q1, q2, q3, q4, q5, q6⟩ := HBX.out
    go_wp2_with fail
    go_ret
    exact ⟨by rw [HF.out]; first | rfl | simp, HW.out⟩
  have HLN := Lib.hid hlen
  have HE2 : Hid (b = (List.range maps.length).all (fun f => rightS m (f : Int) (maps[f]?.getD []))) := Lib.hid (by rw [HE.out]; unfold rightB; rw [decide_eq_true hlen, Bool.true_and])
  have HNF : Hid (∀ (k : Nat) (hk : k < maps.length), rightS m (k : Int) maps[k] = false → b = false) := Lib.hid (fun k hk g => by rw [HE2.out]; exact range_not hk (by rw [List.getElem?_eq_getElem hk]; exact g))
  have hnl : ((maps.length : Int) != (m.methods.length : Int)) = false := bne_eq_false_iff_eq.mpr (by omega)
  clear hlen
  go_enter Try.func10, Try.ntmps10
  go_upto_region 1 with fail
  generalize w.alloc (imgO h m) = w1 at *
  obtain ⟨q0, q1, q2, q3, q4, q5, q6⟩ := HBX.out
  go_wp2_with fail
  clear q0 q1 q2 q3 q4 q5 q6 hnl
  go_loopw [15] (fun i wr => ∃ k : Nat, k ≤ maps.length ∧ i = .int .i64 k ∧ Hid (∀ f, f < k → ∀ hf : f < maps.length, rightS m (f : Int) maps[f] = true) ∧ Hid (Below w1.heap.size w1 wr)) (fun i _ => maps.length - (intOf i).toNat)
  case atStart => exact ⟨0, Nat.zero_le _, rfl, Lib.hid (fun f hf => by omega), Lib.hid (Below.refl _ _)⟩
  case round =>
    obtain ⟨k, hk, rfl, HA, HX⟩ := hrel
    by_cases hlt : k < maps.length
    · obtain ⟨adM, rfl, habM, A1, c1, r0, hsr⟩ := HM0.out.row.at_ hlt
      have hltm : k < m.methods.length := by have := HLN.out; omega
      obtain ⟨ad, A4c, j4, ea, hab, hc4⟩ := img_mcode HI.out hltm
      obtain ⟨A0, Ab, A2, A3, A4, k0, k1, k2, k3, k4⟩ := h
      dsimp only at ea
      subst ea
      have hcN : mthN m (k : Int) = m.methods[k] := by unfold mthN; rw [Int.toNat_natCast, List.getElem?_eq_getElem hltm]; rfl
      have hgx : m.methods[k]? = some m.methods[k] := List.getElem?_eq_getElem hltm
      have HMS := Lib.hid (List.getElem_mem hlt)
      have HFL : Hid (rightS m (k : Int) maps[k] = false → b = false) := Lib.hid (HNF.out k hlt)
      have HTR : Hid (rightS m (k : Int) maps[k] = true → ∀ f, f < k + 1 → ∀ hf : f < maps.length, rightS m (f : Int) maps[f] = true) := Lib.hid (fun g f hf hf2 => by
        rcases Nat.lt_or_ge f k with q | q
        · exact HA.out f q hf2
        · obtain rfl : f = k := by omega
          exact g)
      have HSTK := Lib.hid (HST.out _ HMS.out)
      generalize m.methods[k] = x at *
      generalize maps[k] = S at *
      have HGX := Lib.hid hgx
      have HCN := Lib.hid hcN
      have HSR := Lib.hid (jslcUp ShpAt.keeps hsr HX.out)
      have hS1 := hsr.le
      have hS2 := hsr.cap
      have r0 := (HX.out.cell (p := adM.add (k * 1)) (by rw [addr_add_block]; exact habM)).trans r0
      rw [Nat.mul_one] at r0
      have cc4 := (HX.out.cell (p := off_ (ad.add (k * 8)) 4) (by show (ad.add _).block < _; rw [addr_add_block]; exact hab)).trans hc4
      obtain ⟨q0, q1, q2, q3, q4, q5, q6⟩ := HBX.out.keep HX.out HZ.out
      clear hc4 hgx hcN hsr
      by_cases hcl0 : S.length = x.code.length
      rotate_left
      · have hnc : ((S.length : Int) != (x.code.length : Int)) = true := bne_iff_ne.mpr (by omega)
        have HF : Hid (b = false) := Lib.hid (HFL.out (by unfold rightS firstB; rw [HCN.out, decide_eq_false hcl0]; simp))
        go_wp2_with fail
        go_ret
        exact ⟨by rw [HF.out]; first | rfl | simp, HW.out.trans (HX.out.mono (Nat.le_of_lt HZ.out))⟩
      have hnc : ((S.length : Int) != (x.code.length : Int)) = false := bne_eq_false_iff_eq.mpr (by omega)
      have HCL := Lib.hid hcl0
      clear hcl0
      obtain ⟨r, hr⟩ : ∃ r, rightS m (k : Int) S = r := ⟨_, rfl⟩
      have HR := Lib.hid hr
      clear hr
      cases r
      · have HF : Hid (b = false) := Lib.hid (HFL.out HR.out)
        go_wp2_with (go_at_call 17; (with_reducible refine (jholds_is HI HX HM HGX HCL HSR HSTK HR).mono ?_); rintro e w8 ⟨rfl, hb⟩; have HX8 := Lib.hid (HX.out.trans (hb.mono HX.out.size)); clear hb)
        go_ret
        exact ⟨by rw [HF.out]; first | rfl | simp, HW.out.trans (HX8.out.mono (Nat.le_of_lt HZ.out))⟩
      · have HD := Lib.hid (HTR.out HR.out)
        go_wp2_with (go_at_call 17; (with_reducible refine (jholds_is HI HX HM HGX HCL HSR HSTK HR).mono ?_); rintro e w8 ⟨rfl, hb⟩; have HX8 := Lib.hid (HX.out.trans (hb.mono HX.out.size)); clear hb)
        go_roundw
        case rel => exact ⟨k + 1, by omega, by go_num, HD, HX8⟩
        case measure => simp [intOf]; omega
    · have HB : Hid (b = true) := Lib.hid (by rw [HE2.out]; exact range_all.mpr fun f hf => by rw [List.getElem?_eq_getElem hf]; exact HA.out f (by omega) hf)
      go_wp2_with fail
      go_ret
      exact ⟨by rw [HB.out]; first | rfl | simp, HW.out.trans (HX.out.mono (Nat.le_of_lt HZ.out))⟩
theorem jover_any (m : Img) (a b : List (List Shp)) (A B : Option Addr) (c d : Nat) (h : Hnd) (w : World) (H : ImgIn w w.heap.size h m) (hm : SaneI m) (ha : SlcIs (SlcAt ShpAt 2) 1 w w.heap.size A c a) (hb : SlcIs (SlcAt ShpAt 2) 1 w w.heap.size B d b) (hza : MapsTo 4000 a) (hzb : MapsTo 4000 b) :
    Calls Try.prog 11 #[imgV h m, .slice A a.length c, .slice B b.length d] w fun e w' => e = .returned (.bool (overB (supsOf m.classes) a b)) ∧ Below w.heap.size w w' := by
  have HW := Lib.hid (below_box (w := w) (h := h) (m := m))
  have HBX := Lib.hid (img_box w h m)
  have HZ : Hid (w.heap.size < (w.alloc (imgO h m)).heap.size) := Lib.hid (by simp)
  have HI := Lib.hid (H.now HW.out)
  have HSU := Lib.hid (supers_of HI.out.classes.row)
  have HL := Lib.hid (jslcUp RowAt.keeps ha HW.out)
  have HM := Lib.hid (jslcUp RowAt.keeps hb HW.out)
  have hcl : (supsOf m.classes).length ≤ 1048576 := by rw [supsOf_len]; have := hm.fits.cl; omega
  have HN : Hid ((w.alloc (imgO h m)).cell? ⟨w.heap.size, 0, none⟩ = some (.slice h.A0 (supsOf m.classes).length h.c0)) := Lib.hid (by rw [supsOf_len]; exact HBX.out.1)
  clear H hm ha hb hza hzb
  go_enter Try.func11, Try.ntmps11
  go_upto_region 1 with fail
  generalize w.alloc (imgO h m) = w1 at *
  go_wp2_with (go_at_call 18; (with_reducible refine (jeqr_any (supsOf m.classes) a b A B h.A0 c d h.c0 w.heap.size w1 hcl HSU.out HZ.out HN.out HL.out HM.out).mono ?_); rintro e w2 ⟨rfl, hb⟩; have HB2 := Lib.hid hb; clear hb)
  go_ret
  exact ⟨rfl, HW.out.trans (HB2.out.mono HW.out.size)⟩

theorem jright_is {m : Img} {maps : List (List Shp)} {A : Option Addr} {c n : Nat} {h : Hnd} {w0 w : World} {r : Bool} (HI : Hid (ImgIn w0 w0.heap.size h m)) (HX : Hid (Below w0.heap.size w0 w)) (HM : Hid (SaneI m)) (HS : Hid (SlcIs (SlcAt ShpAt 2) 1 w w.heap.size A c maps)) (HZ : Hid (MapsTo 4000 maps)) (HN : Hid (maps.length = n)) (HR : Hid (rightB m maps = r)) :
    Calls Try.prog 10 #[imgV h m, .slice A n c] w fun e w' => e = .returned (.bool r) ∧ Below w.heap.size w w' := by
  obtain rfl := HN.out
  have H := jright_any m maps A c h w (HI.out.now HX.out) HM.out HS.out HZ.out
  rw [HR.out] at H
  exact H
theorem jover_is {m : Img} {a b : List (List Shp)} {A B : Option Addr} {c d n n' : Nat} {h : Hnd} {w0 w : World} {r : Bool} (HI : Hid (ImgIn w0 w0.heap.size h m)) (HX : Hid (Below w0.heap.size w0 w)) (HM : Hid (SaneI m)) (HA : Hid (SlcIs (SlcAt ShpAt 2) 1 w w.heap.size A c a)) (HB : Hid (SlcIs (SlcAt ShpAt 2) 1 w w.heap.size B d b)) (HZA : Hid (MapsTo 4000 a)) (HZB : Hid (MapsTo 4000 b)) (HN : Hid (a.length = n)) (HN' : Hid (b.length = n')) (HR : Hid (overB (supsOf m.classes) a b = r)) :
    Calls Try.prog 11 #[imgV h m, .slice A n c, .slice B n' d] w fun e w' => e = .returned (.bool r) ∧ Below w.heap.size w w' := by
  obtain rfl := HN.out
  obtain rfl := HN'.out
  have H := jover_any m a b A B c d h w (HI.out.now HX.out) HM.out HA.out HB.out HZA.out HZB.out
  rw [HR.out] at H
  exact H
theorem rright_is {m : Img} {maps : List (List Shp)} {A : Option Addr} {c n : Nat} {h : Hnd} {w0 w : World} {r : Bool} (HI : Hid (ImgIn w0 w0.heap.size h m)) (HX : Hid (Below w0.heap.size w0 w)) (HM : Hid (SaneI m)) (HS : Hid (SlcIs (SlcAt ShpAt 2) 1 w w.heap.size A c maps)) (HZ : Hid (MapsTo 4000 maps)) (HN : Hid (maps.length = n)) (HR : Hid (rightB m maps = r)) :
    Calls Try.prog 13 #[imgV h m, .slice A n c] w fun e w' => e = .returned (.bool r) ∧ Below w.heap.size w w' := by
  obtain rfl := HN.out
  have H := rright_any m maps A c h w (HI.out.now HX.out) HM.out HS.out (fun S hS => (HZ.out S hS).2)
  rw [HR.out] at H
  exact H
/-- Types that were found, as they are read. -/
def FoundL (m : Img) (w : World) (e : Ending) (w' : World) : Prop := ∃ (A : Option Addr) (n c : Nat) (f pc er : Int), e = .returned (.tuple #[.slice A n c, .int .i64 f, .int .i64 pc, .int .i64 er]) ∧ Below w.heap.size w w' ∧ (¬ er = 0 → ∀ a, rightB m a = false) ∧
  (er = 0 → ∃ l, l.length = n ∧ SlcIs (SlcAt ShpAt 2) 1 w' w'.heap.size A c l ∧ MapsTo 4000 l ∧ LeastB m l)
theorem LeastB.maps {m : Img} (hm : SaneI m) {l : List (List Shp)} (h : LeastB m l) : MapsTo 1000 l := fun S hS => by
  obtain ⟨i, hi, e⟩ := List.getElem_of_mem hS
  obtain ⟨h1, h2⟩ := rightB_iff.mp h.right
  have h3 := h2 i hi
  rw [List.getElem?_eq_getElem hi] at h3
  have h4 := (rightS_iff.mp h3).1.2.1
  have hlt : i < m.methods.length := by omega
  have hx : m.methods[i]? = some m.methods[i] := List.getElem?_eq_getElem hlt
  have e5 : mthN m (i : Int) = m.methods[i] := by unfold mthN; rw [Int.toNat_natCast, hx]; rfl
  have hc := (hm.method (List.mem_of_getElem? hx)).fits.cl
  have h4' : l[i].length = (mthN m (i : Int)).code.length := h4
  rw [e5] at h4'
  rw [← e]
  exact ⟨by omega, fun s hs => by have := h.small _ (List.getElem_mem hi) s hs; omega⟩
theorem check_is {m : Img} {h : Hnd} {w0 w : World} (HI : Hid (ImgIn w0 w0.heap.size h m)) (HX : Hid (Below w0.heap.size w0 w)) (HM : Hid (SaneI m)) :
    Calls Try.prog 9 #[imgV h m] w (FoundL m w) := by
  have hml : m.methods.length ≤ 1000 := by have := HM.out.fits.ml; omega
  refine (tcheck_any m h w (HI.out.now HX.out) HM.out hml).mono fun e w' ⟨A, n, c, f, pc, er, he, hb, _, hno, hyes⟩ => ⟨A, n, c, f, pc, er, he, hb, hno, fun q => ?_⟩
  obtain ⟨XS, h1, h2, h3, h4, h5, h6⟩ := hyes q
  have hmp := h6.maps HM.out
  have hz : ∀ p ∈ XS, p.2.length ≤ 1000000 := fun p hp => by
    have := (hmp (p.2.map Shx.shp) (List.mem_map.mpr ⟨p, hp, rfl⟩)).1
    rw [List.length_map] at this
    omega
  exact ⟨mapsOf XS, by rw [mapsOf_len]; exact h2, all_row h3 h2 h4.outs hz, hmp.more (by decide), h6⟩
end Go.Proofs.Ytgpmdhdooglkfaa
