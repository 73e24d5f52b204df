/-
  What typer.typesOf comes to: a method's types are right, and whatever is right says no less; where there are none, nothing is right.
  Append of one slice onto a row of slices of the call's own, of which no cell, not even one behind its length, is a number. Plain lemmas; no conditions.
  What the document's own answer for all methods' types (All) comes to: rows of the call's own, no two of them one block.
-/
import Derived.Test.YtgpmdhdooglkfaaM34
import Derived.Test.YtgpmdhdooglkfaaM42
import Derived.Test.YtgpmdhdooglkfaaM43
import Derived.Deep.LoopGhost
import Derived.WalkMore
import Derived.Outline
import Derived.Test.YtgpmdhdooglkfaaM23
import Derived.Maps.AppendAt
import Derived.Test.YtgpmdhdooglkfaaM21
namespace Go.Proofs.Ytgpmdhdooglkfaa
set_option maxRecDepth 100000
set_option linter.unusedVariables false
set_option linter.unusedSimpArgs false
open Go.ChangeShapes Go.WideShapes Go.ChangeAt Go.RowKit
set_option linter.unusedVariables false
set_option linter.unusedSimpArgs false

/-- At the beginning: the first one is seen. -/
def StartOut (n : Nat) (w : World) (e : Ending) (w' : World) : Prop := ∃ g, e = .returned (.slice (some ⟨g, 0, none⟩) (n + 1) (n + 1)) ∧ w.heap.size ≤ g ∧ OwnIn w' w.heap.size g (⟨true, none, 0, []⟩ :: List.replicate n ⟨false, none, 0, []⟩) ∧ Below w.heap.size w w'
theorem own_first {w : World} {B g n : Nat} (h : OutIn w g (⟨true, none, 0, []⟩ :: List.replicate n ⟨false, none, 0, []⟩)) (hB : B ≤ g) : OwnIn w B g (⟨true, none, 0, []⟩ :: List.replicate n ⟨false, none, 0, []⟩) := by
  have hall : ∀ i (hi : i < (⟨true, none, 0, []⟩ :: List.replicate n (⟨false, none, 0, []⟩ : Shx)).length), ((⟨true, none, 0, []⟩ :: List.replicate n (⟨false, none, 0, []⟩ : Shx))[i]).stack = [] := fun i hi => by
    have hm := List.getElem_mem hi
    rcases List.mem_cons.mp hm with e | e
    · rw [e]
    · rw [(List.mem_replicate.mp e).2]
  exact ⟨h, hB, fun i hi q => absurd (hall i hi) q, fun i j hi hj _ q _ => absurd (hall i hi) q⟩
theorem tstart_any (n : Nat) (hn : n ≤ 1000) (w : World) : Calls Try.prog 31 #[.int .i64 ((n + 1 : Nat) : Int)] w (StartOut n w) := by
  obtain ⟨tyi, hi, hz0, hz1, hz2⟩ := info_partsK info_shape
  obtain ⟨k, hk⟩ : ∃ k, n + 1 = k := ⟨_, rfl⟩
  have HK := Lib.hid hk
  have hk0 : (k : Int) > 0 := by omega
  rw [hk]
  clear hk
  go_enter Try.func31, Try.ntmps31
  go_upto_region 2 with (at_make; refine wpList_make_full _ rfl _ _ 42 rfl w.heap.size 44 tyi (.agg #[.bool false, .slice none 0 0]) 2 Try.underlying42 hi hz0 hz1 .i64 .i64 _ _ k rfl rfl rfl rfl (by rw [hz2]; have := HK.out; omega) (by unfold maxLen; have := HK.out; omega) (Nat.le_refl _) ?_; intro w2 hown hgrow; have HO2 := Lib.hid hown; have HB2 := Lib.hid ((Below.refl w.heap.size w).grown hgrow (Nat.le_refl _) (fun k hk => by cases hk)); clear hown hgrow)
  have HQ2 : Hid (OutIn w2 w.heap.size (⟨false, none, 0, []⟩ :: List.replicate n ⟨false, none, 0, []⟩)) := Lib.hid (by
    have h1 := own_whole HO2.out
    rw [made_shapes, ← HK.out] at h1
    exact ⟨h1, fun y hy => by
      rcases List.mem_cons.mp hy with q | q
      · rw [q]; exact slc_none
      · rw [(List.mem_replicate.mp q).2]; exact slc_none⟩)
  have s0 := HQ2.out.seen_at (i := 0) (by simp)
  have f0 := HQ2.out.blk.free 0
  have s0 : w2.cell? ⟨w.heap.size, 0, none⟩ = some (.bool false) := s0
  have hk1 : 0 < k := by omega
  go_wp2_with fail
  go_ret
  refine ⟨w.heap.size, (by rw [HK.out]; rfl), Nat.le_refl _, own_first (out_first (n := n) HQ2.out) (Nat.le_refl _), HB2.out.setCell (p := ⟨w.heap.size, 0, none⟩) (Nat.le_refl _) _⟩
theorem tstart_is {k n : Nat} {w : World} (HK : Hid (k = n + 1)) (hn : n ≤ 1000) : Calls Try.prog 31 #[.int .i64 (k : Int)] w fun e w' => ∃ g, e = .returned (.slice (some ⟨g, 0, none⟩) k k) ∧ w.heap.size ≤ g ∧ OwnIn w' w.heap.size g (⟨true, none, 0, []⟩ :: List.replicate n ⟨false, none, 0, []⟩) ∧ Below w.heap.size w w' := by
  rw [HK.out]
  exact tstart_any n hn w
theorem fstep_mo {m : Img} {h : Hnd} {f pc : Int} {st L : List (Int × Int)} {NL : List Int} {er : Int} {A : Option Addr} {cap n : Nat} {w0 w : World} (HI : Hid (ImgIn w0 w0.heap.size h m)) (HX : Hid (Below w0.heap.size w0 w)) (HM : Hid (SaneI m)) (HN : Hid (st.length = n)) (HS : Hid (SlcIs TyAt 2 w w.heap.size A cap st)) (hs : n ≤ 4000) (HR : Hid (stepOf m f pc st = ⟨L, NL, er⟩)) :
    Calls Try.prog 32 #[imgV h m, .int .i64 f, .int .i64 pc, .slice A n cap] w fun e w' => ∃ A c A' c', e = .returned (.tuple #[.slice A L.length c, .slice A' NL.length c', .int .i64 er]) ∧ SlcIs TyAt 2 w' w'.heap.size A c L ∧ SlcIs IntAt 1 w' w'.heap.size A' c' NL ∧ (∀ ad, A = some ad → w.heap.size ≤ ad.block) ∧ (∀ ad, A' = some ad → w.heap.size ≤ ad.block) ∧ Below w.heap.size w w' := by
  obtain rfl := HN.out
  have H := fstep_own m f pc st A cap h w (HI.out.now HX.out) HM.out HS.out hs
  rw [HR.out] at H
  exact H
/-- What typesOf answers. -/
def TypesOut (m : Img) (f : Nat) (w : World) (e : Ending) (w' : World) : Prop := ∃ (A : Option Addr) (n c : Nat) (pc : Int) (ok : Bool), e = .returned (.tuple #[.slice A n c, .int .i64 pc, .bool ok]) ∧ Below w.heap.size w w' ∧ (ok = false → ∀ R, rightS m (f : Int) R = false) ∧
  (ok = true → ∃ g X, A = some ⟨g, 0, none⟩ ∧ n = X.length ∧ c = X.length ∧ w.heap.size ≤ g ∧ OutIn w' g X ∧ LeastS m (f : Int) (X.map Shx.shp))
theorem types_bad {m : Img} {f : Nat} {w w' : World} {pc : Int} (hb : Below w.heap.size w w') (h : ∀ R, rightS m (f : Int) R = false) : TypesOut m f w (.returned (.tuple #[.slice none 0 0, .int .i64 pc, .bool false])) w' := ⟨none, 0, 0, pc, false, rfl, hb, fun _ => h, fun e => by cases e⟩
theorem tcome_is {m : Img} {h : Hnd} {f B g nC R p q tg n : Nat} {w0 w1 w : World} {st L : List (Int × Int)} {NL : List Int} {A7 A8 : Option Addr} {c7 c8 : Nat} {X : List Shx} (HI : Hid (ImgIn w0 w0.heap.size h m)) (HB : Hid (B = w1.heap.size ∧ Below w0.heap.size w0 w1)) (HM : Hid (SaneI m)) (HN : Hid (NxInv m f B g nC R p q w1 st L NL A7 A8 c7 c8 X w)) (HS : Hid (StepWell m f p nC st L NL)) (HT : Hid (p < nC ∧ nC ≤ 1000 ∧ tg < X.length ∧ X.length = n)) :
    Calls Try.prog 33 #[.slice h.A0 m.classes.length h.c0, .slice (some ⟨g, 0, none⟩) n n, .int .i64 tg, .slice A7 L.length c7] w fun e w' => ∃ y, X[tg]? = some y ∧ ComeOut (supsOf m.classes) B g tg X y L w e w' := by
  obtain ⟨hp, hc, htg, hn⟩ := HT.out
  obtain ⟨hB, hb01⟩ := HB.out
  have hBz : B ≤ w.heap.size := by rw [hB]; exact HN.out.inv.below.size
  have hb : Below w0.heap.size w0 w := hb01.trans (HN.out.inv.below.mono (by rw [hB]; exact hb01.size))
  have hsup := supers_of (HI.out.now hb).classes.row
  have hsup0 := supers_of HI.out.classes.row
  have hml : m.classes.length ≤ 1000 := by have := HM.out.fits.cl; omega
  have hself : FitsAll (supsOf m.classes) X[tg].stack X[tg].stack := by
    have := HN.out.inv.low.self _ (shpN_mem (S := X.map Shx.shp) (i := tg) (by rw [List.length_map]; exact htg))
    rw [shpN_map htg] at this
    exact this
  have H := tcome_any (supsOf m.classes) h.A0 h.c0 B g tg X X[tg] L A7 c7 w (by rw [supsOf_len]; exact hml) (fun i s hi => by obtain ⟨ad, e, h1, h2⟩ := hsup0.below_to (C := w0.heap.size) hb (Nat.le_refl _) i s hi; exact ⟨ad, e, by have := hb01.size; omega, h2⟩) hBz HN.out.inv.own htg rfl (by rw [HN.out.inv.len]; exact hc) HN.out.ty (by have := HS.out.few; omega)
    (fun ad ax e1 e2 hs hn1 hn2 e3 => ((HN.out.far7 hn2 ad e1).2.2 tg htg hn1 ax e2) e3.symm) hself (HN.out.fitsL HM.out HS.out hp)
  rw [supsOf_len, hn] at H
  exact H.mono fun e w' h => ⟨X[tg], List.getElem?_eq_getElem htg, h⟩
set_option maxHeartbeats 12800000 in
theorem ttypes_any (m : Img) (x : Mth) (f : Nat) (h : Hnd) (w : World) (H : ImgIn w w.heap.size h m) (hm : SaneI m) (hx : m.methods[f]? = some x) :
    Calls Try.prog 16 #[imgV h m, .int .i64 f] w (TypesOut m f w) := by
  have HW := Lib.hid (below_box (w := w) (h := h) (m := m))
  have HBX := Lib.hid (img_box w h m)
  have HZ : Hid (w.heap.size < (w.alloc (imgO h m)).heap.size) := Lib.hid (by simp)
  have HI := Lib.hid (H.now HW.out)
  have HM := Lib.hid hm
  have HG := Lib.hid hx
  have hle := H.methods.le
  have hcap := H.methods.cap
  have hxm := hm.method (List.mem_of_getElem? hx)
  have hxl : x.code.length ≤ 1000 := by have := hxm.fits.cl; omega
  have hxp := hxm.cp
  have hfl := (List.getElem?_eq_some_iff.mp hx).1
  have hfe := (List.getElem?_eq_some_iff.mp hx).2
  obtain ⟨ad, A4c, j4, ea, hab, hc4⟩ := img_mcode HI.out hfl
  rw [hfe] at hc4
  obtain ⟨A0, Ab, A2, A3, A4, k0, k1, k2, k3, k4⟩ := h
  dsimp only at ea hle hcap
  subst ea
  have hcN : mthN m (f : Int) = x := by unfold mthN; rw [Int.toNat_natCast, hx]; rfl
  have HCN := Lib.hid hcN
  obtain ⟨nC, hnC⟩ : ∃ n, x.code.length = n := ⟨_, rfl⟩
  obtain ⟨n1, hn1⟩ : ∃ n, nC = n + 1 := ⟨nC - 1, by omega⟩
  have HL := Lib.hid hn1
  have HNC := Lib.hid hnC
  have hn1l : n1 ≤ 1000 := by omega
  have hnl : nC ≤ 1000 := by omega
  rw [hnC] at hc4
  clear H hm hx hxm hfe hcN hn1 hnC hxp hxl
  go_enter Try.func16, Try.ntmps16
  go_wp2_with fail
  go_step3
  change Code.wp _ _ _ _ (w.alloc (imgO ⟨A0, Ab, A2, some ad, A4, k0, k1, k2, k3, k4⟩ m))
  generalize w.alloc (imgO ⟨A0, Ab, A2, some ad, A4, k0, k1, k2, k3, k4⟩ m) = w1 at *
  obtain ⟨q0, q1, q2, q3, q4, q5, q6⟩ := HBX.out
  go_wp2_with (go_at_call 31; (with_reducible refine (tstart_is HL hn1l).mono ?_); rintro e w2 ⟨g, rfl, hg, ho, hb⟩; have HO2 := Lib.hid ho; have HB2 := Lib.hid hb; have HGE := Lib.hid hg; clear ho hb hg)
  go_step3
  go_wp2_with fail
  have HINV : Hid (TyInv m f w1.heap.size g nC (rankA (supsOf m.classes).length ((⟨true, none, 0, []⟩ :: List.replicate n1 (⟨false, none, 0, []⟩ : Shx)).map Shx.shp)) w1 (⟨true, none, 0, []⟩ :: List.replicate n1 (⟨false, none, 0, []⟩ : Shx)) w2) := Lib.hid ⟨by rw [HL.out]; simp, Nat.le_refl _, HO2.out, by
    have e : ((⟨true, none, 0, []⟩ :: List.replicate n1 (⟨false, none, 0, []⟩ : Shx)).map Shx.shp) = ⟨true, []⟩ :: List.replicate n1 (⟨false, []⟩ : Shp) := by simp [Shx.shp]
    rw [e]
    exact low_start (by rw [HCN.out, HNC.out, HL.out]), HB2.out⟩
  have HBB : Hid (w1.heap.size = w1.heap.size ∧ Below w1.heap.size w1 w1) := Lib.hid ⟨rfl, Below.refl _ _⟩
  have HQ : Hid (∀ W, Below w1.heap.size w1 W → W.cell? ⟨w.heap.size, 0, none⟩ = some (.slice A0 m.classes.length k0) ∧ W.cell? ⟨w.heap.size, 1, none⟩ = some (.slice Ab m.statics.length k1) ∧ W.cell? ⟨w.heap.size, 2, none⟩ = some (.slice A2 m.ints.length k2) ∧ W.cell? ⟨w.heap.size, 3, none⟩ = some (.slice (some ad) m.methods.length k3) ∧ W.cell? ⟨w.heap.size, 4, none⟩ = some (.slice A4 m.entries.length k4) ∧ W.cell? ⟨w.heap.size, 5, none⟩ = some (.int .i64 m.stack) ∧ W.cell? ⟨w.heap.size, 6, none⟩ = some (.int .i64 m.heap)) := Lib.hid (fun W hW => HBX.out.keep hW HZ.out)
  generalize rankA (supsOf m.classes).length ((⟨true, none, 0, []⟩ :: List.replicate n1 (⟨false, none, 0, []⟩ : Shx)).map Shx.shp) = R0 at *
  generalize (⟨true, none, 0, []⟩ :: List.replicate n1 (⟨false, none, 0, []⟩ : Shx)) = X0 at *
  clear q0 q1 q2 q3 q4 q5 q6 hc4 hab HO2 HB2
  go_loopg [4] R0 (fun R s4 wr => ∃ X, s4 = .slice (some ⟨g, 0, none⟩) nC nC ∧ Hid (TyInv m f w1.heap.size g nC R w1 X wr))
  case atStart => exact ⟨X0, rfl, HINV⟩
  case round =>
    clear HINV
    obtain ⟨X, rfl, HINV⟩ := hrel
    obtain ⟨R, hR⟩ : ∃ R, R = gk := ⟨_, rfl⟩
    subst hR
    obtain ⟨wo, hwo⟩ : ∃ W, W = wr := ⟨_, rfl⟩
    subst hwo
    go_wp2_with fail
    go_loopg [4, 26] nC (fun kk s4 i wq => ∃ (p : Nat) (X : List Shx), p + kk = nC ∧ i = .int .i64 p ∧ s4 = .slice (some ⟨g, 0, none⟩) nC nC ∧ Hid (TyInv m f w1.heap.size g nC R w1 X wq) ∧ Hid (∀ p' : Nat, p' < p → placeB m (f : Int) (X.map Shx.shp) (p' : Int) = true))
    case atStart => exact ⟨0, X, by omega, rfl, rfl, HINV, Lib.hid (fun p' h => by omega)⟩
    case round =>
      clear HINV
      obtain ⟨p, X, hpk, rfl, rfl, HINV, HBK⟩ := hrel
      obtain ⟨km, hkm⟩ : ∃ R, R = gk := ⟨_, rfl⟩
      subst hkm
      by_cases hp : p < nC
      rotate_left
      · have hki : ¬ (p : Int) < (nC : Int) := by omega
        have HPE : Hid (p = nC) := Lib.hid (by omega)
        go_wp2_with fail
        try rw [Exit.noGoto_ret]
        go_ret3
        refine ⟨some ⟨g, 0, none⟩, nC, nC, 0, true, rfl, HW.out.trans (HINV.out.below.mono (Nat.le_of_lt HZ.out)), (fun e => by cases e), fun _ => ⟨g, X, rfl, HINV.out.len.symm, HINV.out.len.symm, Nat.le_trans (Nat.le_of_lt HZ.out) HINV.out.own.base, HINV.out.own.out, ?_, fun Q hQ => HINV.out.low.over hQ, HINV.out.low.small⟩⟩
        exact HINV.out.low.done (by rw [List.length_map, HINV.out.len, HL.out]; omega) (fun pc hpc => HBK.out pc (by rw [List.length_map, HINV.out.len] at hpc; rw [HPE.out]; exact hpc))
      have hki : (p : Int) < (nC : Int) := by omega
      have hpX : p < X.length := by rw [HINV.out.len]; exact hp
      have c0 := HINV.out.own.out.seen_at hpX
      have c1 := HINV.out.own.out.stack_at hpX
      have hpn : shpN (X.map Shx.shp) (p : Int) = X[p].shp := shpN_map hpX
      have HSL := Lib.hid (HINV.out.own.out.row _ (List.getElem_mem hpX))
      have hsm : X[p].stack.length ≤ 8 := HINV.out.low.small X[p].shp (List.mem_map.mpr ⟨_, List.getElem_mem hpX, rfl⟩)
      obtain ⟨⟨ys, yA, yc, yst⟩, hy⟩ : ∃ y, X[p] = y := ⟨_, rfl⟩
      rw [hy] at c0 c1 hpn HSL hsm
      dsimp only [Shx.shp] at c0 c1 hpn HSL hsm
      have HPN := Lib.hid hpn
      clear hpn hy
      have HNA : Hid (Below wr.heap.size wr (wr.alloc (.cells #[.bool ys, .slice yA yst.length yc] 44))) := Lib.hid ((Below.refl _ _).alloc (Nat.le_refl _) _)
      have HBS := Lib.hid (Whole.new wr [.bool ys, .slice yA yst.length yc] 44)
      go_upto_region 5 with fail
      change Code.wp _ _ _ _ (wr.alloc (.cells #[.bool ys, .slice yA yst.length yc] 44))
      have HBS : Hid (Whole (wr.alloc (.cells #[.bool ys, .slice yA yst.length yc] 44)) wr.heap.size [.bool ys, .slice yA yst.length yc] 44) := HBS
      clear c0 c1
      generalize wr.alloc (.cells #[.bool ys, .slice yA yst.length yc] 44) = w3 at *
      have b0 : w3.cell? ⟨wr.heap.size, 0, none⟩ = some (.bool ys) := HBS.out.cells 0 _ rfl
      have b1 : w3.cell? ⟨wr.heap.size, 1, none⟩ = some (.slice yA yst.length yc) := HBS.out.cells 1 _ rfl
      have HINV3 := Lib.hid (HINV.out.keep (Nat.le_refl _) HNA.out)
      have HX3 := Lib.hid HINV3.out.below
      by_cases hse : ys = true
      rotate_left
      · have hse' : ys = false := by simpa using hse
        subst hse'
        have HBK2 : Hid (∀ p' : Nat, p' < p + 1 → placeB m (f : Int) (X.map Shx.shp) (p' : Int) = true) := Lib.hid (fun p' h => by
          rcases Nat.lt_or_ge p' p with z | z
          · exact HBK.out p' z
          · obtain rfl : p' = p := by omega
            unfold placeB
            rw [HPN.out]
            rfl)
        clear hse
        go_wp2_with fail
        go_roundg (km - 1)
        case rel => exact ⟨p + 1, X, by omega, by go_num, rfl, HINV3, HBK2⟩
        case measure => omega
      subst hse
      obtain ⟨q0, q1, q2, q3, q4, q5, q6⟩ := HQ.out _ HX3.out
      obtain ⟨⟨L, NL, er⟩, hrs⟩ : ∃ r, stepOf m (f : Int) (p : Int) yst = r := ⟨_, rfl⟩
      have HRS := Lib.hid hrs
      have HST3 := Lib.hid (slcNow2 TyAt.keeps HSL.out HNA.out)
      clear hrs
      go_upto_region 7 with (go_at_call 32; (with_reducible refine (fstep_mo HI HX3 HM (Lib.hid rfl) HST3 (Nat.le_trans hsm (by decide)) HRS).mono ?_); rintro e w6 ⟨A7, c7, A8, c8, rfl, hs7, hs8, hn7, hn8, hb⟩; have H7 := Lib.hid hs7; have H8 := Lib.hid hs8; have HN7 := Lib.hid hn7; have HN8 := Lib.hid hn8; have HV6 := Lib.hid hb; clear hs7 hs8 hn7 hn8 hb)
      clear q0 q1 q2 q3 q4 q5 q6 b0 b1
      have hpm : p < (X.map Shx.shp).length := by rw [List.length_map]; exact hpX
      have HPM := Lib.hid hpm
      clear hpm
      by_cases her : er = 0
      rotate_left
      · have hne : (er != 0) = true := by simpa using her
        have HER := Lib.hid her
        clear her
        go_wp2_with fail
        rw [Exit.noGoto_ret]
        go_ret3
        exact types_bad (HW.out.trans ((HX3.out.trans (HV6.out.mono HX3.out.size)).mono (Nat.le_of_lt HZ.out))) (HINV.out.low.none_err HM.out HPM.out (by rw [HPN.out]) (by rw [HPN.out]; show ¬ (stepOf m (f : Int) (p : Int) yst).err = 0; rw [HRS.out]; exact HER.out))
      subst her
      have HWELL : Hid (StepWell m f p nC yst L NL) := Lib.hid (by
        have := stepWell_of HM.out HG.out (by rw [HNC.out]; exact hp) HRS.out
        rwa [HNC.out] at this)
      have HNX : Hid (NxInv m f w1.heap.size g nC R p 0 w1 yst L NL A7 A8 c7 c8 X w6) := Lib.hid (nx_start HINV3.out (Nat.le_refl _) HV6.out HPN.out HBK.out H7.out H8.out HN7.out HN8.out)
      have hm1 := H8.out.le
      have hm2 := H8.out.cap
      have hm3 := H7.out.le
      have hm4 := H7.out.cap
      clear H7 H8 HN7 HN8
      go_wp2_with fail
      obtain ⟨wi, hwi⟩ : ∃ W, W = wr := ⟨_, rfl⟩
      subst hwi
      go_loopg [4, 49] NL.length (fun kk s4 i wq => ∃ (q : Nat) (X : List Shx), q + kk = NL.length ∧ i = .int .i64 q ∧ s4 = .slice (some ⟨g, 0, none⟩) nC nC ∧ Hid (NxInv m f w1.heap.size g nC R p q w1 yst L NL A7 A8 c7 c8 X wq))
      case atStart => exact ⟨0, X, by omega, rfl, rfl, HNX⟩
      case round =>
        clear HNX HINV HINV3 HBK HPM HPN HX3 HST3 HNA HBS HSL hpX HV6
        clear X
        obtain ⟨q, X, hqk, rfl, rfl, HNX⟩ := hrel
        by_cases hq : q < NL.length
        rotate_left
        · have hki2 : ¬ (q : Int) < (NL.length : Int) := by omega
          have HQE : Hid (q = NL.length) := Lib.hid (by omega)
          have HPL : Hid (∀ p' : Nat, p' < p + 1 → placeB m (f : Int) (X.map Shx.shp) (p' : Int) = true) := Lib.hid (by
            have h := HNX.out
            rw [HQE.out] at h
            exact h.place HWELL.out)
          have HINV := Lib.hid HNX.out.inv
          go_wp2_with fail
          go_roundg (km - 1)
          case rel => exact ⟨p + 1, X, by omega, by go_num, rfl, HINV, HPL⟩
          case measure => omega
        have hki2 : (q : Int) < (NL.length : Int) := by omega
        obtain ⟨adN, eA8, habN, v0⟩ := HNX.out.nx.row.at_ hq
        have v0 : wr.cell? (adN.add q) = some (.int .i64 NL[q]) := by have := v0; rw [Nat.mul_one] at this; exact this
        obtain ⟨nr0, nr1⟩ := HWELL.out.next _ (List.getElem_mem hq)
        have HMEM := Lib.hid (List.getElem_mem hq)
        obtain ⟨tg, htg⟩ := Int.eq_ofNat_of_zero_le nr0
        rw [htg] at v0
        have HTG := Lib.hid htg
        have hXn := HNX.out.inv.len
        have htX : tg < X.length := by omega
        have HT : Hid (p < nC ∧ nC ≤ 1000 ∧ tg < X.length ∧ X.length = nC) := Lib.hid ⟨hp, hnl, htX, hXn⟩
        have HXN := Lib.hid hXn
        obtain ⟨q0, q1, q2, q3, q4, q5, q6⟩ := HQ.out _ HNX.out.inv.below
        clear nr0 nr1 hXn htg
        subst eA8
        go_upto_region 13 with (go_at_call 33; (with_reducible refine (tcome_is HI (Lib.hid ⟨rfl, Below.refl _ _⟩) HM HNX HWELL HT).mono ?_); rintro e w9 ⟨y, hy, gr, ok, rfl, hb, hsb, hbad, hok⟩; have HY := Lib.hid hy; have HB9 := Lib.hid hb; have HSB := Lib.hid hsb; have HBAD := Lib.hid hbad; have HOK := Lib.hid hok; clear hy hb hsb hbad hok)
        have hyx : X[tg] = y := by
          have := HY.out
          rw [List.getElem?_eq_getElem htX] at this
          exact Option.some.inj this
        have HYX := Lib.hid hyx
        clear hyx q0 q1 q2 q3 q4 q5 q6 v0
        cases ok
        · go_wp2_with fail
          try rw [Exit.noGoto_ret]
          go_ret3
          exact types_bad (HW.out.trans ((HNX.out.inv.below.trans HB9.out).mono (Nat.le_of_lt HZ.out))) (HNX.out.bad HM.out HWELL.out hp htX (by have := HMEM.out; rw [HTG.out] at this; exact this) (by rw [HYX.out]; exact HBAD.out (by simp)))
        · obtain ⟨x', hx', ho, hc, h1, h2⟩ := HOK.out (by simp)
          have HX' := Lib.hid hx'
          have HO9 := Lib.hid ho
          have HC9 := Lib.hid hc
          have H12 := Lib.hid (And.intro h1 h2)
          clear hx' ho hc h1 h2 HOK HBAD
          have HSTEP : Hid ((gr = true → p < tg) → NxInv m f w1.heap.size g nC R p (q + 1) w1 yst L NL A7 (some adN) c7 c8 (X.set tg x') w9) := Lib.hid (fun hgr =>
            HNX.out.step (Nat.le_refl _) HM.out HWELL.out hp hq HTG.out htX HX'.out HB9.out (by rw [HYX.out]; exact HSB.out) HO9.out (by rw [HYX.out]; exact HC9.out) (by rw [HYX.out]; exact H12.out.1) (by rw [HYX.out]; exact H12.out.2) hgr)
          cases gr
          · have HNX2 := Lib.hid (HSTEP.out (fun e => by cases e))
            go_wp2_with fail
            go_roundg (gk - 1)
            case rel => exact ⟨q + 1, X.set tg x', by omega, by go_num, rfl, HNX2⟩
            case measure => omega
          · by_cases hle : tg ≤ p
            · have HAG : Hid (rankA (supsOf m.classes).length ((X.set tg x').map Shx.shp) < R ∧ TyInv m f w1.heap.size g nC R w1 (X.set tg x') w9) := Lib.hid (by
                obtain ⟨S', e1, e2, e3, _, e5⟩ := HNX.out.come (tg := tg) (gr := true) (Nat.le_refl _) HM.out HWELL.out hp htX (by have := HMEM.out; rw [HTG.out] at this; exact this) HX'.out HB9.out HO9.out (by rw [HYX.out]; exact HC9.out)
                exact ⟨by rw [e1]; exact e3 rfl, e5⟩)
              have hle2 : (tg : Int) ≤ (p : Int) := by omega
              go_wp2_with fail
              go_roundg (rankA (supsOf m.classes).length ((X.set tg x').map Shx.shp))
              case rel => exact ⟨X.set tg x', rfl, Lib.hid (HAG.out.2.lower (Nat.le_refl _))⟩
              case measure => exact HAG.out.1
            · have HNX2 := Lib.hid (HSTEP.out (fun _ => by omega))
              have hle2 : ¬ (tg : Int) ≤ (p : Int) := by omega
              go_wp2_with fail
              go_roundg (gk - 1)
              case rel => exact ⟨q + 1, X.set tg x', by omega, by go_num, rfl, HNX2⟩
              case measure => omega
end Go.Proofs.Ytgpmdhdooglkfaa
namespace Go.Proofs.Ytgpmdhdooglkfaa
set_option maxRecDepth 100000
set_option linter.unusedVariables false
set_option linter.unusedSimpArgs false
open Go.ChangeShapes Go.WideShapes Go.ChangeAt Go.RowKit
set_option linter.unusedVariables false

/-- No cell of a row's block is a number. -/
def Dry (w : World) (v : Value) : Prop := ∀ g, v.ownBlock = some g → ∀ q : Addr, q.block = g → ∀ k x, ¬ w.cell? q = some (.int k x)
theorem dry_of {w : World} {g : Nat} {arr : Array Value} {e : TypeId} {fz : Nat × Nat} (h : w.heap[g]? = some (.cells arr e fz)) (hn : ∀ u ∈ arr.toList, ∀ k x, u ≠ .int k x) : ∀ q : Addr, q.block = g → ∀ k x, ¬ w.cell? q = some (.int k x) := by
  intro q hq k x hc
  unfold World.cell? at hc
  rw [hq, h] at hc
  dsimp only at hc
  split at hc
  · cases hc
  · exact hn _ (Array.mem_toList_iff.mpr (Array.mem_of_getElem? hc)) _ _ rfl
theorem dry_in {w : World} {g : Nat} {arr : Array Value} {e : TypeId} {fz : Nat × Nat} (h : w.heap[g]? = some (.cells arr e fz)) (hd : ∀ q : Addr, q.block = g → ∀ k x, ¬ w.cell? q = some (.int k x)) : ∀ u ∈ arr.toList, ∀ k x, u ≠ .int k x := by
  intro u hu k x e
  subst e
  obtain ⟨j, hj⟩ := List.mem_iff_getElem?.mp hu
  refine hd ⟨g, j, none⟩ rfl k x ?_
  unfold World.cell?
  dsimp only
  rw [h]
  dsimp only
  rw [← Array.getElem?_toList, hj]
  rfl
theorem dry_zeros (n : Nat) : ∀ u ∈ (Builtin.zeroCells (Value.slice none 0 0).cells n).toList, ∀ k x, u ≠ .int k x := by
  intro u hu k x e
  subst e
  unfold Builtin.zeroCells at hu
  simp [Value.cells] at hu
  obtain ⟨a, _, h⟩ := hu
  rw [Nat.mod_one] at h
  simp at h
theorem Dry.below {w w' : World} {v : Value} (h : Dry w v) (hv : ∀ g, v.ownBlock = some g → g < w.heap.size) (hb : Below w.heap.size w w') : Dry w' v := fun g hg q hq k x => by
  rw [hb.cell (by rw [hq]; exact hv g hg)]
  exact h g hg q hq k x
theorem dry_empty (w : World) (T : TypeId) : Dry (w.alloc (.cells #[] T)) (.slice (some ⟨w.heap.size, 0, none⟩) 0 0) := fun g hg => by
  simp [Value.ownBlock] at hg
  subst hg
  exact dry_of (heap_alloc_new _ _) (fun u hu => by simp at hu)
theorem run_append_dry {P : Program} (w : World) (base : Nat) (t ty e : TypeId) (i : TypeInfo) (bytes : Nat) (ht : P.underlying t = some (.slice e)) (hi : P.info? e = some i) (hz : i.zero = some (.slice none 0 0))
    (hsize : i.size = 1) (hby : i.bytes = bytes) (v : Value) (n : Nat) (xs : List Value) (hown : w.ownsRow base e 1 v n xs) (hd : Dry w v)
    (a : Addr) (c : Nat) (A' : Option Addr) (n' c' : Nat) (hnews : w.cell? (a.add 0) = some (.slice A' n' c'))
    (h63 : n + 1 ≤ maxLen) (hbytes : (n + 1) * bytes ≤ 140737488355328) (hbase : base ≤ w.heap.size) :
    ∃ g cap w', (Builtin.append_ #[t, t] ty #[v, .slice (some a) 1 c]).run P w = .ok (.slice (some ⟨g, 0, none⟩) (n + 1) cap) w' ∧ w'.ownsRow base e 1 (.slice (some ⟨g, 0, none⟩) (n + 1) cap) (n + 1) (xs ++ [.slice A' n' c']) ∧
      w.grownBy w' v.ownBlock ∧ (v.ownBlock = some g ∨ g = w.heap.size) ∧ g < w'.heap.size ∧ Dry w' (.slice (some ⟨g, 0, none⟩) (n + 1) cap) := by
  have hnw : ∀ j u, [Value.slice A' n' c'][j]? = some u → w.cell? (a.add j) = some u := fun j u hj => by
    match j, hj with
    | 0, hj => simp at hj; subst hj; exact hnews
    | j + 1, hj => simp at hj
  have h1 : ∀ u ∈ [Value.slice A' n' c'], u.oneCell' = true := fun u hu => by simp at hu; subst hu; rfl
  have hsmall : n + 1 ≤ 9223372036854775807 := by simp only [maxLen] at h63; omega
  obtain ⟨v', w', hr, h2, h3, h4, h5⟩ := run_append_own_at (P := P) w base t ty e i (.slice none 0 0) 1 bytes ht hi hz hsize hby rfl (by decide) v n xs hown a 1 c [.slice A' n' c'] rfl hnw h1 h63 hbytes hbase
  have hnot : ∀ u : Value, u = .slice A' n' c' → ∀ k x, u ≠ .int k x := fun u hu k x e => by rw [hu] at e; cases e
  obtain ⟨g, cap, rfl, hlt⟩ : ∃ g cap, v' = .slice (some ⟨g, 0, none⟩) (n + 1) cap ∧ g < w'.heap.size := by
    rcases h2.2 with ⟨_, q⟩ | ⟨g, cap, cur, e1, _, hg, _⟩
    · omega
    · exact ⟨g, cap, e1, (Array.getElem?_eq_some_iff.1 hg).1⟩
  refine ⟨g, cap, w', hr, h2, h3, ?_, hlt, fun g' hg' => ?_⟩
  · rcases h5 with h5 | h5
    · exact .inl (h5.symm.trans rfl)
    · simp [Value.ownBlock] at h5
      exact .inr h5
  · simp [Value.ownBlock] at hg'
    subst hg'
    rcases hown.2 with ⟨rfl, rfl⟩ | ⟨gv, capv, cur, rfl, hbg, hg, hnc, hcm, hcs, htake⟩
    · have hq := run_append_nil (P := P) w t ty e i (.slice none 0 0) ht hi hz a 1 c [.slice A' n' c'] (by rw [hsize]; rfl) hnw (by decide) (by decide) (by rw [hby]; omega)
      rw [hr] at hq
      injection hq with q1 q2
      injection q1 with q1
      injection q1 with q1
      simp at q1
      subst q1 q2
      refine dry_of (heap_alloc_new w.drew _) fun u hu => ?_
      simp only [Array.toList_append] at hu
      rcases List.mem_append.mp hu with hu | hu
      · simp at hu; exact hnot u hu
      · exact dry_zeros _ u hu
    · have hcd := dry_in hg (hd gv rfl)
      by_cases hroom : n + 1 ≤ capv
      · have hq := run_append_room (P := P) w t ty e i ht hi gv n capv cur hg a 1 c [.slice A' n' c'] (by rw [hsize]; rfl) hnw h1 hroom (by rw [hsize, hcs]; simp; omega)
        rw [hr] at hq
        injection hq with q1 q2
        injection q1 with q1
        injection q1 with q1
        simp at q1
        subst q1 q2
        refine dry_of (setRow_heap w _ cur _ e _ hg) fun u hu => ?_
        simp only [List.append_assoc] at hu
        rcases List.mem_append.mp hu with hu | hu
        · exact hcd u (List.mem_of_mem_take hu)
        · rcases List.mem_append.mp hu with hu | hu
          · simp at hu; exact hnot u hu
          · exact hcd u (List.mem_of_mem_drop hu)
      · have holds : ∀ j u, xs[j]? = some u → w.cell? ((⟨gv, 0, none⟩ : Addr).add j) = some u := hown.cells (g := gv) rfl
        have hq := run_append_grow (P := P) w t ty e i (.slice none 0 0) ht hi hz ⟨gv, 0, none⟩ n capv xs (by rw [hsize]; exact hown.1) holds a 1 c [.slice A' n' c'] (by rw [hsize]; rfl) hnw (by omega) (by omega) (growslice_fits (by omega) (by rw [hby]; exact hbytes))
        rw [hr] at hq
        injection hq with q1 q2
        injection q1 with q1
        injection q1 with q1
        simp at q1
        subst q1 q2
        refine dry_of (heap_alloc_new w.drew _) fun u hu => ?_
        simp only [Array.toList_append] at hu
        rcases List.mem_append.mp hu with hu | hu
        · rcases List.mem_append.mp hu with hu | hu
          · exact hcd u (by rw [← htake] at hu; exact List.mem_of_mem_take (by simpa using hu))
          · simp at hu; exact hnot u hu
        · exact dry_zeros _ u hu
theorem append_dry {P : Program} {w : World} {ops : Array Oper} {rest : List Oper} {o : Oper} {a : Act} {Q : Exit → Act → World → Prop} (hgd : o.guard = none) (s x : Operand) (t : TypeId)
    (ho : o.op = .call { callee := .builtin .append, args := #[s, x], argTypes := #[t, t] })
    (base : Nat) (e : TypeId) (i : TypeInfo) (bytes : Nat) (ht : P.underlying t = some (.slice e)) (hi : P.info? e = some i) (hz : i.zero = some (.slice none 0 0))
    (hsize : i.size = 1) (hby : i.bytes = bytes) (v : Value) (n : Nat) (xs : List Value) (hs : a.eval s = v) (hown : w.ownsRow base e 1 v n xs) (hd : Dry w v)
    (ad : Addr) (c : Nat) (A' : Option Addr) (n' c' : Nat) (hx : a.eval x = .slice (some ad) 1 c) (hnews : w.cell? (ad.add 0) = some (.slice A' n' c'))
    (h63 : n + 1 ≤ maxLen) (hbytes : (n + 1) * bytes ≤ 140737488355328) (hbase : base ≤ w.heap.size) (H : Nat) (hH : w.heap.size = H)
    (h : ∀ g cap w', w'.ownsRow base e 1 (.slice (some ⟨g, 0, none⟩) (n + 1) cap) (n + 1) (xs ++ [.slice A' n' c']) → w.grownBy w' v.ownBlock → (v.ownBlock = some g ∨ g = H) → g < w'.heap.size → Dry w' (.slice (some ⟨g, 0, none⟩) (n + 1) cap) → wpList P ops Q rest (a.put o.dst (.slice (some ⟨g, 0, none⟩) (n + 1) cap)) w') :
    wpList P ops Q (o :: rest) a w := by
  refine wpList_plain hgd fun K hK => ?_
  obtain ⟨g, cap, w', hr, h2, h3, h4, h5, h6⟩ := run_append_dry (P := P) w base t o.type e i bytes ht hi hz hsize hby v n xs hown hd ad c A' n' c' hnews h63 hbytes hbase
  unfold Oper.wp execOp
  simp only [ho, resolve, invoke, builtin, Sem.run_bind, Sem.run_pure, Result.andThen_ok, List.map_toArray, List.map_cons, List.map_nil, hs, hx, hr]
  exact hK _ _ (h g cap w' h2 h3 (hH ▸ h4) h5 h6)
end Go.Proofs.Ytgpmdhdooglkfaa
namespace Go.Proofs.Ytgpmdhdooglkfaa
set_option maxRecDepth 100000
set_option linter.unusedVariables false
set_option linter.unusedSimpArgs false
open Go.ChangeShapes Go.WideShapes Go.ChangeAt Go.RowKit

/-- Rows of shapes, by the blocks that they lie in. -/
def allV (XS : List (Nat × List Shx)) : List Value := XS.map fun p => .slice (some ⟨p.1, 0, none⟩) p.2.length p.2.length
structure AllIn (w : World) (v : Value) (XS : List (Nat × List Shx)) : Prop where
  outs : ∀ p ∈ XS, OutIn w p.1 p.2
  apart : ∀ p ∈ XS, ¬ v.ownBlock = some p.1
  diff : (XS.map Prod.fst).Nodup
  dry : Dry w v
theorem AllIn.nil (w : World) (T : TypeId) : AllIn (w.alloc (.cells #[] T)) (.slice (some ⟨w.heap.size, 0, none⟩) 0 0) [] :=
  ⟨fun _ h => by simp at h, fun _ h => by simp at h, by simp, dry_empty w T⟩
theorem AllIn.below {w w' : World} {v : Value} {XS : List (Nat × List Shx)} (h : AllIn w v XS) (hv : ∀ g, v.ownBlock = some g → g < w.heap.size) (hb : Below w.heap.size w w') : AllIn w' v XS :=
  ⟨fun p hp => (h.outs p hp).keep hb, h.apart, h.diff, h.dry.below hv hb⟩
theorem OutIn.grown {w w3 : World} {v : Value} {g : Nat} {X : List Shx} (h : OutIn w g X) (hd : Dry w v) (ha : ¬ v.ownBlock = some g) (hg : w.grownBy w3 v.ownBlock) : OutIn w3 g X := by
  have hlt := h.blk.lt
  refine ⟨?_, fun x hx => ?_⟩
  · have hb := h.blk
    unfold Whole at hb ⊢
    rw [hg.block g hlt (fun e => ha e.symm)]
    exact hb
  · have hs := h.row x hx
    refine ⟨hs.le, hs.cap, fun i t hi => ?_⟩
    obtain ⟨ad, e, hb, h0, h1⟩ := hs.row i t hi
    have hn : ¬ some ad.block = v.ownBlock := fun q => hd ad.block q.symm (ad.add (i * 2)) (addr_add_block _ _) _ _ h0
    have hk : ∀ q : Addr, q.block = ad.block → w3.cell? q = w.cell? q := fun q hq => World.cell?_of_block (by rw [hq]; exact hg.block _ hb hn)
    exact ⟨ad, e, Nat.lt_of_lt_of_le hb hg.size, (hk _ (addr_add_block _ _)).trans h0, (hk _ (by show (ad.add _).block = _; rw [addr_add_block])).trans h1⟩
theorem AllIn.snoc {w w3 : World} {v : Value} {XS : List (Nat × List Shx)} {g g9 n k : Nat} {X : List Shx} (h : AllIn w v XS) (hX : OutIn w g X) (hg0 : ∀ p ∈ XS, p.1 < g) (hgv : ∀ b, v.ownBlock = some b → b < g)
    (hg : w.grownBy w3 v.ownBlock) (hor : v.ownBlock = some g9 ∨ w.heap.size ≤ g9) (hd : Dry w3 (.slice (some ⟨g9, 0, none⟩) n k)) : AllIn w3 (.slice (some ⟨g9, 0, none⟩) n k) (XS ++ [(g, X)]) := by
  have hgn : ¬ v.ownBlock = some g := fun e => Nat.lt_irrefl _ (hgv g e)
  refine ⟨fun p hp => ?_, fun p hp e => ?_, ?_, hd⟩
  · rcases List.mem_append.mp hp with q | q
    · exact (h.outs p q).grown h.dry (h.apart p q) hg
    · simp at q; subst q; exact hX.grown h.dry hgn hg
  · simp [Value.ownBlock] at e
    have hlt : p.1 < w.heap.size := by
      rcases List.mem_append.mp hp with q | q
      · exact (h.outs p q).blk.lt
      · simp at q; subst q; exact hX.blk.lt
    rcases hor with o | o
    · rcases List.mem_append.mp hp with q | q
      · exact h.apart p q (by rw [o, e])
      · simp at q; subst q; exact hgn (by rw [o, e])
    · omega
  · rw [List.map_append, List.nodup_append]
    refine ⟨h.diff, by simp, fun a ha b hb => ?_⟩
    simp at hb
    subst hb
    obtain ⟨p, hp, rfl⟩ := List.mem_map.mp ha
    have := hg0 p hp
    omega
/-- What All answers. -/
def AllOut (m : Img) (w : World) (e : Ending) (w' : World) : Prop := ∃ (A : Option Addr) (n c : Nat) (b : Int), e = .returned (.tuple #[.slice A n c, .int .i64 b]) ∧ Below w.heap.size w w' ∧
  (b < 0 → ∃ XS, n = m.methods.length ∧ XS.length = n ∧ w'.ownsRow w.heap.size 42 1 (.slice A n c) n (allV XS) ∧ AllIn w' (.slice A n c) XS ∧ (∀ p ∈ XS, w.heap.size ≤ p.1) ∧ ∀ (i : Nat) p, XS[i]? = some p → FoundS m (i : Int) (p.2.map Shx.shp))
theorem info_shapes : (Try.prog.info? 42).map (fun i => (i.zero, i.size, i.bytes)) = some (some (.slice none 0 0), 1, 24) := by kernel_rfl
theorem rshapes_is {m : Img} {x : Mth} {f : Nat} {h : Hnd} {w0 w : World} (HI : Hid (ImgIn w0 w0.heap.size h m)) (HX : Hid (Below w0.heap.size w0 w)) (HM : Hid (SaneI m)) (HG : Hid (m.methods[f]? = some x)) :
    Calls Try.prog 23 #[imgV h m, .int .i64 f] w (ShapesOut m f w) := rshapes_any m x f h w (HI.out.now HX.out) HM.out HG.out
set_option maxHeartbeats 3200000 in
theorem rall_any (m : Img) (h : Hnd) (w : World) (H : ImgIn w w.heap.size h m) (hm : SaneI m) (hml : m.methods.length ≤ 1000) :
    Calls Try.prog 12 #[imgV h m] w (AllOut m w) := by
  obtain ⟨i0, hi, hz0, hz1, hz2⟩ := info_partsK info_shapes
  have HW := Lib.hid ((Below.refl w.heap.size w).alloc (Nat.le_refl _) (imgO h m))
  have HI := Lib.hid (H.now HW.out)
  have HM := Lib.hid hm
  have HBX := Lib.hid (img_box w h m)
  have HZ : Hid (w.heap.size < (w.alloc (imgO h m)).heap.size) := Lib.hid (by simp)
  clear H hm
  go_enter Try.func12, Try.ntmps12
  go_upto_region 1 with fail
  generalize w.alloc (imgO h m) = w1 at *
  go_wp2_with fail
  go_loopw [4, 5] (fun v i wr => ∃ (k : Nat) (XS : List (Nat × List Shx)), k ≤ m.methods.length ∧ i = .int .i64 k ∧ Hid (XS.length = k) ∧ Hid (wr.ownsRow w1.heap.size 42 1 v k (allV XS)) ∧ Hid (Below w1.heap.size w1 wr) ∧ Hid (AllIn wr v XS) ∧ Hid (∀ p ∈ XS, w1.heap.size ≤ p.1) ∧ Hid (∀ (i : Nat) p, XS[i]? = some p → FoundS m (i : Int) (p.2.map Shx.shp))) (fun _ i _ => m.methods.length - (intOf i).toNat)
  case atStart => exact ⟨0, [], by omega, rfl, Lib.hid rfl, Lib.hid (own_empty w1 _), Lib.hid ((Below.refl _ _).alloc (Nat.le_refl _) _), Lib.hid (AllIn.nil w1 _), Lib.hid (fun p h => by simp at h), Lib.hid (fun i p h => by simp at h)⟩
  case round =>
    obtain ⟨k, XS, hk, rfl, HL, HO, HX, HE, HP, HF⟩ := hrel
    obtain ⟨q0, q1, q2, q3, q4, q5, q6⟩ := HBX.out.keep HX.out HZ.out
    have hsz := HX.out.size
    by_cases hlt : k < m.methods.length
    · obtain ⟨x, hx⟩ : ∃ x, m.methods[k]? = some x := ⟨_, List.getElem?_eq_getElem hlt⟩
      have HG := Lib.hid hx
      clear hx
      go_upto_region 6 with (go_at_call 23; (with_reducible refine (rshapes_is HI HX HM HG).mono ?_); rintro e w4 ⟨ok, As, cs, S, rfl, hb, hgd⟩; have HO4 := Lib.hid (own_below HO.out hb (own_block_lt HO.out)); have HX4 := Lib.hid (HX.out.trans (hb.mono HX.out.size)); have HE4 := Lib.hid (HE.out.below (own_block_lt HO.out) hb); have HGD := Lib.hid hgd; have hsz4 := HX4.out.size; clear hb hgd)
      cases ok
      · go_wp2_with fail
        go_ret2
        exact ⟨none, 0, 0, k, rfl, HW.out.trans (HX4.out.mono HW.out.size), fun q => by omega⟩
      · obtain ⟨g, X, hA, hS, hc, hgb, hout, hfound⟩ := HGD.out rfl
        clear HGD
        subst hA hS hc
        have HG0 : Hid (∀ p ∈ XS, p.1 < g) := Lib.hid (fun p hp => Nat.lt_of_lt_of_le (HE.out.outs p hp).blk.lt hgb)
        have HGV : Hid (∀ b, Value.ownBlock u4 = some b → b < g) := Lib.hid (fun b e => Nat.lt_of_lt_of_le (own_block_lt HO.out b e) hgb)
        have HQ := Lib.hid hout
        have HFO := Lib.hid hfound
        have HPg : Hid (w1.heap.size ≤ g) := Lib.hid (Nat.le_trans hsz hgb)
        clear hout hfound hgb
        simp only [List.length_map]
        go_wp2_with (at_builtin; refine append_dry rfl _ _ 29 rfl w1.heap.size 42 i0 24 Try.underlying29 hi hz0 hz1 hz2 _ k (allV XS) rfl (HO4.out.alloc _) (HE4.out.dry.below (own_block_lt HO4.out) ((Below.refl _ _).alloc (Nat.le_refl _) _)) ⟨w4.heap.size, 0, none⟩ _ _ _ _ rfl (cell_one_new w4 _ _ 0 _ rfl) (by unfold maxLen; omega) (by omega) (by simp; omega) _ rfl ?_; intro g9 c9 w6 hown hgrow hor hlt9 hdry; have HX6 := Lib.hid (appK_more (HX4.out.alloc hsz4 _) (HO4.out.alloc _) (by simp; omega) hgrow); have HO6 := Lib.hid hown; have HE6 := Lib.hid ((HE4.out.below (own_block_lt HO4.out) ((Below.refl _ _).alloc (Nat.le_refl _) _)).snoc (HQ.out.keep ((Below.refl _ _).alloc (Nat.le_refl _) _)) HG0.out HGV.out hgrow (hor.imp id (fun e => Nat.le_of_eq e.symm)) hdry); clear hown hgrow hor hdry)
        go_roundw
        case rel =>
          refine ⟨k + 1, XS ++ [(g, X)], by omega, by go_num, Lib.hid (by rw [List.length_append, HL.out]; rfl), Lib.hid (by unfold allV; rw [List.map_append]; exact HO6.out), HX6, HE6, Lib.hid (fun p hp => ?_), Lib.hid (fun i p hi => ?_)⟩
          · rcases List.mem_append.mp hp with q | q
            · exact HP.out p q
            · simp at q; subst q; exact HPg.out
          · rcases Nat.lt_or_ge i XS.length with q | q
            · rw [List.getElem?_append_left q] at hi
              exact HF.out i p hi
            · rw [List.getElem?_append_right q] at hi
              have hiz : i - XS.length = 0 := by
                rcases Nat.eq_zero_or_pos (i - XS.length) with z | z
                · exact z
                · rw [List.getElem?_eq_none (by simp; omega)] at hi; cases hi
              rw [hiz] at hi
              simp at hi
              subst hi
              have hik : i = k := by have := HL.out; omega
              subst hik
              exact HFO.out
        case measure => simp [intOf]; omega
    · have e : k = m.methods.length := by omega
      subst e
      obtain ⟨Ae, ce, he⟩ : ∃ A c, u4 = .slice A m.methods.length c := by
        rcases ownK_slice HO.out with ⟨e1, hz⟩ | ⟨g, c, e1, _, _⟩
        · exact ⟨none, 0, by rw [e1, hz]⟩
        · exact ⟨_, c, e1⟩
      subst he
      go_wp2_with fail
      go_ret2
      exact ⟨Ae, m.methods.length, ce, -1, rfl, HW.out.trans (HX.out.mono HW.out.size), fun _ => ⟨XS, rfl, HL.out, own_lower HO.out HW.out.size, HE.out, fun p hp => Nat.le_trans HW.out.size (HP.out p hp), HF.out⟩⟩
end Go.Proofs.Ytgpmdhdooglkfaa
