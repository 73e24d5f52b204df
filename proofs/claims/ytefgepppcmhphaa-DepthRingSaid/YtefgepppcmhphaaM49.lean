/-
  What the document's own answer for types (Shapes) comes to, whole: what is right says no less than what is found; where nothing is found, nothing is right, but for the bound of rounds.
-/
import Derived.Test.YtefgepppcmhphaaM46
import Derived.Test.YtefgepppcmhphaaM48
namespace Go.Proofs.Ytefgepppcmhphaa
set_option maxRecDepth 100000
set_option linter.unusedVariables false
set_option linter.unusedSimpArgs false
open Go.ChangeShapes Go.WideShapes Go.ChangeAt Go.RowKit
set_option linter.unusedVariables false
set_option linter.unusedSimpArgs false

/-- What Shapes answers, whole. -/
def ShapesAll (m : Img) (f : Int) (w : World) (e : Ending) (w' : World) : Prop := ∃ ok A c S, e = .returned (.tuple #[.slice A (S : List Shp).length c, .bool ok]) ∧ Below w.heap.size w w' ∧
  (ok = true → ∃ g X, A = some ⟨g, 0, none⟩ ∧ S = X.map Shx.shp ∧ c = S.length ∧ w.heap.size ≤ g ∧ OutIn w' g X ∧ FoundS m f S ∧ LeastS m f S) ∧
  (ok = false → ∀ R, rightS m f R = false)
theorem shapes_bad2 {m : Img} {f : Int} {w w' : World} (hb : Below w.heap.size w w') (h : ∀ R, rightS m f R = false) : ShapesAll m f w (.returned (.tuple #[.slice none 0 0, .bool false])) w' := ⟨false, none, 0, [], rfl, hb, (fun h => by cases h), fun _ => h⟩
theorem map_first (n : Nat) : (⟨true, none, 0, []⟩ :: List.replicate n (⟨false, none, 0, []⟩ : Shx)).map Shx.shp = ⟨true, []⟩ :: List.replicate n (⟨false, []⟩ : Shp) := by simp [Shx.shp]
theorem growL_first {m : Img} {f : Nat} {x : Mth} {n : Nat} (hx : mthN m (f : Int) = x) (hn : x.code.length = n + 1) : GrowL m f ((⟨true, none, 0, []⟩ :: List.replicate n (⟨false, none, 0, []⟩ : Shx)).map Shx.shp) := by
  have h := grow_first (m := m) (f := f) (n := n) hx hn
  rw [map_first] at h ⊢
  exact GrowL.start h (by rw [hx]; exact hn)
theorem found_least {m : Img} {f : Int} {S : List Shp} (h : GrowL m f S) (h0 : 0 < S.length) (hd : ∀ pc : Nat, pc < S.length → placeB m f S (pc : Int) = true) : FoundS m f S ∧ LeastS m f S :=
  ⟨⟨h.grow, fun pc hpc hs => by
    obtain ⟨e, g⟩ := place_iff.mp (hd pc hpc) hs
    exact ⟨e, fun n hn => ⟨(g n hn).1, (g n hn).2.1⟩⟩⟩, ⟨h.low.done h0 hd, fun R hR => h.low.over hR, h.low.small⟩⟩
set_option maxHeartbeats 12800000 in
theorem rshapes2_any (m : Img) (x : Mth) (f : Nat) (h : Hnd) (w : World) (H : ImgIn w w.heap.size h m) (hm : SaneI m) (hx : m.methods[f]? = some x) :
    Calls Try.prog 18 #[imgV h m, .int .i64 f] w (ShapesAll m f w) := by
  obtain ⟨tyi, hi, hz0, hz1, hz2⟩ := info_partsK info_shape
  have HW := Lib.hid (below_box (w := w) (h := h) (m := m))
  have HBX := Lib.hid (img_box w h m)
  have HZ : Hid (w.heap.size < (w.alloc (imgO h m)).heap.size) := Lib.hid (by simp)
  have HI := Lib.hid (H.now HW.out)
  have HM := Lib.hid hm
  have HG := Lib.hid hx
  have hle := H.methods.le
  have hcap := H.methods.cap
  have hcl : m.classes.length ≤ 1000 := by have := hm.fits.cl; omega
  have hxm := hm.method (List.mem_of_getElem? hx)
  have hxl : x.code.length ≤ 1000 := by have := hxm.fits.cl; omega
  have hxp := hxm.cp
  have hfl := (List.getElem?_eq_some_iff.mp hx).1
  have hfe := (List.getElem?_eq_some_iff.mp hx).2
  obtain ⟨ad, A4c, j4, ea, hab, hc4⟩ := img_mcode HI.out hfl
  rw [hfe] at hc4
  obtain ⟨A0, Ab, A2, A3, A4, k0, k1, k2, k3, k4⟩ := h
  dsimp only at ea hle hcap
  subst ea
  have hcN : mthN m (f : Int) = x := by unfold mthN; rw [Int.toNat_natCast, hx]; rfl
  have HCN := Lib.hid hcN
  clear H hm hx hxm hfe hcN
  go_enter Try.func18, Try.ntmps18
  go_upto_region 1 with fail
  change Code.wp _ _ _ _ (w.alloc (imgO ⟨A0, Ab, A2, some ad, A4, k0, k1, k2, k3, k4⟩ m))
  generalize w.alloc (imgO ⟨A0, Ab, A2, some ad, A4, k0, k1, k2, k3, k4⟩ m) = w1 at *
  obtain ⟨q0, q1, q2, q3, q4, q5, q6⟩ := HBX.out
  have hie : ((x.code.length : Int) == 0) = false := beq_eq_false_iff_ne.mpr (by omega)
  go_upto_region 3 with (at_make; refine wpList_make_full _ rfl _ _ 55 rfl w1.heap.size 65 tyi (.agg #[.bool false, .slice none 0 0]) 2 Try.underlying55 hi hz0 hz1 .i64 .i64 _ _ x.code.length rfl rfl rfl rfl (by rw [hz2]; omega) (by unfold maxLen; omega) (Nat.le_refl _) ?_; intro w2 hown hgrow; have HO2 := Lib.hid hown; have HB2 := Lib.hid ((Below.refl w1.heap.size w1).grown hgrow (Nat.le_refl _) (fun k hk => by cases hk)); clear hown hgrow)
  obtain ⟨n1, hn1⟩ : ∃ n, x.code.length = n + 1 := ⟨x.code.length - 1, by omega⟩
  have HL := Lib.hid hn1
  have HQ2 : Hid (OutIn w2 w1.heap.size (⟨false, none, 0, []⟩ :: List.replicate n1 ⟨false, none, 0, []⟩)) := Lib.hid (by
    have h1 := own_whole HO2.out
    rw [made_shapes, hn1] at h1
    exact ⟨h1, fun y hy => by
      rcases List.mem_cons.mp hy with q | q
      · rw [q]; exact slc_none
      · rw [(List.mem_replicate.mp q).2]; exact slc_none⟩)
  have HGR := Lib.hid (growL_first (n := n1) HCN.out hn1)
  obtain ⟨R0, hR0⟩ : ∃ r, roundsOf m n1 = r := ⟨_, rfl⟩
  have HR0 : Hid (R0 ≤ roundsOf m ((mthN m (f : Int)).code.length - 1)) := Lib.hid (by rw [HCN.out, hn1, ← hR0]; exact Nat.le_refl _)
  have HRK : Hid (rankA (supsOf m.classes).length ((⟨true, none, 0, []⟩ :: List.replicate n1 (⟨false, none, 0, []⟩ : Shx)).map Shx.shp) + 0 ≤ R0) := Lib.hid (by rw [← hR0, map_first]; exact Nat.le_refl _)
  clear hR0
  clear HO2 hn1 q0 q1 q2 q3 q4 q5 q6
  have s0 := HQ2.out.seen_at (i := 0) (by simp)
  have f0 := HQ2.out.blk.free 0
  have s0 : w2.cell? ⟨w1.heap.size, 0, none⟩ = some (.bool false) := s0
  go_upto_region 6 with fail
  have HQ3 := Lib.hid (out_first (n := n1) HQ2.out)
  have HB3 : Hid (Below w1.heap.size w1 (w2.setCell ⟨w1.heap.size, 0, none⟩ (.bool true))) := Lib.hid (HB2.out.setCell (p := ⟨w1.heap.size, 0, none⟩) (Nat.le_refl _) _)
  clear s0 f0 HQ2 HB2
  generalize w2.setCell ⟨w1.heap.size, 0, none⟩ (.bool true) = w3 at *
  have HL3 : Hid ((⟨true, none, 0, []⟩ :: List.replicate n1 (⟨false, none, 0, []⟩ : Shx)).length = x.code.length) := Lib.hid (by rw [HL.out]; simp)
  generalize (⟨true, none, 0, []⟩ :: List.replicate n1 (⟨false, none, 0, []⟩ : Shx)) = X3 at *
  have hwp : IntKind.i64.wrap ((x.code.length : Int) - 1) = (x.code.length : Int) - 1 := IntWalk.i64_in _ (by omega)
  go_wp2_with fail
  go_loopw [8] (fun i wr => ∃ (k : Nat) (X : List Shx), k ≤ 4000 ∧ i = .int .i64 k ∧ X.length = x.code.length ∧ Hid (OutIn wr w1.heap.size X) ∧ Hid (GrowL m f (X.map Shx.shp)) ∧ Hid (Below w1.heap.size w1 wr) ∧ Hid (rankA (supsOf m.classes).length (X.map Shx.shp) + k ≤ R0)) (fun i _ => 4000 - (intOf i).toNat)
  case atStart => exact ⟨0, X3, Nat.zero_le _, rfl, HL3.out, HQ3, HGR, HB3, HRK⟩
  case round =>
    clear HQ3 HGR HB3 HL3 HRK
    obtain ⟨k, X, hk, rfl, hXl, HO, HGR, HX, HRK⟩ := hrel
    by_cases hk4 : k < 4000
    rotate_left
    · have hki : ¬ (k : Int) < 4000 := by omega
      have HBAD : Hid False := Lib.hid (by
        have h1 := HRK.out
        have h2 := HR0.out
        have hx64 : x.code.length ≤ 64 := (HM.out.method (List.mem_of_getElem? HG.out)).fits.cl
        have h3 := rounds_few (m := m) (S := X.map Shx.shp) (n := (mthN m (f : Int)).code.length - 1) (by rw [List.length_map, HCN.out]; have := HL.out; omega) (by rw [HCN.out]; omega) HM.out.fits.cl HGR.out.lens (fun s hs => HGR.out.grow.small s hs)
        omega)
      exact HBAD.out.elim
    have hki : (k : Int) < 4000 := by omega
    obtain ⟨Rk, hRk⟩ : ∃ r, rankA (supsOf m.classes).length (X.map Shx.shp) = r := ⟨_, rfl⟩
    have HRKk : Hid (Rk + k ≤ R0) := Lib.hid (by rw [← hRk]; exact HRK.out)
    have HRX : Hid (rankA (supsOf m.classes).length (X.map Shx.shp) ≤ Rk ∧ (false = true → rankA (supsOf m.classes).length (X.map Shx.shp) < Rk)) := Lib.hid ⟨Nat.le_of_eq hRk, fun e => by cases e⟩
    clear hRk HRK
    go_wp2_with fail
    go_loopw [9, 10] (fun tb i wr => ∃ (p : Nat) (z : Int) (t : Bool) (X : List Shx), p ≤ x.code.length ∧ i = .int .i64 z ∧ z = (p : Int) - 1 ∧ tb = .bool t ∧ X.length = x.code.length ∧ Hid (OutIn wr w1.heap.size X) ∧ Hid (GrowL m f (X.map Shx.shp)) ∧ Hid (Below w1.heap.size w1 wr) ∧ Hid (t = false → ∀ p' : Nat, p ≤ p' → p' < x.code.length → placeB m f (X.map Shx.shp) (p' : Int) = true) ∧ Hid (rankA (supsOf m.classes).length (X.map Shx.shp) ≤ Rk ∧ (t = true → rankA (supsOf m.classes).length (X.map Shx.shp) < Rk))) (fun _ i _ => (intOf i + 1).toNat)
    case atStart => exact ⟨x.code.length, _, false, X, Nat.le_refl _, rfl, rfl, rfl, hXl, HO, HGR, HX, Lib.hid (fun _ p h1 h2 => by omega), HRX⟩
    case round =>
      clear HO HGR HX hXl HRX
      obtain ⟨p, z, t, X, hp, rfl, hz, rfl, hXl, HO, HGR, HX, HT, HRX⟩ := hrel
      rcases p with _ | j
      · obtain rfl : z = -1 := by omega
        clear hz
        cases t
        · have hpl : ∀ pc : Nat, pc < (X.map Shx.shp).length → placeB m f (X.map Shx.shp) (pc : Int) = true := fun pc hpc => HT.out rfl pc (Nat.zero_le _) (by rw [List.length_map] at hpc; omega)
          have HFD := Lib.hid (found_least HGR.out (by rw [List.length_map]; omega) hpl)
          clear hpl
          go_wp2_with fail
          go_ret2
          exact ⟨true, _, _, X.map Shx.shp, by rw [List.length_map, hXl]; rfl, HW.out.trans (HX.out.mono (Nat.le_of_lt HZ.out)), fun _ => ⟨_, X, rfl, rfl, by rw [List.length_map, hXl], Nat.le_of_lt HZ.out, HO.out, HFD.out.1, HFD.out.2⟩, fun e => by cases e⟩
        · have HRN : Hid (rankA (supsOf m.classes).length (X.map Shx.shp) + (k + 1) ≤ R0) := Lib.hid (by have h1 := HRX.out.2 rfl; have h2 := HRKk.out; omega)
          go_wp2_with fail
          go_roundw
          case rel => exact ⟨k + 1, X, by omega, by go_num, hXl, HO, HGR, HX, HRN⟩
          case measure => simp [intOf]; omega
      · obtain rfl : z = (j : Int) := by omega
        clear hz
        have hjX : j < X.length := by omega
        have hjl : j < x.code.length := by omega
        have c0 := HO.out.seen_at hjX
        have c1 := HO.out.stack_at hjX
        have hjn : shpN (X.map Shx.shp) (j : Int) = X[j].shp := shpN_map hjX
        have HSL := Lib.hid (HO.out.row _ (List.getElem_mem hjX))
        have hsm : X[j].stack.length ≤ 8 := HGR.out.grow.small X[j].shp (List.mem_map.mpr ⟨_, List.getElem_mem hjX, rfl⟩)
        have hwq : IntKind.i64.wrap ((j : Int) - 1) = (j : Int) - 1 := IntWalk.i64_in _ (by omega)
        have HJN := Lib.hid hjn
        clear hjn
        obtain ⟨y, hy⟩ : ∃ y, X[j] = y := ⟨_, rfl⟩
        rw [hy] at c0 c1 HSL hsm HJN
        clear hy
        by_cases hse : y.seen = true
        rotate_left
        · have hse' : y.seen = false := by simpa using hse
          have HT2 : Hid (t = false → ∀ p' : Nat, j ≤ p' → p' < x.code.length → placeB m f (X.map Shx.shp) (p' : Int) = true) := Lib.hid (fun g p' h1 h2 => by
            rcases Nat.lt_or_ge j p' with q | q
            · exact HT.out g p' q h2
            · obtain rfl : p' = j := by omega
              exact place_un (by rw [HJN.out]; exact hse'))
          go_wp2_with fail
          go_roundw
          case rel => exact ⟨j, _, t, X, by omega, rfl, rfl, rfl, hXl, HO, HGR, HX, HT2, HRX⟩
          case measure => (simp [intOf]; try omega)
        have HSE := Lib.hid hse
        obtain ⟨⟨L, NL, er⟩, hrs⟩ : ∃ r, stepOf m (f : Int) (j : Int) y.stack = r := ⟨_, rfl⟩
        have HRS := Lib.hid hrs
        have HXD : Hid (Below w1.heap.size w1 wr.drew) := Lib.hid HX.out.drew
        have HSD := Lib.hid (slcDr TyAt.keeps HSL.out)
        have HKA : Hid (∀ W, Below w1.heap.size w1 W → Below wr.heap.size wr W → (fun w' => w'.cell? ⟨w.heap.size, 0, none⟩ = some (.slice A0 m.classes.length k0) ∧ w'.cell? ⟨w.heap.size, 1, none⟩ = some (.slice Ab m.statics.length k1) ∧ w'.cell? ⟨w.heap.size, 2, none⟩ = some (.slice A2 m.ints.length k2) ∧ w'.cell? ⟨w.heap.size, 3, none⟩ = some (.slice (some ad) m.methods.length k3) ∧ w'.cell? ⟨w.heap.size, 4, none⟩ = some (.slice A4 m.entries.length k4) ∧ w'.cell? ⟨w.heap.size, 5, none⟩ = some (.int .i64 m.stack) ∧ w'.cell? ⟨w.heap.size, 6, none⟩ = some (.int .i64 m.heap) ∧ w'.cell? ⟨w1.heap.size, j * 2 + 1, none⟩ = some (.slice y.A y.stack.length y.c)) W) := Lib.hid (fun W hW hV => by
          obtain ⟨d0, d1, d2, d3, d4, d5, d6⟩ := HBX.out.keep hW HZ.out
          exact ⟨d0, d1, d2, d3, d4, d5, d6, (hV.cell (p := ⟨w1.heap.size, j * 2 + 1, none⟩) HO.out.blk.lt).trans c1⟩)
        have HVD : Hid (Below wr.heap.size wr wr.drew) := Lib.hid (Below.refl _ _).drew
        clear hrs
        go_wp2_with fail
        go_region_held3 (fun w' => w'.cell? ⟨w.heap.size, 0, none⟩ = some (.slice A0 m.classes.length k0) ∧ w'.cell? ⟨w.heap.size, 1, none⟩ = some (.slice Ab m.statics.length k1) ∧ w'.cell? ⟨w.heap.size, 2, none⟩ = some (.slice A2 m.ints.length k2) ∧ w'.cell? ⟨w.heap.size, 3, none⟩ = some (.slice (some ad) m.methods.length k3) ∧ w'.cell? ⟨w.heap.size, 4, none⟩ = some (.slice A4 m.entries.length k4) ∧ w'.cell? ⟨w.heap.size, 5, none⟩ = some (.int .i64 m.stack) ∧ w'.cell? ⟨w.heap.size, 6, none⟩ = some (.int .i64 m.heap) ∧ w'.cell? ⟨w1.heap.size, j * 2 + 1, none⟩ = some (.slice y.A y.stack.length y.c)) (first | exact HKA.out _ HXD.out HVD.out | exact HKA.out _ HX6.out HV6.out) (first | (go_at_call 31; (with_reducible refine (rstep_mk HI HXD HM (Lib.hid rfl) HSD (Nat.le_trans hsm (by decide)) HRS).mono ?_); rintro e w6 ⟨A7, c7, A8, c8, rfl, hs7, hs8, hb⟩; have H7 := Lib.hid hs7; have H8 := Lib.hid hs8; have HX6 := Lib.hid (HXD.out.trans (hb.mono HXD.out.size)); have HV6 := Lib.hid (HVD.out.trans (hb.mono HVD.out.size)); clear hs7 hs8 hb))
        rename_i hHeld
        clear hHeld c0 c1
        by_cases her : er = 0
        rotate_left
        · have hne : (er != 0) = true := by simpa using her
          have HBAD : Hid (∀ R, rightS m f R = false) := Lib.hid (HGR.out.low.none_err (pc := j) HM.out (by rw [List.length_map]; exact hjX) (by rw [HJN.out]; exact HSE.out) (by rw [HJN.out]; show ¬ (stepOf m (f : Int) (j : Int) y.stack).err = 0; rw [HRS.out]; exact her))
          go_wp2_with fail
          go_ret2
          exact shapes_bad2 (HW.out.trans (HX6.out.mono (Nat.le_of_lt HZ.out))) HBAD.out
        subst her
        have HO6 := Lib.hid (HO.out.keep HV6.out)
        have hm1 := H8.out.le
        have hm2 := H8.out.cap
        have hm3 := H7.out.le
        have hm4 := H7.out.cap
        have HFAC : Hid (NL = nextAt m f j ∧ L.length ≤ 8 ∧ ∀ n ∈ NL, 0 ≤ n ∧ n < (x.code.length : Int)) := Lib.hid (by
          have hjx : j < x.code.length := by omega
          obtain ⟨⟨op, a, bb⟩, hi⟩ : ∃ i, x.code[j]? = some i := ⟨_, List.getElem?_eq_getElem hjx⟩
          have hxm := HM.out.method (List.mem_of_getElem? HG.out)
          have him := List.mem_of_getElem? hi
          have e1 := stepIn_of (st := y.stack) HG.out hi
          rw [HRS.out] at e1
          have h1 := next_in (m := m) (st := y.stack) (F := 0) (hxm.fits.ct _ him) (hxm.co _ him) (by rw [← e1])
          have h2 := stepIn_next (m := m) (x := x) (pc := (j : Int)) (op := op) (a := a) (b := bb) (st := y.stack) (by rw [← e1])
          rw [← e1] at h1 h2
          exact ⟨by rw [nextAt_of HG.out hi]; exact h2.1, h2.2, h1⟩)
        have hL8 := HFAC.out.2.1
        go_wp2_with fail
        have HJS : Hid ((shpN (X.map Shx.shp) (j : Int)).seen = true) := Lib.hid (by rw [HJN.out]; exact HSE.out)
        have HRJ : Hid (stepOf m (f : Int) (j : Int) (shpN (X.map Shx.shp) (j : Int)).stack = ⟨L, NL, 0⟩) := Lib.hid (by rw [HJN.out]; exact HRS.out)
        have HST := Lib.hid (HGR.out.step (pc := j) HM.out (by rw [List.length_map]; exact hjX) HJS.out HRJ.out)
        have HLJ : Hid (HasLen (X.map Shx.shp) y.stack.length) := Lib.hid ⟨y.shp, by rw [← HJN.out]; exact shpN_mem (by rw [List.length_map]; exact hjX), HSE.out, rfl⟩
        have HSG : Hid (L.length ≤ y.stack.length + 1) := Lib.hid (by have h1 := step_grow (m := m) (f := (f : Int)) (pc := (j : Int)) (st := y.stack) (by rw [HRS.out]); rw [HRS.out] at h1; exact h1)
        go_loopw [9, 14] (fun tb i wr => ∃ (q : Nat) (t' : Bool) (X' : List Shx), q ≤ NL.length ∧ i = .int .i64 q ∧ tb = .bool t' ∧ X'.length = x.code.length ∧ Hid (OutIn wr w1.heap.size X') ∧ Hid (GrowL m f (X'.map Shx.shp)) ∧ Hid (Below w1.heap.size w1 wr) ∧ Hid (SlcIs TyAt 2 wr wr.heap.size A7 c7 L) ∧ Hid (SlcIs IntAt 1 wr wr.heap.size A8 c8 NL) ∧ Hid ((shpN (X'.map Shx.shp) (j : Int)).seen = true) ∧ Hid (HasLen (X'.map Shx.shp) y.stack.length) ∧
            Hid (t' = false → t = false ∧ X' = X ∧ ∀ n ∈ NL.take q, (shpN (X.map Shx.shp) n).seen = true ∧ FitsAll (supsOf m.classes) L (shpN (X.map Shx.shp) n).stack) ∧ Hid (rankA (supsOf m.classes).length (X'.map Shx.shp) ≤ Rk ∧ (t' = true → rankA (supsOf m.classes).length (X'.map Shx.shp) < Rk))) (fun _ i _ => NL.length - (intOf i).toNat)
        case atStart => exact ⟨0, t, X, Nat.zero_le _, rfl, rfl, hXl, HO6, HGR, HX6, H7, H8, HJS, HLJ, Lib.hid (fun g => ⟨g, rfl, fun n hn => by simp at hn⟩), HRX⟩
        case round =>
          clear HO6 HX6 H7 H8 HJS HLJ HXD HVD HV6 HX HO HKA
          clear HRX
          obtain ⟨q, t', X', hq, rfl, rfl, hXl', HO, HGR', HX, H7, H8, HJS, HLJ, HTT, HRX⟩ := hrel
          by_cases hql : q < NL.length
          rotate_left
          · have HT3 : Hid (t' = false → ∀ p' : Nat, j ≤ p' → p' < x.code.length → placeB m f (X'.map Shx.shp) (p' : Int) = true) := Lib.hid (fun g p' h1 h2 => by
              obtain ⟨g1, g2, g3⟩ := HTT.out g
              subst g2
              rcases Nat.lt_or_ge j p' with z | z
              · exact HT.out g1 p' z h2
              · obtain rfl : p' = j := by omega
                rw [List.take_of_length_le (by omega)] at g3
                rw [place_iff]
                intro _
                rw [HRJ.out]
                exact ⟨rfl, g3⟩)
            go_wp2_with fail
            go_roundw
            case rel => exact ⟨j, _, t', X', by omega, rfl, rfl, rfl, hXl', HO, HGR', HX, HT3, HRX⟩
            case measure => (simp [intOf]; try omega)
          obtain ⟨adN, eA8, habN, v0⟩ := H8.out.row.at_ hql
          have v0 : wr.cell? (adN.add q) = some (.int .i64 NL[q]) := by have := v0; rw [Nat.mul_one] at this; exact this
          have HEA8 := Lib.hid eA8
          obtain ⟨nr0, nr1⟩ := HFAC.out.2.2 _ (List.getElem_mem hql)
          have HNX : Hid (NL[q] ∈ nextAt m f j) := Lib.hid (by have := List.getElem_mem hql; have e := HFAC.out.1; rw [← e]; exact this)
          have HNM : Hid (NL[q] ∈ NL) := Lib.hid (List.getElem_mem hql)
          have HTQ : Hid (t' = false → (shpN (X'.map Shx.shp) NL[q]).seen = true → FitsAll (supsOf m.classes) L (shpN (X'.map Shx.shp) NL[q]).stack → t = false ∧ X' = X ∧ ∀ n ∈ NL.take (q + 1), (shpN (X.map Shx.shp) n).seen = true ∧ FitsAll (supsOf m.classes) L (shpN (X.map Shx.shp) n).stack) := Lib.hid (fun g h1 h2 => by
            obtain ⟨g1, g2, g3⟩ := HTT.out g
            subst g2
            refine ⟨g1, rfl, fun n hn => ?_⟩
            rw [List.take_succ_eq_append_getElem hql] at hn
            rcases List.mem_append.mp hn with z | z
            · exact g3 n z
            · rw [List.mem_singleton.mp z]; exact ⟨h1, h2⟩)
          generalize NL[q] = nn at *
          obtain ⟨tg, rfl⟩ := Int.eq_ofNat_of_zero_le nr0
          have htX : tg < X'.length := by omega
          have hjX' : j < X'.length := by omega
          have c0 := HO.out.seen_at htX
          have c1 := HO.out.stack_at htX
          have htn : shpN (X'.map Shx.shp) (tg : Int) = X'[tg].shp := shpN_map htX
          have HZL := Lib.hid (HO.out.row _ (List.getElem_mem htX))
          have hsm2 : X'[tg].stack.length ≤ 8 := HGR'.out.grow.small X'[tg].shp (List.mem_map.mpr ⟨_, List.getElem_mem htX, rfl⟩)
          obtain ⟨⟨sn, Ay, cy, sty⟩, hy2⟩ : ∃ y, X'[tg] = y := ⟨_, rfl⟩
          rw [hy2] at c0 c1 htn HZL hsm2
          dsimp only [Shx.shp] at c0 c1 htn HZL hsm2
          have HTN := Lib.hid htn
          have hyX := Lib.hid hy2
          clear hy2 htn
          have fz0 := HO.out.blk.free (tg * 2)
          have fz1 := HO.out.blk.free (tg * 2 + 1)
          subst eA8
          by_cases hs2 : sn = true
          rotate_left
          · have hs2' : sn = false := by simpa using hs2
            have HPUT : Hid (OutIn (putW wr w1.heap.size tg ⟨true, A7, c7, L⟩) w1.heap.size (X'.set tg ⟨true, A7, c7, L⟩)) := Lib.hid (HO.out.put htX H7.out)
            have hcf : ComeOk (supsOf m.classes) (shpN (X'.map Shx.shp) (tg : Int)) L L true := come_fresh (by rw [HTN.out]; exact hs2') HST.out.2.1
            have HGP : Hid (GrowL m f ((X'.set tg ⟨true, A7, c7, L⟩).map Shx.shp)) := Lib.hid (by rw [List.map_set]; exact HGR'.out.put (J := L) (by rw [List.length_map]; exact htX) (by rw [List.length_map]; exact hjX') HJS.out HNX.out HST.out.1 HNM.out hcf (by omega) HST.out.2.2 HLJ.out HSG.out)
            have HRP : Hid (rankA (supsOf m.classes).length ((X'.set tg ⟨true, A7, c7, L⟩).map Shx.shp) ≤ Rk ∧ (true = true → rankA (supsOf m.classes).length ((X'.set tg ⟨true, A7, c7, L⟩).map Shx.shp) < Rk)) := Lib.hid (by
              have h1 : rankA (supsOf m.classes).length ((X'.set tg ⟨true, A7, c7, L⟩).map Shx.shp) < rankA (supsOf m.classes).length (X'.map Shx.shp) := by rw [List.map_set]; exact come_less (by rw [List.length_map]; exact htX) hcf (by omega)
              have h2 := HRX.out.1
              exact ⟨by omega, fun _ => by omega⟩)
            have HLP : Hid (HasLen ((X'.set tg ⟨true, A7, c7, L⟩).map Shx.shp) y.stack.length) := Lib.hid (by rw [List.map_set]; exact HLJ.out.put (by rw [List.length_map]; exact htX) hcf)
            clear hcf
            have HSJ : Hid ((shpN ((X'.set tg ⟨true, A7, c7, L⟩).map Shx.shp) (j : Int)).seen = true) := Lib.hid (by rw [List.map_set, shpN_set (by rw [List.length_map]; exact htX)]; exact seen_ite rfl HJS.out)
            have HBP : Hid (Below w1.heap.size w1 (putW wr w1.heap.size tg ⟨true, A7, c7, L⟩)) := Lib.hid ((HX.out.setCell (p := ⟨w1.heap.size, tg * 2, none⟩) (Nat.le_refl _) _).setCell (p := ⟨w1.heap.size, tg * 2 + 1, none⟩) (Nat.le_refl _) _)
            have HZP : (putW wr w1.heap.size tg ⟨true, A7, c7, L⟩).heap.size = wr.heap.size := by simp [putW]
            have H7P : Hid (SlcIs TyAt 2 (putW wr w1.heap.size tg ⟨true, A7, c7, L⟩) (putW wr w1.heap.size tg ⟨true, A7, c7, L⟩).heap.size A7 c7 L) := Lib.hid (ty_other H7.out (by rw [HZP]; exact Nat.le_refl _) (put_other _ _ _ _) (fun i hi => HO.out.ty_apart H7.out hi))
            have H8P : Hid (SlcIs IntAt 1 (putW wr w1.heap.size tg ⟨true, A7, c7, L⟩) (putW wr w1.heap.size tg ⟨true, A7, c7, L⟩).heap.size (some adN) c8 NL) := Lib.hid (int_other H8.out (by rw [HZP]; exact Nat.le_refl _) (put_other _ _ _ _) (fun i hi => HO.out.int_apart H8.out hi))
            clear HZP
            go_wp2_with fail
            go_roundw
            case rel => exact ⟨q + 1, true, X'.set tg ⟨true, A7, c7, L⟩, by omega, by go_num, rfl, by rw [List.length_set]; exact hXl', HPUT, HGP, HBP, H7P, H8P, HSJ, HLP, Lib.hid (fun g => by cases g), HRP⟩
            case measure => (simp [intOf]; try omega)
          have hsz := HX.out.size
          by_cases hll : sty.length = L.length
          rotate_left
          · have hnl : ((sty.length : Int) != (L.length : Int)) = true := bne_iff_ne.mpr (by omega)
            have HBAD : Hid (∀ R, rightS m f R = false) := Lib.hid (HGR'.out.low.noneR (by rw [List.length_map]; exact htX) HST.out.1 HNM.out (come_many (by rw [HTN.out]; exact hs2) (by rw [HTN.out]; show ¬ L.length = sty.length; omega)))
            go_wp2_with fail
            go_ret2
            exact shapes_bad2 (HW.out.trans (HX.out.mono (Nat.le_of_lt HZ.out))) HBAD.out
          have hnl : ((sty.length : Int) != (L.length : Int)) = false := bne_eq_false_iff_eq.mpr (by omega)
          have hl1 := H7.out.le
          have hl2 := H7.out.cap
          obtain ⟨ti, hti, ht0, ht1, ht2⟩ := info_partsK info_type
          go_wp2_with fail
          clear c0 c1 fz0 fz1 v0
          obtain ⟨wo, hwo⟩ : ∃ W, W = wr := ⟨_, rfl⟩
          subst hwo
          go_loopw [16, 17] (fun v i wr => ∃ (jj : Nat) (BT : List (Int × Int)), jj ≤ L.length ∧ i = .int .i64 jj ∧ BT.length = jj ∧ Hid (wr.ownsRow wo.heap.size 49 2 v jj (tysV BT)) ∧ Hid (Below wo.heap.size wo wr) ∧ Hid (BT = ((sty.zip L).take jj).map (fun p => joinP (supsOf m.classes) p.1 p.2) ∧ ∀ t ∈ BT, ¬ t.1 = 0)) (fun _ i _ => L.length - (intOf i).toNat)
          case atStart => exact ⟨0, [], Nat.zero_le _, rfl, rfl, Lib.hid (own_emptyK wo _ 2), Lib.hid ((Below.refl _ _).alloc (Nat.le_refl _) _), Lib.hid ⟨by simp, fun t ht => by simp at ht⟩⟩
          case round =>
            obtain ⟨jj, BT, hjj, rfl, hBT, HOB, HV, HBT⟩ := hrel
            have hszi := HV.out.size
            have hX1 := HX.out.trans (HV.out.mono hsz)
            have HXI := Lib.hid hX1
            by_cases hjl2 : jj < L.length
            · have hjs : jj < sty.length := by omega
              obtain ⟨ad5, e5, hab5, s0, s1⟩ := (slcUp TyAt.keeps HZL.out HV.out).row.at_ hjs
              obtain ⟨ad7, e7, hab7, t0, t1⟩ := (slcUp TyAt.keeps H7.out HV.out).row.at_ hjl2
              have d1 := (HO.out.keep HV.out).stack_at htX
              rw [hyX.out] at d1
              dsimp only at d1
              subst e5 e7
              obtain ⟨u, hu⟩ : ∃ u, sty[jj] = u := ⟨_, rfl⟩
              obtain ⟨v, hv⟩ : ∃ v, L[jj] = v := ⟨_, rfl⟩
              have HJT : Hid (((sty.zip L).take (jj + 1)).map (fun p => joinP (supsOf m.classes) p.1 p.2) = BT ++ [joinP (supsOf m.classes) u v]) := Lib.hid (by rw [joinL_take hjs hjl2, hu, hv, ← HBT.out.1])
              have HJZ : Hid ((joinP (supsOf m.classes) u v).1 = 0 → ∀ R, rightS m f R = false) := Lib.hid (fun z => HGR'.out.low.noneR (by rw [List.length_map]; exact htX) HST.out.1 HNM.out (come_noneP (i := jj) (by rw [HTN.out]; exact hs2) (by rw [HTN.out]; exact hjs) hjl2 (HGR'.out.low.self _ (shpN_mem (by rw [List.length_map]; exact htX))) HST.out.2.1 (by simp only [HTN.out]; rw [hu, hv]; exact z)))
              rw [hu] at s0 s1
              rw [hv] at t0 t1
              clear hu hv
              have HGL := Lib.hid ((HO.out.keep HV.out).blk.lt)
              have HKJ : Hid (∀ W, Below wr.heap.size wr W → (fun w' => w'.cell? ⟨w.heap.size, 0, none⟩ = some (.slice A0 m.classes.length k0) ∧ w'.cell? ⟨w1.heap.size, tg * 2 + 1, none⟩ = some (.slice (some ad5) sty.length cy) ∧ w'.cell? (ad5.add (jj * 2)) = some (.int .i64 u.1) ∧ w'.cell? (off_ (ad5.add (jj * 2)) 1) = some (.int .i64 u.2) ∧ w'.cell? (ad7.add (jj * 2)) = some (.int .i64 v.1) ∧ w'.cell? (off_ (ad7.add (jj * 2)) 1) = some (.int .i64 v.2)) W) := Lib.hid (fun W hW => by
                obtain ⟨d0, _⟩ := HBX.out.keep (HXI.out.trans (hW.mono HXI.out.size)) HZ.out
                exact ⟨d0, (hW.cell (p := ⟨w1.heap.size, tg * 2 + 1, none⟩) HGL.out).trans d1, (hW.cell (p := ad5.add (jj * 2)) (by rw [addr_add_block]; exact hab5)).trans s0, (hW.cell (p := off_ (ad5.add (jj * 2)) 1) (by show (ad5.add _).block < _; rw [addr_add_block]; exact hab5)).trans s1,
                  (hW.cell (p := ad7.add (jj * 2)) (by rw [addr_add_block]; exact hab7)).trans t0, (hW.cell (p := off_ (ad7.add (jj * 2)) 1) (by show (ad7.add _).block < _; rw [addr_add_block]; exact hab7)).trans t1⟩)
              clear s0 s1 t0 t1 d1
              obtain ⟨⟨jk, jn⟩, hjr⟩ : ∃ r, joinR (supsOf m.classes) u.1 u.2 v.1 v.2 = r := ⟨_, rfl⟩
              have HJR := Lib.hid hjr
              clear hjr hX1
              have HWD : Hid (Below wr.heap.size wr wr.drew) := Lib.hid (Below.refl _ _).drew
              have HWA : Hid (Below wr.heap.size wr (wr.alloc (.cells #[.int .i64 0, .int .i64 0] 49)).drew) := Lib.hid ((Below.refl _ _).alloc (Nat.le_refl _) _).drew
              go_wp2_with fail
              go_region_held3 (fun w' => w'.cell? ⟨w.heap.size, 0, none⟩ = some (.slice A0 m.classes.length k0) ∧ w'.cell? ⟨w1.heap.size, tg * 2 + 1, none⟩ = some (.slice (some ad5) sty.length cy) ∧ w'.cell? (ad5.add (jj * 2)) = some (.int .i64 u.1) ∧ w'.cell? (off_ (ad5.add (jj * 2)) 1) = some (.int .i64 u.2) ∧ w'.cell? (ad7.add (jj * 2)) = some (.int .i64 v.1) ∧ w'.cell? (off_ (ad7.add (jj * 2)) 1) = some (.int .i64 v.2)) (first | exact HKJ.out _ HWD.out | exact HKJ.out _ HWA.out | exact HKJ.out _ HW9.out | exact HKJ.out _ (HW9.out.alloc HW9.out.size _) | exact HKJ.out _ ((HW9.out.setCell (p := ⟨wr.heap.size, 0, none⟩) (Nat.le_refl _) _).setCell (p := ⟨wr.heap.size, 1, none⟩) (Nat.le_refl _) _)) (first
                | (go_at_call 32; (first | ((with_reducible refine (rjoin_is HI HXI HWD (Lib.hid hcl) HJR).mono ?_); have HYW := HWD) | ((with_reducible refine (rjoin_is HI HXI HWA (Lib.hid hcl) HJR).mono ?_); have HYW := HWA)); rintro e w9 ⟨rfl, hb⟩; have HW9 := Lib.hid (HYW.out.trans (hb.mono HYW.out.size)); (first | (have hq := Whole.keep (show Whole (wr.alloc (.cells #[.int .i64 0, .int .i64 0] 49)).drew wr.heap.size [.int .i64 0, .int .i64 0] 49 from Whole.new wr _ _) hb (by simp)) | (have hq := trivial)); (first | (have f0 := hq.free 0; have f1 := hq.free 1; have r0 := hq.cells 0 _ rfl; have r1 := hq.cells 1 _ rfl) | skip); have HQ9 := Lib.hid hq; clear hq hb))
              all_goals
                first
                  | (have HQ5 : Hid (Whole ((w9.setCell ⟨wr.heap.size, 0, none⟩ (.int .i64 jk)).setCell ⟨wr.heap.size, 1, none⟩ (.int .i64 jn)) wr.heap.size [.int .i64 jk, .int .i64 jn] 49) := Lib.hid ((HQ9.out.set 0 (.int .i64 jk)).set 1 (.int .i64 jn)); have HW5 : Hid (Below wr.heap.size wr ((w9.setCell ⟨wr.heap.size, 0, none⟩ (.int .i64 jk)).setCell ⟨wr.heap.size, 1, none⟩ (.int .i64 jn))) := Lib.hid ((HW9.out.setCell (p := ⟨wr.heap.size, 0, none⟩) (Nat.le_refl _) (.int .i64 jk)).setCell (p := ⟨wr.heap.size, 1, none⟩) (Nat.le_refl _) (.int .i64 jn)); generalize ((w9.setCell ⟨wr.heap.size, 0, none⟩ (.int .i64 jk)).setCell ⟨wr.heap.size, 1, none⟩ (.int .i64 jn)) = w5 at *)
                  | (have HQ5 := Lib.hid (Whole.new w9 [.int .i64 jk, .int .i64 jn] 49); have HW5 : Hid (Below wr.heap.size wr (w9.alloc (.cells #[.int .i64 jk, .int .i64 jn] 49))) := Lib.hid (HW9.out.alloc HW9.out.size _); change Exit.then _ _ _ _ (w9.alloc (.cells #[.int .i64 jk, .int .i64 jn] 49)); generalize w9.alloc (.cells #[.int .i64 jk, .int .i64 jn] 49) = w5 at *)
                have hz5 := HW5.out.size
                have b0 := HQ5.out.cells 0 _ rfl
                have b1 := HQ5.out.cells 1 _ rfl
                have HO5 := Lib.hid (own_below HOB.out HW5.out (own_block_lt HOB.out))
                have HV5 := Lib.hid (HV.out.trans (HW5.out.mono hszi))
                have hzv := HV5.out.size
                by_cases hk0 : jk = 0
                · have hke : (jk == 0) = true := beq_iff_eq.mpr hk0
                  have HBAD : Hid (∀ R, rightS m f R = false) := Lib.hid (HJZ.out (by unfold joinP; rw [HJR.out]; exact hk0))
                  go_wp2_with fail
                  go_ret2
                  exact shapes_bad2 (HW.out.trans ((HXI.out.trans (HW5.out.mono HXI.out.size)).mono (Nat.le_of_lt HZ.out))) HBAD.out
                · have hke : (jk == 0) = false := beq_eq_false_iff_ne.mpr hk0
                  have HBN : Hid (BT ++ [(jk, jn)] = ((sty.zip L).take (jj + 1)).map (fun p => joinP (supsOf m.classes) p.1 p.2) ∧ ∀ t ∈ BT ++ [(jk, jn)], ¬ t.1 = 0) := Lib.hid ⟨by rw [HJT.out]; unfold joinP; rw [HJR.out], fun t ht => by
                    rcases List.mem_append.mp ht with z | z
                    · exact HBT.out.2 t z
                    · rw [List.mem_singleton.mp z]; exact hk0⟩
                  go_wp2_with (at_builtin; refine append_liesK rfl _ _ 23 rfl wo.heap.size 49 ti (.agg #[.int .i64 0, .int .i64 0]) 2 16 Try.underlying23 hti ht0 ht1 ht2 rfl (by decide) _ jj (tysV BT) rfl (HO5.out.alloc _) (some ⟨w5.heap.size, 0, none⟩) 1 1 _ (tysV [(jk, jn)]) rfl rfl (lies_ty1 (by simp) (by go_simp) (by go_simp)) (tysV_one _) (by unfold maxLen; omega) (by omega) (by simp; omega) ?_; intro v6 w6 hown hgrow; have HX6 := Lib.hid (appK_more (HV5.out.alloc hzv _) (HO5.out.alloc _) (by simp; omega) hgrow); have HO6 := Lib.hid hown; clear hown hgrow)
                  go_roundw
                  case rel => exact ⟨jj + 1, BT ++ [(jk, jn)], by omega, by go_num, by rw [List.length_append, hBT]; rfl, Lib.hid (by show World.ownsRow _ _ _ _ _ _ ((BT ++ [(jk, jn)]).flatMap tyC); rw [List.flatMap_append]; exact HO6.out), HX6, HBN⟩
                  case measure => (simp [intOf]; try omega)
            · have hje : jj = L.length := by omega
              have hbj : BT = joinL (supsOf m.classes) sty L := by
                have := HBT.out.1
                rw [List.take_of_length_le (by rw [List.length_zip]; omega)] at this
                exact this
              have hcj := come_join (sup := supsOf m.classes) (s := shpN (X'.map Shx.shp) (tg : Int)) (st := L) (by rw [HTN.out]; exact hs2) (by rw [HTN.out]; exact hll) (HGR'.out.low.self _ (shpN_mem (by rw [List.length_map]; exact htX))) HST.out.2.1 (HGR'.out.nul _ (shpN_mem (by rw [List.length_map]; exact htX))) HST.out.2.2 (by simp only [HTN.out]; rw [← hbj]; exact HBT.out.2)
              simp only [HTN.out] at hcj
              rw [← hbj] at hcj
              have HCJ : Hid ((∀ gr : Bool, (gr = false → BT = sty) → (gr = true → ¬ BT = sty) → ComeOk (supsOf m.classes) (shpN (X'.map Shx.shp) (tg : Int)) L BT gr) ∧ NullZ BT) := Lib.hid (by rw [HTN.out]; exact hcj)
              clear hbj hcj HBT
              subst hBT
              have HOX := Lib.hid (HO.out.keep HV.out)
              have H7X := Lib.hid (slcUp TyAt.keeps H7.out HV.out)
              have H8X := Lib.hid (slcUp IntAt.keeps H8.out HV.out)
              have HZX := Lib.hid (slcUp TyAt.keeps HZL.out HV.out)
              obtain ⟨Ab2, cb, rfl, hsb, _⟩ := own_types HOB.out
              have HSB := Lib.hid hsb
              have c1 := HOX.out.stack_at htX
              rw [hyX.out] at c1
              dsimp only at c1
              obtain ⟨r, hr⟩ : ∃ r, decide (BT = sty) = r := ⟨_, rfl⟩
              have HR := Lib.hid hr
              clear hr hsb hX1
              cases r
              · go_upto_region 35 with (go_at_call 33; (with_reducible refine (rtyps_is HSB HZX hje hll HR).mono ?_); rintro e w9 ⟨rfl, hb⟩; have HB9 := Lib.hid hb; clear hb)
                clear HO H7 H8 HX
                have HO := Lib.hid (HOX.out.keep HB9.out)
                have H7 := Lib.hid (slcUp TyAt.keeps H7X.out HB9.out)
                have H8 := Lib.hid (slcUp IntAt.keeps H8X.out HB9.out)
                have HX := Lib.hid (HXI.out.trans (HB9.out.mono HXI.out.size))
                have HSB9 := Lib.hid (slcUp TyAt.keeps HSB.out HB9.out)
                have fz0 := HO.out.blk.free (tg * 2)
                have fz1 := HO.out.blk.free (tg * 2 + 1)
                have c0 := HO.out.seen_at htX
                have c1 := HO.out.stack_at htX
                have HPUT : Hid (OutIn (putW w9 w1.heap.size tg ⟨true, Ab2, cb, BT⟩) w1.heap.size (X'.set tg ⟨true, Ab2, cb, BT⟩)) := Lib.hid (HO.out.put htX HSB9.out)
                have hcf : ComeOk (supsOf m.classes) (shpN (X'.map Shx.shp) (tg : Int)) L BT true := HCJ.out.1 true (fun e => by cases e) (fun _ => of_decide_eq_false HR.out)
                have HGP : Hid (GrowL m f ((X'.set tg ⟨true, Ab2, cb, BT⟩).map Shx.shp)) := Lib.hid (by rw [List.map_set]; exact HGR'.out.put (J := BT) (by rw [List.length_map]; exact htX) (by rw [List.length_map]; exact hjX') HJS.out HNX.out HST.out.1 HNM.out hcf (by omega) HCJ.out.2 HLJ.out HSG.out)
                have HRP : Hid (rankA (supsOf m.classes).length ((X'.set tg ⟨true, Ab2, cb, BT⟩).map Shx.shp) ≤ Rk ∧ (true = true → rankA (supsOf m.classes).length ((X'.set tg ⟨true, Ab2, cb, BT⟩).map Shx.shp) < Rk)) := Lib.hid (by
                  have h1 : rankA (supsOf m.classes).length ((X'.set tg ⟨true, Ab2, cb, BT⟩).map Shx.shp) < rankA (supsOf m.classes).length (X'.map Shx.shp) := by rw [List.map_set]; exact come_less (by rw [List.length_map]; exact htX) hcf (by omega)
                  have h2 := HRX.out.1
                  exact ⟨by omega, fun _ => by omega⟩)
                have HLP : Hid (HasLen ((X'.set tg ⟨true, Ab2, cb, BT⟩).map Shx.shp) y.stack.length) := Lib.hid (by rw [List.map_set]; exact HLJ.out.put (by rw [List.length_map]; exact htX) hcf)
                clear hcf
                have HSJ : Hid ((shpN ((X'.set tg ⟨true, Ab2, cb, BT⟩).map Shx.shp) (j : Int)).seen = true) := Lib.hid (by rw [List.map_set, shpN_set (by rw [List.length_map]; exact htX)]; exact seen_ite rfl HJS.out)
                have HBP : Hid (Below w1.heap.size w1 (putW w9 w1.heap.size tg ⟨true, Ab2, cb, BT⟩)) := Lib.hid ((HX.out.setCell (p := ⟨w1.heap.size, tg * 2, none⟩) (Nat.le_refl _) _).setCell (p := ⟨w1.heap.size, tg * 2 + 1, none⟩) (Nat.le_refl _) _)
                have HZP : (putW w9 w1.heap.size tg ⟨true, Ab2, cb, BT⟩).heap.size = w9.heap.size := by simp [putW]
                have H7P : Hid (SlcIs TyAt 2 (putW w9 w1.heap.size tg ⟨true, Ab2, cb, BT⟩) (putW w9 w1.heap.size tg ⟨true, Ab2, cb, BT⟩).heap.size A7 c7 L) := Lib.hid (ty_other H7.out (by rw [HZP]; exact Nat.le_refl _) (put_other _ _ _ _) (fun i hi => HO.out.ty_apart H7.out hi))
                have H8P : Hid (SlcIs IntAt 1 (putW w9 w1.heap.size tg ⟨true, Ab2, cb, BT⟩) (putW w9 w1.heap.size tg ⟨true, Ab2, cb, BT⟩).heap.size (some adN) c8 NL) := Lib.hid (int_other H8.out (by rw [HZP]; exact Nat.le_refl _) (put_other _ _ _ _) (fun i hi => HO.out.int_apart H8.out hi))
                clear HZP
                go_wp2_with fail
                have HPUT : Hid (OutIn ((w9.setCell ⟨w1.heap.size, tg * 2, none⟩ (.bool true)).setCell ⟨w1.heap.size, tg * 2 + 1, none⟩ (.slice Ab2 L.length cb)) w1.heap.size (X'.set tg ⟨true, Ab2, cb, BT⟩)) := Lib.hid (by rw [← hje]; exact HPUT.out)
                have HBP : Hid (Below w1.heap.size w1 ((w9.setCell ⟨w1.heap.size, tg * 2, none⟩ (.bool true)).setCell ⟨w1.heap.size, tg * 2 + 1, none⟩ (.slice Ab2 L.length cb))) := Lib.hid (by rw [← hje]; exact HBP.out)
                have H7P : Hid (SlcIs TyAt 2 ((w9.setCell ⟨w1.heap.size, tg * 2, none⟩ (.bool true)).setCell ⟨w1.heap.size, tg * 2 + 1, none⟩ (.slice Ab2 L.length cb)) ((w9.setCell ⟨w1.heap.size, tg * 2, none⟩ (.bool true)).setCell ⟨w1.heap.size, tg * 2 + 1, none⟩ (.slice Ab2 L.length cb)).heap.size A7 c7 L) := Lib.hid (by rw [← hje]; exact H7P.out)
                have H8P : Hid (SlcIs IntAt 1 ((w9.setCell ⟨w1.heap.size, tg * 2, none⟩ (.bool true)).setCell ⟨w1.heap.size, tg * 2 + 1, none⟩ (.slice Ab2 L.length cb)) ((w9.setCell ⟨w1.heap.size, tg * 2, none⟩ (.bool true)).setCell ⟨w1.heap.size, tg * 2 + 1, none⟩ (.slice Ab2 L.length cb)).heap.size (some adN) c8 NL) := Lib.hid (by rw [← hje]; exact H8P.out)
                go_roundw
                case rel => exact ⟨q + 1, true, X'.set tg ⟨true, Ab2, cb, BT⟩, by omega, by go_num, rfl, by rw [List.length_set]; exact hXl', HPUT, HGP, HBP, H7P, H8P, HSJ, HLP, Lib.hid (fun g => by cases g), HRP⟩
                case measure => (simp [intOf]; try omega)
              · have HTF : Hid (t' = false → t = false ∧ X' = X ∧ ∀ n ∈ NL.take (q + 1), (shpN (X.map Shx.shp) n).seen = true ∧ FitsAll (supsOf m.classes) L (shpN (X.map Shx.shp) n).stack) := Lib.hid (fun g => HTQ.out g (by rw [HTN.out]; exact hs2) (by rw [HTN.out]; show FitsAll _ L sty; have hbs : BT = sty := of_decide_eq_true HR.out; have h1 := (HCJ.out.1 false (fun _ => hbs) (fun e => by cases e)).up; rw [hbs] at h1; exact h1))
                go_wp2_with (go_at_call 33; (with_reducible refine (rtyps_is HSB HZX hje hll HR).mono ?_); rintro e w9 ⟨rfl, hb⟩; have HB9 := Lib.hid hb; clear hb)
                have HO9 := Lib.hid (HOX.out.keep HB9.out)
                have H79 := Lib.hid (slcUp TyAt.keeps H7X.out HB9.out)
                have H89 := Lib.hid (slcUp IntAt.keeps H8X.out HB9.out)
                have HX9 := Lib.hid (HXI.out.trans (HB9.out.mono HXI.out.size))
                go_roundw
                case rel => exact ⟨q + 1, t', X', by omega, by go_num, rfl, hXl', HO9, HGR', HX9, H79, H89, HJS, HLJ, HTF, HRX⟩
                case measure => (simp [intOf]; try omega)
end Go.Proofs.Ytefgepppcmhphaa
