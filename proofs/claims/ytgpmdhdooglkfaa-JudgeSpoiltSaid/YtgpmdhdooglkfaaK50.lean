/-
  The statement on found types of which one has an operand more (JudgeSpoilt), walked: it answers true at any image, place and type.
-/
import Derived.Test.YtgpmdhdooglkfaaK49
import Derived.IntWalk
import Derived.RegionTactic
import Derived.ChangeAlike
import Derived.Deep.RegionHeld3
import Derived.Deep.QuietTactic
import Derived.BigQuiet
namespace Go.Proofs.Ytgpmdhdooglkfaa
set_option maxRecDepth 100000
set_option linter.unusedVariables false
set_option linter.unusedSimpArgs false
open Go.ChangeShapes Go.WideShapes Go.ChangeAt Go.RowKit
set_option linter.unusedVariables false
set_option linter.unusedSimpArgs false

theorem rall_is {m : Img} {h : Hnd} {w0 w : World} (HI : Hid (ImgIn w0 w0.heap.size h m)) (HX : Hid (Below w0.heap.size w0 w)) (HM : Hid (SaneI m)) : Calls Try.prog 12 #[imgV h m] w (AllOut m w) :=
  rall_any m h w (HI.out.now HX.out) HM.out (by have := HM.out.fits.ml; omega)
theorem mod_in10 {a : Int} {n : Nat} (h0 : 0 ≤ a) (hn : 0 < n) : ∃ k, k < n ∧ a % (n : Int) = (k : Int) ∧ a.tmod (n : Int) = (k : Int) :=
  ⟨a.toNat % n, Nat.mod_lt _ hn, by rw [Int.natCast_emod, Int.toNat_of_nonneg h0], by rw [Int.tmod_eq_emod_of_nonneg h0, Int.natCast_emod, Int.toNat_of_nonneg h0]⟩
theorem allV_set {XS : List (Nat × List Shx)} {i : Nat} {g : Nat} {X X' : List Shx} (hi : XS[i]? = some (g, X)) (hl : X'.length = X.length) : allV (XS.set i (g, X')) = allV XS := by
  unfold allV
  rw [List.map_set]
  refine List.ext_getElem? fun j => ?_
  rw [List.getElem?_set, List.getElem?_map]
  by_cases e : i = j
  · subst e
    have hlt := (List.getElem?_eq_some_iff.mp hi).1
    rw [if_pos rfl, if_pos (by rw [List.length_map]; exact hlt), hi]
    show some (Value.slice _ X'.length X'.length) = some (Value.slice _ X.length X.length)
    rw [hl]
  · rw [if_neg e]
theorem spoilt_maps {m : Img} {XS : List (Nat × List Shx)} {G P g yc c9 : Nat} {yA A9 : Option Addr} {ys : Bool} {X : List Shx} {yst : List (Int × Int)} {t : Int × Int} (hm : SaneI m) (hn : XS.length = m.methods.length) (hf : ∀ (i : Nat) p, XS[i]? = some p → FoundS m (i : Int) (p.2.map Shx.shp)) (hgx : XS[G]? = some (g, X)) (hy : X[P]? = some ⟨ys, yA, yc, yst⟩) :
    MapsTo 4000 (mapsOf (XS.set G (g, X.set P ⟨ys, A9, c9, yst ++ [t]⟩))) := fun S hS => by
  have hall : ∀ (i : Nat) p, XS[i]? = some p → p.2.length ≤ 1000 ∧ ∀ s ∈ p.2.map Shx.shp, s.stack.length ≤ 8 := fun i p hi => by
    have h1 := (hf i p hi).grow
    have hlt := (List.getElem?_eq_some_iff.mp hi).1
    have hx : m.methods[i]? = some m.methods[i] := List.getElem?_eq_getElem (by omega)
    have hl := h1.len
    rw [mthN_of hx, List.length_map] at hl
    have hc := (hm.method (List.mem_of_getElem? hx)).fits.cl
    exact ⟨by omega, h1.small⟩
  unfold mapsOf at hS
  obtain ⟨p, hp, rfl⟩ := List.mem_map.mp hS
  rcases List.mem_or_eq_of_mem_set hp with e | e
  · obtain ⟨i, hi, e⟩ := List.getElem_of_mem e
    obtain ⟨h1, h2⟩ := hall i p (by rw [List.getElem?_eq_getElem hi, e])
    exact ⟨by rw [List.length_map]; omega, fun s hs => by have := h2 s hs; omega⟩
  · subst e
    obtain ⟨h1, h2⟩ := hall G _ hgx
    refine ⟨by rw [List.length_map, List.length_set]; dsimp only at h1; omega, fun s hs => ?_⟩
    obtain ⟨x, hx, rfl⟩ := List.mem_map.mp hs
    rcases List.mem_or_eq_of_mem_set hx with q | q
    · have := h2 _ (List.mem_map.mpr ⟨x, q, rfl⟩)
      omega
    · subst q
      have := h2 _ (List.mem_map.mpr ⟨_, List.mem_of_getElem? hy, rfl⟩)
      show (yst ++ [t]).length ≤ 4000
      have h3 : yst.length ≤ 8 := this
      simp
      omega
theorem spoilt_not {m : Img} {x : Mth} {XS : List (Nat × List Shx)} {G P g yc c9 : Nat} {yA A9 : Option Addr} {X : List Shx} {yst : List (Int × Int)} {t : Int × Int} (hx : m.methods[G]? = some x) (hf : FoundS m (G : Int) (X.map Shx.shp)) (hgx : XS[G]? = some (g, X)) (hy : X[P]? = some ⟨true, yA, yc, yst⟩) :
    rightB m (mapsOf (XS.set G (g, X.set P ⟨true, A9, c9, yst ++ [t]⟩))) = false := by
  obtain ⟨hi, e⟩ := List.getElem?_eq_some_iff.mp hgx
  obtain ⟨hq, e2⟩ := List.getElem?_eq_some_iff.mp hy
  have hP : P < (X.map Shx.shp).length := by rw [List.length_map]; exact hq
  have hs : shpN (X.map Shx.shp) (P : Int) = ⟨true, yst⟩ := by rw [shpN_map hq, e2]; rfl
  have h1 := spoilt_wrong (st := yst ++ [t]) hx hf hP (by rw [hs]) (by rw [hs]; simp)
  have h2 : mapsOf (XS.set G (g, X.set P ⟨true, A9, c9, yst ++ [t]⟩)) = (mapsOf XS).set G ((X.map Shx.shp).set P ⟨true, yst ++ [t]⟩) := by
    unfold mapsOf
    rw [List.map_set, List.map_set]
    rfl
  rw [h2]
  exact right_spoilt (by rw [mapsOf_len]; exact hi) h1
theorem own_snoc1 {w : World} {B : Nat} {v : Value} {L : List (Int × Int)} {t : Int × Int} (h : w.ownsRow B 39 2 v (L.length + 1) (tysV L ++ tysV [t])) : ∃ A c, v = .slice A (L.length + 1) c ∧ SlcIs TyAt 2 w w.heap.size A c (L ++ [t]) := by
  have e : tysV L ++ tysV [t] = tysV (L ++ [t]) := by unfold tysV; rw [List.flatMap_append]
  have e2 : L.length + 1 = (L ++ [t]).length := by simp
  rw [e, e2] at h
  obtain ⟨A, c, hv, hs, _⟩ := own_types h
  exact ⟨A, c, by rw [hv, ← e2], hs⟩
/-- The rows, one of the shapes with an operand more. -/
structure SpoiltW (m : Img) (w1 w3 : World) (XS : List (Nat × List Shx)) (Al : Option Addr) (nl cl G P g : Nat) (X : List Shx) (t : Int × Int) (A9 : Option Addr) (c9 : Nat) (wx : World) : Prop where
  below : Below w1.heap.size w1 wx
  outs : ∀ p ∈ XS.set G (g, X.set P ⟨(X[P]?.getD ⟨false, none, 0, []⟩).seen, A9, c9, (X[P]?.getD ⟨false, none, 0, []⟩).stack ++ [t]⟩), OutIn wx p.1 p.2
  row : wx.ownsRow 0 42 1 (.slice Al nl cl) nl (allV XS)
theorem own_far10 {w : World} {B e k n : Nat} {v u : Value} {xs : List Value} {a : Addr} (h : w.ownsRow B e k v n xs) (ha : ¬ v.ownBlock = some a.block) : (w.setCell a u).ownsRow B e k v n xs := by
  refine ⟨h.1, ?_⟩
  rcases h.2 with h0 | ⟨g', cap, cur, hv, hb, hh, rest⟩
  · exact .inl h0
  · refine .inr ⟨g', cap, cur, hv, hb, ?_, rest⟩
    rw [Below.heap_setCell _ _ _ g' (fun e => ha (by rw [hv, ← e]; rfl))]
    exact hh
theorem spoilt_at {m : Img} {w1 w3 wr : World} {XS : List (Nat × List Shx)} {Al A9 yA : Option Addr} {nl cl G P g yc c9 B : Nat} {ys : Bool} {X : List Shx} {t : Int × Int} {yst : List (Int × Int)} (hx3 : Below w1.heap.size w1 w3) (hb : Below w3.heap.size w3 wr) (hall : AllIn w3 (.slice Al nl cl) XS) (hrow : w3.ownsRow B 42 1 (.slice Al nl cl) nl (allV XS))
    (hgx : XS[G]? = some (g, X)) (hy : X[P]? = some ⟨ys, yA, yc, yst⟩) (hg : w1.heap.size ≤ g) (h9 : SlcIs TyAt 2 wr wr.heap.size A9 c9 (yst ++ [t])) :
    SpoiltW m w1 w3 XS Al nl cl G P g X t A9 c9 (wr.setCell ⟨g, P * 2 + 1, none⟩ (.slice A9 (yst.length + 1) c9)) := by
  have hap : ¬ (Value.slice Al nl cl).ownBlock = some g := hall.apart _ (List.mem_of_getElem? hgx)
  have hbx := hx3.trans (hb.mono hx3.size)
  refine ⟨hbx.setCell (p := ⟨g, P * 2 + 1, none⟩) hg _, ?_, own_lower (own_far10 (own_below hrow hb (own_block_lt hrow)) hap) (Nat.zero_le _)⟩
  rw [hy]
  obtain ⟨hi, e⟩ := List.getElem?_eq_some_iff.mp hgx
  obtain ⟨hq, e2⟩ := List.getElem?_eq_some_iff.mp hy
  have hq' : P < XS[G].2.length := by rw [e]; exact hq
  have h := all_spoilt (w := wr) (i := G) (q := P) (c := c9) (A := A9) (XS := XS) (st := yst ++ [t]) (fun p hp => (hall.outs p hp).keep hb) hall.diff hi hq' h9
  have e3 : XS[G].2[P] = ⟨ys, yA, yc, yst⟩ := by simp only [e]; exact e2
  rw [e3] at h
  simp only [e] at h
  have hl : (yst ++ [t]).length = yst.length + 1 := by simp
  rw [hl] at h
  exact h
set_option maxHeartbeats 12800000 in
theorem judgeSpoilt_any (m : Img) (h : Hnd) (a1 a2 t1 t2 : Int) (w : World) (c10 : 0 ≤ a1) (c11 : a1 ≤ 255) (c20 : 0 ≤ a2) (c21 : a2 ≤ 255) (H : ImgIn w w.heap.size h m) :
    Calls Try.prog 4 #[imgV h m, .int .u8 a1, .int .u8 a2, .agg #[.int .i64 t1, .int .i64 t2]] w fun e w' => e = .returned (.bool true) ∧ Below w.heap.size w w' := by
  have hb1 : Below w.heap.size w (w.alloc (imgO h m)) := below_box
  have hb2 : Below (w.alloc (imgO h m)).heap.size (w.alloc (imgO h m)) ((w.alloc (imgO h m)).alloc (.cells #[.int .i64 t1, .int .i64 t2] 39)) := (Below.refl _ _).alloc (Nat.le_refl _) _
  have hz1 : (w.alloc (imgO h m)).heap.size = w.heap.size + 1 := by simp
  have HW : Hid (Below w.heap.size w ((w.alloc (imgO h m)).alloc (.cells #[.int .i64 t1, .int .i64 t2] 39))) := Lib.hid (hb1.trans (hb2.mono hb1.size))
  have HBX := Lib.hid ((img_box w h m).keep hb2 (by rw [hz1]; omega))
  have HTB : Hid (Whole ((w.alloc (imgO h m)).alloc (.cells #[.int .i64 t1, .int .i64 t2] 39)) (w.heap.size + 1) [.int .i64 t1, .int .i64 t2] 39) := Lib.hid (Whole.at_ hz1 [.int .i64 t1, .int .i64 t2] 39)
  have HZ : Hid (w.heap.size < ((w.alloc (imgO h m)).alloc (.cells #[.int .i64 t1, .int .i64 t2] 39)).heap.size) := Lib.hid (by simp; omega)
  have HZT : Hid (w.heap.size + 1 < ((w.alloc (imgO h m)).alloc (.cells #[.int .i64 t1, .int .i64 t2] 39)).heap.size) := Lib.hid (by simp)
  have HI := Lib.hid (H.now HW.out)
  obtain ⟨r, hr⟩ : ∃ r, saneB8 m = r := ⟨_, rfl⟩
  have HR := Lib.hid hr
  clear H hr hb1 hb2 hz1
  go_enter Try.func4, Try.ntmps4
  go_upto_region 1 with fail
  change Code.wp _ _ _ _ ((w.alloc (imgO h m)).alloc (.cells #[.int .i64 t1, .int .i64 t2] 39))
  generalize (w.alloc (imgO h m)).alloc (.cells #[.int .i64 t1, .int .i64 t2] 39) = w1 at *
  obtain ⟨q0, q1, q2, q3, q4, q5, q6⟩ := HBX.out
  have HX : Hid (Below w1.heap.size w1 w1) := Lib.hid (Below.refl _ _)
  cases r
  · go_wp2_with (first | (go_at_call 6; (with_reducible refine (sane10_is HI HX HR).mono ?_); rintro e w7 ⟨rfl, hb⟩; have HX := Lib.hid (HX.out.trans (hb.mono HX.out.size)); clear hb; obtain ⟨q0, q1, q2, q3, q4, q5, q6⟩ := HBX.out.keep HX.out HZ.out) | (go_at_call 8; (with_reducible refine (judgeAwake_any _).mono ?_); rintro e w7 ⟨rfl, hb⟩; have HX := Lib.hid (HX.out.trans (hb.mono HX.out.size)); clear hb; obtain ⟨q0, q1, q2, q3, q4, q5, q6⟩ := HBX.out.keep HX.out HZ.out))
    go_ret
    exact ⟨by first | rfl | simp, HW.out.trans (HX.out.mono (Nat.le_of_lt HZ.out))⟩
  have HM := Lib.hid (saneB8_yes HR.out)
  by_cases hz : m.methods.length = 0
  · have ht : ((m.methods.length : Int) == 0) = true := beq_iff_eq.mpr (by omega)
    clear hz
    go_wp2_with (first | (go_at_call 6; (with_reducible refine (sane10_is HI HX HR).mono ?_); rintro e w7 ⟨rfl, hb⟩; have HX := Lib.hid (HX.out.trans (hb.mono HX.out.size)); clear hb; obtain ⟨q0, q1, q2, q3, q4, q5, q6⟩ := HBX.out.keep HX.out HZ.out) | (go_at_call 8; (with_reducible refine (judgeAwake_any _).mono ?_); rintro e w7 ⟨rfl, hb⟩; have HX := Lib.hid (HX.out.trans (hb.mono HX.out.size)); clear hb; obtain ⟨q0, q1, q2, q3, q4, q5, q6⟩ := HBX.out.keep HX.out HZ.out))
    go_ret
    exact ⟨by first | rfl | simp, HW.out.trans (HX.out.mono (Nat.le_of_lt HZ.out))⟩
  have hnp : 0 < m.methods.length := by omega
  have ht : ((m.methods.length : Int) == 0) = false := beq_eq_false_iff_ne.mpr (by omega)
  clear hz
  go_upto_region 4 with (first | (go_at_call 6; (with_reducible refine (sane10_is HI HX HR).mono ?_); rintro e w7 ⟨rfl, hb⟩; have HX := Lib.hid (HX.out.trans (hb.mono HX.out.size)); clear hb; obtain ⟨q0, q1, q2, q3, q4, q5, q6⟩ := HBX.out.keep HX.out HZ.out) | (go_at_call 12; (with_reducible refine (rall_is HI HX HM).mono ?_); rintro e w3 ⟨Al, nl, cl, bad, rfl, hb, hyes⟩; have HYES := Lib.hid hyes; have HV3 := Lib.hid hb; have HX3 := Lib.hid (HX.out.trans (hb.mono HX.out.size)); clear hb hyes))
  by_cases hbad : 0 ≤ bad
  · have hbi : bad ≥ 0 := hbad
    have HX := HX3
    go_wp2_with (first | (go_at_call 8; (with_reducible refine (judgeAwake_any _).mono ?_); rintro e w7 ⟨rfl, hb⟩; have HX := Lib.hid (HX.out.trans (hb.mono HX.out.size)); clear hb; obtain ⟨q0, q1, q2, q3, q4, q5, q6⟩ := HBX.out.keep HX.out HZ.out))
    go_ret
    exact ⟨by first | rfl | simp, HW.out.trans (HX.out.mono (Nat.le_of_lt HZ.out))⟩
  have hbi : ¬ bad ≥ 0 := hbad
  obtain ⟨XS, hn1, hn2, hrow, hall, hlow, hfound⟩ := HYES.out (by omega)
  subst hn1
  obtain ⟨G, hG, e1, e2⟩ := mod_in10 (a := a1) c10 hnp
  have hGX : G < XS.length := by omega
  obtain ⟨⟨g, X⟩, hgx⟩ : ∃ p, XS[G]? = some p := ⟨_, List.getElem?_eq_getElem hGX⟩
  have hfd : FoundS m (G : Int) (X.map Shx.shp) := hfound G _ hgx
  have hX0 : OutIn w3 g X := hall.outs _ (List.mem_of_getElem? hgx)
  obtain ⟨x, hx⟩ : ∃ x, m.methods[G]? = some x := ⟨_, List.getElem?_eq_getElem hG⟩
  have hxm := HM.out.method (List.mem_of_getElem? hx)
  have hXl : X.length = x.code.length := by
    have := hfd.grow.len
    rw [mthN_of hx, List.length_map] at this
    exact this
  have hXp : 0 < X.length := by rw [hXl]; exact hxm.cp
  have hXm : X.length ≤ 1000 := by have := hxm.fits.cl; omega
  obtain ⟨P, hP, e3, e4⟩ := mod_in10 (a := a2) c20 hXp
  obtain ⟨Ag, hAl⟩ : ∃ gm, Al = some ⟨gm, 0, none⟩ := by
    rcases ownK_slice hrow with ⟨_, hz⟩ | ⟨gm, c', e, _, _⟩
    · omega
    · injection e with e; exact ⟨gm, e⟩
  subst hAl
  obtain ⟨_, hrc⟩ := ownK_cell hrow
  have hgv : (allV XS)[G]? = some (.slice (some ⟨g, 0, none⟩) X.length X.length) := by unfold allV; rw [List.getElem?_map, hgx]; rfl
  obtain ⟨rc0, hgm⟩ := hrc G _ hgv
  have HROW := Lib.hid hrow
  have HALL := Lib.hid hall
  have HFD := Lib.hid hfd
  have HX0 := Lib.hid hX0
  have HGX := Lib.hid hgx
  have HGM := Lib.hid hx
  have HXL := Lib.hid hXl
  have HLOW := Lib.hid (hlow _ (List.mem_of_getElem? hgx))
  have HN2 := Lib.hid hn2
  have HFOUND := Lib.hid hfound
  have hgA : g ≠ Ag := fun e => hall.apart _ (List.mem_of_getElem? hgx) (by rw [e]; rfl)
  have hgT : w.heap.size + 1 < g := by have := HLOW.out; have h2 := HX.out.size; have h3 := HZT.out; dsimp only at this; omega
  have HGA := Lib.hid (And.intro hgA hgT)
  obtain ⟨⟨ys, yA, yc, yst⟩, hy⟩ : ∃ y, X[P] = y := ⟨_, rfl⟩
  have hy' : X[P]? = some ⟨ys, yA, yc, yst⟩ := by rw [List.getElem?_eq_getElem hP, hy]
  have HY := Lib.hid hy'
  have hst0 := hX0.row _ (List.getElem_mem hP)
  rw [hy] at hst0
  have HST := Lib.hid hst0
  have hs8 : yst.length ≤ 8 := by
    have := hfd.grow.small (X[P].shp) (List.mem_map.mpr ⟨_, List.getElem_mem hP, rfl⟩)
    rw [hy] at this
    exact this
  have hcs := hX0.seen_at hP
  have hck := hX0.stack_at hP
  rw [hy] at hcs hck
  dsimp only at hcs hck
  have HCELL : Hid (∀ W, Below w3.heap.size w3 W → W.cell? ⟨g, P * 2 + 1, none⟩ = some (.slice yA yst.length yc) ∧ W.frozen? ⟨g, P * 2 + 1, none⟩ = false) := Lib.hid (fun W hW => ⟨(hW.cell (p := ⟨g, P * 2 + 1, none⟩) HX0.out.blk.lt).trans hck, ((HX0.out.keep hW).blk.free _)⟩)
  have HSEEN := Lib.hid hcs
  have HKS : Hid (∀ W, Below w3.heap.size w3 W → (fun w' => w'.cell? ⟨Ag, G, none⟩ = some (.slice (some ⟨g, 0, none⟩) X.length X.length) ∧ w'.cell? ⟨w.heap.size + 1, 0, none⟩ = some (.int .i64 t1) ∧ w'.cell? ⟨w.heap.size + 1, 1, none⟩ = some (.int .i64 t2)) W) := Lib.hid (fun W hW => by
    have hT := (HTB.out.keep HX3.out HZT.out).keep hW (Nat.lt_of_lt_of_le HZT.out HX3.out.size)
    exact ⟨(hW.cell (p := ⟨Ag, G, none⟩) hgm).trans rc0, hT.cells 0 _ rfl, hT.cells 1 _ rfl⟩)
  have HKT : Hid (∀ W v, Below w3.heap.size w3 W → (fun w' => w'.cell? ⟨Ag, G, none⟩ = some (.slice (some ⟨g, 0, none⟩) X.length X.length) ∧ w'.cell? ⟨w.heap.size + 1, 0, none⟩ = some (.int .i64 t1) ∧ w'.cell? ⟨w.heap.size + 1, 1, none⟩ = some (.int .i64 t2)) (W.setCell ⟨g, P * 2 + 1, none⟩ v)) := Lib.hid (fun W v hW => by
    obtain ⟨k0, k1, k2⟩ := HKS.out W hW
    exact ⟨(World.cell?_setCell_far _ _ _ _ (fun e => HGA.out.1 e)).trans k0, (World.cell?_setCell_far _ _ _ _ (Nat.ne_of_gt HGA.out.2)).trans k1, (World.cell?_setCell_far _ _ _ _ (Nat.ne_of_gt HGA.out.2)).trans k2⟩)
  clear hrow hall hfd hX0 hgx hx hXl hlow hn2 hfound hgA hgT hy hy' hst0 hcs hck hrc hgv hxm HYES
  obtain ⟨nX, hnX⟩ : ∃ n, X.length = n := ⟨_, rfl⟩
  have HNX := Lib.hid hnX
  rw [hnX] at rc0 e3 e4 hP hXp hXm
  have HP := Lib.hid hP
  simp only [hnX] at HKS HKT
  clear hnX
  go_upto_region 8 with fail
  obtain ⟨ti, hti, ht0, ht1, ht2⟩ := info_partsK info_type
  go_cut [] (fun wx => ∃ A9 c9, Hid (SpoiltW m w1 w3 XS (some ⟨Ag, 0, none⟩) m.methods.length cl G P g X (t1, t2) A9 c9 wx))
  case first =>
    have HB : Hid (Below w3.heap.size w3 w3.drew) := Lib.hid (Below.refl _ _).drew
    obtain ⟨z0, z1⟩ := HCELL.out _ HB.out
    refine wp_region_noPanic ?_
    refine wp_region_held_drew (S := fun w' => w'.cell? ⟨Ag, G, none⟩ = some (.slice (some ⟨g, 0, none⟩) nX nX) ∧ w'.cell? ⟨w.heap.size + 1, 0, none⟩ = some (.int .i64 t1) ∧ w'.cell? ⟨w.heap.size + 1, 1, none⟩ = some (.int .i64 t2)) (by kernel_rfl) (HKS.out _ HB.out) (fun hHeld => ?_)
    generalize w3.drew = w4 at HB z0 z1 hHeld ⊢
    refine wpAnyH_take (i := 0) (oi := _) (v := ?_) rfl (by kernel_rfl) (by kernel_rfl) (by kernel_rfl) (fun _ _ _ h => h) (Or.inl ⟨by rfl, ?_⟩) (by assumption) ?_
    rotate_left
    · (intro w hSw; (try dsimp only at hSw); go_simp <;> with_reducible rfl)
    try simp only [List.getElem_toArray, List.getElem_cons_succ, List.getElem_cons_zero, Act.put, List.setIfInBounds_toArray, List.set_cons_zero, List.set_cons_succ]
    refine wpAnyH_take (i := 1) (oi := _) (v := ?_) rfl (by kernel_rfl) (by kernel_rfl) (by kernel_rfl) (fun _ _ _ h => h) (Or.inl ⟨by rfl, ?_⟩) (by assumption) ?_
    rotate_left
    · (intro w hSw; (try dsimp only at hSw); go_simp <;> with_reducible rfl)
    try simp only [List.getElem_toArray, List.getElem_cons_succ, List.getElem_cons_zero, Act.put, List.setIfInBounds_toArray, List.set_cons_zero, List.set_cons_succ]
    refine wpAnyH_take (i := 2) (oi := _) (v := ?_) rfl (by kernel_rfl) (by kernel_rfl) (by kernel_rfl) (fun _ _ _ h => h) (Or.inl ⟨by rfl, ?_⟩) (by assumption) ?_
    rotate_left
    · (intro w hSw; (try dsimp only at hSw); go_simp <;> with_reducible rfl)
    try simp only [List.getElem_toArray, List.getElem_cons_succ, List.getElem_cons_zero, Act.put, List.setIfInBounds_toArray, List.set_cons_zero, List.set_cons_succ]
    refine wpAnyH_take (i := 3) (oi := _) (v := ?_) rfl (by kernel_rfl) (by kernel_rfl) (by kernel_rfl) (fun _ _ _ h => h) (Or.inl ⟨by rfl, ?_⟩) (by assumption) ?_
    rotate_left
    · (intro w hSw; (try dsimp only at hSw); go_simp <;> with_reducible rfl)
    try simp only [List.getElem_toArray, List.getElem_cons_succ, List.getElem_cons_zero, Act.put, List.setIfInBounds_toArray, List.set_cons_zero, List.set_cons_succ]
    refine wpAnyH_take (i := 4) (oi := _) (v := ?_) rfl (by kernel_rfl) (by kernel_rfl) (by kernel_rfl) (fun _ _ _ h => h) (Or.inl ⟨by rfl, ?_⟩) (by assumption) ?_
    rotate_left
    · (intro w hSw; (try dsimp only at hSw); go_simp <;> with_reducible rfl)
    try simp only [List.getElem_toArray, List.getElem_cons_succ, List.getElem_cons_zero, Act.put, List.setIfInBounds_toArray, List.set_cons_zero, List.set_cons_succ]
    refine wpAnyH_take (i := 6) (oi := _) (v := ?_) rfl (by kernel_rfl) (by kernel_rfl) (by kernel_rfl) (fun _ _ _ h => h) (Or.inl ⟨by rfl, ?_⟩) (by assumption) ?_
    rotate_left
    · (intro w hSw; (try dsimp only at hSw); go_simp <;> with_reducible rfl)
    try simp only [List.getElem_toArray, List.getElem_cons_succ, List.getElem_cons_zero, Act.put, List.setIfInBounds_toArray, List.set_cons_zero, List.set_cons_succ]
    refine wpAnyH_take (i := 7) (oi := _) (v := ?_) rfl (by kernel_rfl) (by kernel_rfl) (by kernel_rfl) (fun _ _ _ h => h) (Or.inl ⟨by rfl, ?_⟩) (by assumption) ?_
    rotate_left
    · (intro w hSw; (try dsimp only at hSw); go_simp <;> with_reducible rfl)
    try simp only [List.getElem_toArray, List.getElem_cons_succ, List.getElem_cons_zero, Act.put, List.setIfInBounds_toArray, List.set_cons_zero, List.set_cons_succ]
    refine wpAnyH_take (i := 8) (oi := _) (v := ?_) rfl (by kernel_rfl) (by kernel_rfl) (by kernel_rfl) (fun _ _ _ h => h) (Or.inl ⟨by rfl, ?_⟩) (by assumption) ?_
    rotate_left
    · (intro w hSw; (try dsimp only at hSw); go_simp <;> with_reducible rfl)
    try simp only [List.getElem_toArray, List.getElem_cons_succ, List.getElem_cons_zero, Act.put, List.setIfInBounds_toArray, List.set_cons_zero, List.set_cons_succ]
    refine wpAnyH_take (i := 9) (oi := _) (v := ?_) rfl (by kernel_rfl) (by kernel_rfl) (by kernel_rfl) (fun _ _ _ h => h) (Or.inl ⟨by rfl, ?_⟩) (by assumption) ?_
    rotate_left
    · (intro w hSw; (try dsimp only at hSw); go_simp <;> with_reducible rfl)
    try simp only [List.getElem_toArray, List.getElem_cons_succ, List.getElem_cons_zero, Act.put, List.setIfInBounds_toArray, List.set_cons_zero, List.set_cons_succ]
    refine wpAnyH_take (i := 10) (oi := _) (v := ?_) rfl (by kernel_rfl) (by kernel_rfl) (by kernel_rfl) (fun _ _ _ h => h) (Or.inl ⟨by rfl, ?_⟩) (by assumption) ?_
    rotate_left
    · (intro w hSw; (try dsimp only at hSw); go_simp <;> with_reducible rfl)
    try simp only [List.getElem_toArray, List.getElem_cons_succ, List.getElem_cons_zero, Act.put, List.setIfInBounds_toArray, List.set_cons_zero, List.set_cons_succ]
    refine wpAnyH_take (i := 11) (oi := _) (v := ?_) rfl (by kernel_rfl) (by kernel_rfl) (by kernel_rfl) (fun _ _ _ h => h) (Or.inl ⟨by rfl, ?_⟩) (by assumption) ?_
    rotate_left
    · (intro w hSw; (try dsimp only at hSw); go_simp <;> with_reducible rfl)
    try simp only [List.getElem_toArray, List.getElem_cons_succ, List.getElem_cons_zero, Act.put, List.setIfInBounds_toArray, List.set_cons_zero, List.set_cons_succ]
    refine wpAnyH_take (i := 12) (oi := _) (v := ?_) rfl (by kernel_rfl) (by kernel_rfl) (by kernel_rfl) (fun _ _ _ h => h) (Or.inl ⟨by rfl, ?_⟩) (by assumption) ?_
    rotate_left
    · (intro w hSw; (try dsimp only at hSw); go_simp <;> with_reducible rfl)
    try simp only [List.getElem_toArray, List.getElem_cons_succ, List.getElem_cons_zero, Act.put, List.setIfInBounds_toArray, List.set_cons_zero, List.set_cons_succ]
    refine wpAnyH_take (i := 15) (oi := _) (v := ?_) rfl (by kernel_rfl) (by kernel_rfl) (by kernel_rfl) (fun _ _ _ h => h) (Or.inl ⟨by rfl, ?_⟩) (by assumption) ?_
    rotate_left
    · (intro w hSw; (try dsimp only at hSw); go_simp <;> with_reducible rfl)
    try simp only [List.getElem_toArray, List.getElem_cons_succ, List.getElem_cons_zero, Act.put, List.setIfInBounds_toArray, List.set_cons_zero, List.set_cons_succ]
    refine wpAnyH_ready (rs := [5, 13, 16]) (by kernel_rfl) (by simp) ?_
    refine (AllReadyH.cons (o := _) rfl (fun K hK => ?_) (AllReadyH.cons (o := _) rfl (fun K hK => ?_) (AllReadyH.cons (o := _) rfl (fun K hK => ?_) AllReadyH.nil)))
    · go_simp
      have HE : Hid (((w4).alloc (.cells #[] 39)).ownsRow w3.heap.size 39 2 (.slice (some ⟨w4.heap.size, 0, none⟩) 0 0) 0 []) := Lib.hid (own_lower (own_emptyK (w4) 39 2) HB.out.size); have HB : Hid (Below w3.heap.size w3 ((w4).alloc (.cells #[] 39))) := Lib.hid (HB.out.alloc HB.out.size _); have HE0 : Hid (w4.heap.size < ((w4).alloc (.cells #[] 39)).heap.size) := Lib.hid (by simp); generalize (w4).alloc (.cells #[] 39) = w101 at HB HE HE0 ⊢; have HZ0 := HCELL.out _ HB.out; obtain ⟨z0, z1⟩ := HZ0
      refine hK.out _ _ (HKS.out _ HB.out) (fun hHeld => ?_)
      clear hK K
      try simp only [List.getElem_toArray, List.getElem_cons_succ, List.getElem_cons_zero, Act.put, List.setIfInBounds_toArray, List.set_cons_zero, List.set_cons_succ]
      refine wpAnyH_ready (rs := [13, 16]) (by kernel_rfl) (by simp) ?_
      refine (AllReadyH.cons (o := _) rfl (fun K hK => ?_) (AllReadyH.cons (o := _) rfl (fun K hK => ?_) AllReadyH.nil))
      · go_simp
        refine hK.out _ _ hHeld (fun hHeld => ?_)
        clear hK K
        try simp only [List.getElem_toArray, List.getElem_cons_succ, List.getElem_cons_zero, Act.put, List.setIfInBounds_toArray, List.set_cons_zero, List.set_cons_succ]
        refine wpAnyH_ready (rs := [14, 16]) (by kernel_rfl) (by simp) ?_
        refine (AllReadyH.cons (o := _) rfl (fun K hK => ?_) (AllReadyH.cons (o := _) rfl (fun K hK => ?_) AllReadyH.nil))
        · have HTT := Lib.hid (tys_lie ((HST.out.below_to TyAt.keeps HB.out (Nat.le_refl _)).keep' TyAt.keeps HB.out.size (fun _ _ => rfl)).row); have hsz := HB.out.size; refine step_appK rfl _ _ 23 rfl w3.heap.size 39 ti (.agg #[.int .i64 0, .int .i64 0]) 2 16 Try.underlying23 hti ht0 ht1 ht2 rfl (by decide) (.slice (some ⟨w4.heap.size, 0, none⟩) 0 0) 0 [] rfl HE.out yA yst.length yc _ (tysV yst) (tysV_len _) rfl HTT.out (tysV_one _) (by unfold maxLen; omega) (by omega) hsz ?_; intro v106 w106 hown hgrow; have HV : Hid (w106.ownsRow w3.heap.size 39 2 v106 yst.length (tysV yst)) := Lib.hid (by simpa using hown); have HB := Lib.hid (appK_more HB.out HE.out hsz hgrow); clear hown hgrow hsz; have HZ0 := HCELL.out _ HB.out; obtain ⟨z0, z1⟩ := HZ0
          refine hK.out _ _ (HKS.out _ HB.out) (fun hHeld => ?_)
          clear hK K
          try simp only [List.getElem_toArray, List.getElem_cons_succ, List.getElem_cons_zero, Act.put, List.setIfInBounds_toArray, List.set_cons_zero, List.set_cons_succ]
          refine wpAnyH_ready (rs := [16]) (by kernel_rfl) (by simp) ?_
          refine AllReadyH.cons (o := _) rfl (fun K hK => ?_) AllReadyH.nil
          go_simp
          have HB : Hid (Below w3.heap.size w3 ((w106).alloc (.cells #[.int .i64 t1, .int .i64 t2] 39))) := Lib.hid (HB.out.alloc HB.out.size _); have HV : Hid (((w106).alloc (.cells #[.int .i64 t1, .int .i64 t2] 39)).ownsRow w3.heap.size 39 2 v106 yst.length (tysV yst)) := Lib.hid (HV.out.alloc _); have HC : Hid (Whole ((w106).alloc (.cells #[.int .i64 t1, .int .i64 t2] 39)) w106.heap.size [.int .i64 t1, .int .i64 t2] 39) := Lib.hid (Whole.new _ _ _); have HC0 : Hid (w106.heap.size < ((w106).alloc (.cells #[.int .i64 t1, .int .i64 t2] 39)).heap.size) := Lib.hid (by simp); generalize (w106).alloc (.cells #[.int .i64 t1, .int .i64 t2] 39) = w108 at HB HV HC HC0 ⊢; have HZ0 := HCELL.out _ HB.out; obtain ⟨z0, z1⟩ := HZ0
          refine hK.out _ _ (HKS.out _ HB.out) (fun hHeld => ?_)
          clear hK K
          try simp only [List.getElem_toArray, List.getElem_cons_succ, List.getElem_cons_zero, Act.put, List.setIfInBounds_toArray, List.set_cons_zero, List.set_cons_succ]
          refine wpAnyH_ready (rs := [17]) (by kernel_rfl) (by simp) ?_
          refine AllReadyH.cons (o := _) rfl (fun K hK => ?_) AllReadyH.nil
          have HTC := Lib.hid (lies_ty1 HC.out.lt (HC.out.cells 0 _ rfl) (HC.out.cells 1 _ rfl)); have hsz := HB.out.size; refine step_appK rfl _ _ 23 rfl w3.heap.size 39 ti (.agg #[.int .i64 0, .int .i64 0]) 2 16 Try.underlying23 hti ht0 ht1 ht2 rfl (by decide) v106 yst.length (tysV yst) rfl HV.out (some ⟨w106.heap.size, 0, none⟩) 1 1 _ (tysV [(t1, t2)]) (tysV_len _) rfl HTC.out (tysV_one _) (by unfold maxLen; omega) (by omega) hsz ?_; intro v109 w109 hown hgrow; have HB := Lib.hid (appK_more HB.out HV.out hsz hgrow); clear hgrow hsz; obtain ⟨A9, c9, rfl, h9⟩ := own_snoc1 hown; have H9 := Lib.hid h9; clear hown h9; have HZ0 := HCELL.out _ HB.out; obtain ⟨z0, z1⟩ := HZ0
          refine hK.out _ _ (HKS.out _ HB.out) (fun hHeld => ?_)
          clear hK K
          try simp only [List.getElem_toArray, List.getElem_cons_succ, List.getElem_cons_zero, Act.put, List.setIfInBounds_toArray, List.set_cons_zero, List.set_cons_succ]
          refine wpAnyH_take (i := 18) (oi := _) (v := ?_) rfl (by kernel_rfl) (by kernel_rfl) (by kernel_rfl) (fun _ _ _ h => h) (Or.inl ⟨by rfl, ?_⟩) (by assumption) ?_
          rotate_left
          · (intro w hSw; (try dsimp only at hSw); go_simp <;> with_reducible rfl)
          try simp only [List.getElem_toArray, List.getElem_cons_succ, List.getElem_cons_zero, Act.put, List.setIfInBounds_toArray, List.set_cons_zero, List.set_cons_succ]
          refine wpAnyH_take (i := 19) (oi := _) (v := ?_) rfl (by kernel_rfl) (by kernel_rfl) (by kernel_rfl) (fun _ _ _ h => h) (Or.inl ⟨by rfl, ?_⟩) (by assumption) ?_
          rotate_left
          · (intro w hSw; (try dsimp only at hSw); go_simp <;> with_reducible rfl)
          try simp only [List.getElem_toArray, List.getElem_cons_succ, List.getElem_cons_zero, Act.put, List.setIfInBounds_toArray, List.set_cons_zero, List.set_cons_succ]
          refine wpAnyH_ready (rs := [20]) (by kernel_rfl) (by simp) ?_
          refine AllReadyH.cons (o := _) rfl (fun K hK => ?_) AllReadyH.nil
          go_simp
          refine hK.out _ _ (HKT.out _ _ HB.out) (fun hHeld => ?_)
          clear hK K
          try simp only [List.getElem_toArray, List.getElem_cons_succ, List.getElem_cons_zero, Act.put, List.setIfInBounds_toArray, List.set_cons_zero, List.set_cons_succ]
          refine wpAnyH_done (by kernel_rfl) ?_ _
          refine NoPanic.normal ?_
          go_wp2_with fail
          go_meet
          case rel => exact ⟨A9, c9, Lib.hid (spoilt_at HX3.out HB.out HALL.out HROW.out HGX.out HY.out (Nat.le_trans HX.out.size HLOW.out) H9.out)⟩
        · go_simp
          have HB : Hid (Below w3.heap.size w3 ((w101).alloc (.cells #[.int .i64 t1, .int .i64 t2] 39))) := Lib.hid (HB.out.alloc HB.out.size _); have HE : Hid (((w101).alloc (.cells #[.int .i64 t1, .int .i64 t2] 39)).ownsRow w3.heap.size 39 2 (.slice (some ⟨w4.heap.size, 0, none⟩) 0 0) 0 []) := Lib.hid (HE.out.alloc _); have HNE : Hid (w4.heap.size ≠ w101.heap.size) := Lib.hid (Nat.ne_of_lt HE0.out); have HC : Hid (Whole ((w101).alloc (.cells #[.int .i64 t1, .int .i64 t2] 39)) w101.heap.size [.int .i64 t1, .int .i64 t2] 39) := Lib.hid (Whole.new _ _ _); have HC0 : Hid (w101.heap.size < ((w101).alloc (.cells #[.int .i64 t1, .int .i64 t2] 39)).heap.size) := Lib.hid (by simp); generalize (w101).alloc (.cells #[.int .i64 t1, .int .i64 t2] 39) = w107 at HB HE HC HC0 ⊢; have HZ0 := HCELL.out _ HB.out; obtain ⟨z0, z1⟩ := HZ0
          refine hK.out _ _ (HKS.out _ HB.out) (fun hHeld => ?_)
          clear hK K
          try simp only [List.getElem_toArray, List.getElem_cons_succ, List.getElem_cons_zero, Act.put, List.setIfInBounds_toArray, List.set_cons_zero, List.set_cons_succ]
          refine wpAnyH_ready (rs := [14]) (by kernel_rfl) (by simp) ?_
          refine AllReadyH.cons (o := _) rfl (fun K hK => ?_) AllReadyH.nil
          have HTT := Lib.hid (tys_lie ((HST.out.below_to TyAt.keeps HB.out (Nat.le_refl _)).keep' TyAt.keeps HB.out.size (fun _ _ => rfl)).row); have hsz := HB.out.size; refine step_appK rfl _ _ 23 rfl w3.heap.size 39 ti (.agg #[.int .i64 0, .int .i64 0]) 2 16 Try.underlying23 hti ht0 ht1 ht2 rfl (by decide) (.slice (some ⟨w4.heap.size, 0, none⟩) 0 0) 0 [] rfl HE.out yA yst.length yc _ (tysV yst) (tysV_len _) rfl HTT.out (tysV_one _) (by unfold maxLen; omega) (by omega) hsz ?_; intro v110 w110 hown hgrow; have HV : Hid (w110.ownsRow w3.heap.size 39 2 v110 yst.length (tysV yst)) := Lib.hid (by simpa using hown); have HC : Hid (Whole w110 w101.heap.size [.int .i64 t1, .int .i64 t2] 39) := Lib.hid ((hgrow.block _ HC.out.lt (fun e => HNE.out (by simpa [Value.ownBlock] using e.symm))).trans HC.out); have HB := Lib.hid (appK_more HB.out HE.out hsz hgrow); clear hown hgrow hsz; have HZ0 := HCELL.out _ HB.out; obtain ⟨z0, z1⟩ := HZ0
          refine hK.out _ _ (HKS.out _ HB.out) (fun hHeld => ?_)
          clear hK K
          try simp only [List.getElem_toArray, List.getElem_cons_succ, List.getElem_cons_zero, Act.put, List.setIfInBounds_toArray, List.set_cons_zero, List.set_cons_succ]
          refine wpAnyH_ready (rs := [17]) (by kernel_rfl) (by simp) ?_
          refine AllReadyH.cons (o := _) rfl (fun K hK => ?_) AllReadyH.nil
          have HTC := Lib.hid (lies_ty1 HC.out.lt (HC.out.cells 0 _ rfl) (HC.out.cells 1 _ rfl)); have hsz := HB.out.size; refine step_appK rfl _ _ 23 rfl w3.heap.size 39 ti (.agg #[.int .i64 0, .int .i64 0]) 2 16 Try.underlying23 hti ht0 ht1 ht2 rfl (by decide) v110 yst.length (tysV yst) rfl HV.out (some ⟨w101.heap.size, 0, none⟩) 1 1 _ (tysV [(t1, t2)]) (tysV_len _) rfl HTC.out (tysV_one _) (by unfold maxLen; omega) (by omega) hsz ?_; intro v111 w111 hown hgrow; have HB := Lib.hid (appK_more HB.out HV.out hsz hgrow); clear hgrow hsz; obtain ⟨A9, c9, rfl, h9⟩ := own_snoc1 hown; have H9 := Lib.hid h9; clear hown h9; have HZ0 := HCELL.out _ HB.out; obtain ⟨z0, z1⟩ := HZ0
          refine hK.out _ _ (HKS.out _ HB.out) (fun hHeld => ?_)
          clear hK K
          try simp only [List.getElem_toArray, List.getElem_cons_succ, List.getElem_cons_zero, Act.put, List.setIfInBounds_toArray, List.set_cons_zero, List.set_cons_succ]
          refine wpAnyH_take (i := 18) (oi := _) (v := ?_) rfl (by kernel_rfl) (by kernel_rfl) (by kernel_rfl) (fun _ _ _ h => h) (Or.inl ⟨by rfl, ?_⟩) (by assumption) ?_
          rotate_left
          · (intro w hSw; (try dsimp only at hSw); go_simp <;> with_reducible rfl)
          try simp only [List.getElem_toArray, List.getElem_cons_succ, List.getElem_cons_zero, Act.put, List.setIfInBounds_toArray, List.set_cons_zero, List.set_cons_succ]
          refine wpAnyH_take (i := 19) (oi := _) (v := ?_) rfl (by kernel_rfl) (by kernel_rfl) (by kernel_rfl) (fun _ _ _ h => h) (Or.inl ⟨by rfl, ?_⟩) (by assumption) ?_
          rotate_left
          · (intro w hSw; (try dsimp only at hSw); go_simp <;> with_reducible rfl)
          try simp only [List.getElem_toArray, List.getElem_cons_succ, List.getElem_cons_zero, Act.put, List.setIfInBounds_toArray, List.set_cons_zero, List.set_cons_succ]
          refine wpAnyH_ready (rs := [20]) (by kernel_rfl) (by simp) ?_
          refine AllReadyH.cons (o := _) rfl (fun K hK => ?_) AllReadyH.nil
          go_simp
          refine hK.out _ _ (HKT.out _ _ HB.out) (fun hHeld => ?_)
          clear hK K
          try simp only [List.getElem_toArray, List.getElem_cons_succ, List.getElem_cons_zero, Act.put, List.setIfInBounds_toArray, List.set_cons_zero, List.set_cons_succ]
          refine wpAnyH_done (by kernel_rfl) ?_ _
          refine NoPanic.normal ?_
          go_wp2_with fail
          go_meet
          case rel => exact ⟨A9, c9, Lib.hid (spoilt_at HX3.out HB.out HALL.out HROW.out HGX.out HY.out (Nat.le_trans HX.out.size HLOW.out) H9.out)⟩
      · go_simp
        have HB : Hid (Below w3.heap.size w3 ((w101).alloc (.cells #[.int .i64 t1, .int .i64 t2] 39))) := Lib.hid (HB.out.alloc HB.out.size _); have HE : Hid (((w101).alloc (.cells #[.int .i64 t1, .int .i64 t2] 39)).ownsRow w3.heap.size 39 2 (.slice (some ⟨w4.heap.size, 0, none⟩) 0 0) 0 []) := Lib.hid (HE.out.alloc _); have HNE : Hid (w4.heap.size ≠ w101.heap.size) := Lib.hid (Nat.ne_of_lt HE0.out); have HC : Hid (Whole ((w101).alloc (.cells #[.int .i64 t1, .int .i64 t2] 39)) w101.heap.size [.int .i64 t1, .int .i64 t2] 39) := Lib.hid (Whole.new _ _ _); have HC0 : Hid (w101.heap.size < ((w101).alloc (.cells #[.int .i64 t1, .int .i64 t2] 39)).heap.size) := Lib.hid (by simp); generalize (w101).alloc (.cells #[.int .i64 t1, .int .i64 t2] 39) = w105 at HB HE HC HC0 ⊢; have HZ0 := HCELL.out _ HB.out; obtain ⟨z0, z1⟩ := HZ0
        refine hK.out _ _ (HKS.out _ HB.out) (fun hHeld => ?_)
        clear hK K
        try simp only [List.getElem_toArray, List.getElem_cons_succ, List.getElem_cons_zero, Act.put, List.setIfInBounds_toArray, List.set_cons_zero, List.set_cons_succ]
        refine wpAnyH_ready (rs := [13]) (by kernel_rfl) (by simp) ?_
        refine AllReadyH.cons (o := _) rfl (fun K hK => ?_) AllReadyH.nil
        go_simp
        refine hK.out _ _ hHeld (fun hHeld => ?_)
        clear hK K
        try simp only [List.getElem_toArray, List.getElem_cons_succ, List.getElem_cons_zero, Act.put, List.setIfInBounds_toArray, List.set_cons_zero, List.set_cons_succ]
        refine wpAnyH_ready (rs := [14]) (by kernel_rfl) (by simp) ?_
        refine AllReadyH.cons (o := _) rfl (fun K hK => ?_) AllReadyH.nil
        have HTT := Lib.hid (tys_lie ((HST.out.below_to TyAt.keeps HB.out (Nat.le_refl _)).keep' TyAt.keeps HB.out.size (fun _ _ => rfl)).row); have hsz := HB.out.size; refine step_appK rfl _ _ 23 rfl w3.heap.size 39 ti (.agg #[.int .i64 0, .int .i64 0]) 2 16 Try.underlying23 hti ht0 ht1 ht2 rfl (by decide) (.slice (some ⟨w4.heap.size, 0, none⟩) 0 0) 0 [] rfl HE.out yA yst.length yc _ (tysV yst) (tysV_len _) rfl HTT.out (tysV_one _) (by unfold maxLen; omega) (by omega) hsz ?_; intro v113 w113 hown hgrow; have HV : Hid (w113.ownsRow w3.heap.size 39 2 v113 yst.length (tysV yst)) := Lib.hid (by simpa using hown); have HC : Hid (Whole w113 w101.heap.size [.int .i64 t1, .int .i64 t2] 39) := Lib.hid ((hgrow.block _ HC.out.lt (fun e => HNE.out (by simpa [Value.ownBlock] using e.symm))).trans HC.out); have HB := Lib.hid (appK_more HB.out HE.out hsz hgrow); clear hown hgrow hsz; have HZ0 := HCELL.out _ HB.out; obtain ⟨z0, z1⟩ := HZ0
        refine hK.out _ _ (HKS.out _ HB.out) (fun hHeld => ?_)
        clear hK K
        try simp only [List.getElem_toArray, List.getElem_cons_succ, List.getElem_cons_zero, Act.put, List.setIfInBounds_toArray, List.set_cons_zero, List.set_cons_succ]
        refine wpAnyH_ready (rs := [17]) (by kernel_rfl) (by simp) ?_
        refine AllReadyH.cons (o := _) rfl (fun K hK => ?_) AllReadyH.nil
        have HTC := Lib.hid (lies_ty1 HC.out.lt (HC.out.cells 0 _ rfl) (HC.out.cells 1 _ rfl)); have hsz := HB.out.size; refine step_appK rfl _ _ 23 rfl w3.heap.size 39 ti (.agg #[.int .i64 0, .int .i64 0]) 2 16 Try.underlying23 hti ht0 ht1 ht2 rfl (by decide) v113 yst.length (tysV yst) rfl HV.out (some ⟨w101.heap.size, 0, none⟩) 1 1 _ (tysV [(t1, t2)]) (tysV_len _) rfl HTC.out (tysV_one _) (by unfold maxLen; omega) (by omega) hsz ?_; intro v114 w114 hown hgrow; have HB := Lib.hid (appK_more HB.out HV.out hsz hgrow); clear hgrow hsz; obtain ⟨A9, c9, rfl, h9⟩ := own_snoc1 hown; have H9 := Lib.hid h9; clear hown h9; have HZ0 := HCELL.out _ HB.out; obtain ⟨z0, z1⟩ := HZ0
        refine hK.out _ _ (HKS.out _ HB.out) (fun hHeld => ?_)
        clear hK K
        try simp only [List.getElem_toArray, List.getElem_cons_succ, List.getElem_cons_zero, Act.put, List.setIfInBounds_toArray, List.set_cons_zero, List.set_cons_succ]
        refine wpAnyH_take (i := 18) (oi := _) (v := ?_) rfl (by kernel_rfl) (by kernel_rfl) (by kernel_rfl) (fun _ _ _ h => h) (Or.inl ⟨by rfl, ?_⟩) (by assumption) ?_
        rotate_left
        · (intro w hSw; (try dsimp only at hSw); go_simp <;> with_reducible rfl)
        try simp only [List.getElem_toArray, List.getElem_cons_succ, List.getElem_cons_zero, Act.put, List.setIfInBounds_toArray, List.set_cons_zero, List.set_cons_succ]
        refine wpAnyH_take (i := 19) (oi := _) (v := ?_) rfl (by kernel_rfl) (by kernel_rfl) (by kernel_rfl) (fun _ _ _ h => h) (Or.inl ⟨by rfl, ?_⟩) (by assumption) ?_
        rotate_left
        · (intro w hSw; (try dsimp only at hSw); go_simp <;> with_reducible rfl)
        try simp only [List.getElem_toArray, List.getElem_cons_succ, List.getElem_cons_zero, Act.put, List.setIfInBounds_toArray, List.set_cons_zero, List.set_cons_succ]
        refine wpAnyH_ready (rs := [20]) (by kernel_rfl) (by simp) ?_
        refine AllReadyH.cons (o := _) rfl (fun K hK => ?_) AllReadyH.nil
        go_simp
        refine hK.out _ _ (HKT.out _ _ HB.out) (fun hHeld => ?_)
        clear hK K
        try simp only [List.getElem_toArray, List.getElem_cons_succ, List.getElem_cons_zero, Act.put, List.setIfInBounds_toArray, List.set_cons_zero, List.set_cons_succ]
        refine wpAnyH_done (by kernel_rfl) ?_ _
        refine NoPanic.normal ?_
        go_wp2_with fail
        go_meet
        case rel => exact ⟨A9, c9, Lib.hid (spoilt_at HX3.out HB.out HALL.out HROW.out HGX.out HY.out (Nat.le_trans HX.out.size HLOW.out) H9.out)⟩
    · go_simp
      refine hK.out _ _ hHeld (fun hHeld => ?_)
      clear hK K
      try simp only [List.getElem_toArray, List.getElem_cons_succ, List.getElem_cons_zero, Act.put, List.setIfInBounds_toArray, List.set_cons_zero, List.set_cons_succ]
      refine wpAnyH_ready (rs := [5, 16]) (by kernel_rfl) (by simp) ?_
      refine (AllReadyH.cons (o := _) rfl (fun K hK => ?_) (AllReadyH.cons (o := _) rfl (fun K hK => ?_) AllReadyH.nil))
      · go_simp
        have HE : Hid (((w4).alloc (.cells #[] 39)).ownsRow w3.heap.size 39 2 (.slice (some ⟨w4.heap.size, 0, none⟩) 0 0) 0 []) := Lib.hid (own_lower (own_emptyK (w4) 39 2) HB.out.size); have HB : Hid (Below w3.heap.size w3 ((w4).alloc (.cells #[] 39))) := Lib.hid (HB.out.alloc HB.out.size _); have HE0 : Hid (w4.heap.size < ((w4).alloc (.cells #[] 39)).heap.size) := Lib.hid (by simp); generalize (w4).alloc (.cells #[] 39) = w115 at HB HE HE0 ⊢; have HZ0 := HCELL.out _ HB.out; obtain ⟨z0, z1⟩ := HZ0
        refine hK.out _ _ (HKS.out _ HB.out) (fun hHeld => ?_)
        clear hK K
        try simp only [List.getElem_toArray, List.getElem_cons_succ, List.getElem_cons_zero, Act.put, List.setIfInBounds_toArray, List.set_cons_zero, List.set_cons_succ]
        refine wpAnyH_ready (rs := [14, 16]) (by kernel_rfl) (by simp) ?_
        refine (AllReadyH.cons (o := _) rfl (fun K hK => ?_) (AllReadyH.cons (o := _) rfl (fun K hK => ?_) AllReadyH.nil))
        · have HTT := Lib.hid (tys_lie ((HST.out.below_to TyAt.keeps HB.out (Nat.le_refl _)).keep' TyAt.keeps HB.out.size (fun _ _ => rfl)).row); have hsz := HB.out.size; refine step_appK rfl _ _ 23 rfl w3.heap.size 39 ti (.agg #[.int .i64 0, .int .i64 0]) 2 16 Try.underlying23 hti ht0 ht1 ht2 rfl (by decide) (.slice (some ⟨w4.heap.size, 0, none⟩) 0 0) 0 [] rfl HE.out yA yst.length yc _ (tysV yst) (tysV_len _) rfl HTT.out (tysV_one _) (by unfold maxLen; omega) (by omega) hsz ?_; intro v117 w117 hown hgrow; have HV : Hid (w117.ownsRow w3.heap.size 39 2 v117 yst.length (tysV yst)) := Lib.hid (by simpa using hown); have HB := Lib.hid (appK_more HB.out HE.out hsz hgrow); clear hown hgrow hsz; have HZ0 := HCELL.out _ HB.out; obtain ⟨z0, z1⟩ := HZ0
          refine hK.out _ _ (HKS.out _ HB.out) (fun hHeld => ?_)
          clear hK K
          try simp only [List.getElem_toArray, List.getElem_cons_succ, List.getElem_cons_zero, Act.put, List.setIfInBounds_toArray, List.set_cons_zero, List.set_cons_succ]
          refine wpAnyH_ready (rs := [16]) (by kernel_rfl) (by simp) ?_
          refine AllReadyH.cons (o := _) rfl (fun K hK => ?_) AllReadyH.nil
          go_simp
          have HB : Hid (Below w3.heap.size w3 ((w117).alloc (.cells #[.int .i64 t1, .int .i64 t2] 39))) := Lib.hid (HB.out.alloc HB.out.size _); have HV : Hid (((w117).alloc (.cells #[.int .i64 t1, .int .i64 t2] 39)).ownsRow w3.heap.size 39 2 v117 yst.length (tysV yst)) := Lib.hid (HV.out.alloc _); have HC : Hid (Whole ((w117).alloc (.cells #[.int .i64 t1, .int .i64 t2] 39)) w117.heap.size [.int .i64 t1, .int .i64 t2] 39) := Lib.hid (Whole.new _ _ _); have HC0 : Hid (w117.heap.size < ((w117).alloc (.cells #[.int .i64 t1, .int .i64 t2] 39)).heap.size) := Lib.hid (by simp); generalize (w117).alloc (.cells #[.int .i64 t1, .int .i64 t2] 39) = w119 at HB HV HC HC0 ⊢; have HZ0 := HCELL.out _ HB.out; obtain ⟨z0, z1⟩ := HZ0
          refine hK.out _ _ (HKS.out _ HB.out) (fun hHeld => ?_)
          clear hK K
          try simp only [List.getElem_toArray, List.getElem_cons_succ, List.getElem_cons_zero, Act.put, List.setIfInBounds_toArray, List.set_cons_zero, List.set_cons_succ]
          refine wpAnyH_ready (rs := [17]) (by kernel_rfl) (by simp) ?_
          refine AllReadyH.cons (o := _) rfl (fun K hK => ?_) AllReadyH.nil
          have HTC := Lib.hid (lies_ty1 HC.out.lt (HC.out.cells 0 _ rfl) (HC.out.cells 1 _ rfl)); have hsz := HB.out.size; refine step_appK rfl _ _ 23 rfl w3.heap.size 39 ti (.agg #[.int .i64 0, .int .i64 0]) 2 16 Try.underlying23 hti ht0 ht1 ht2 rfl (by decide) v117 yst.length (tysV yst) rfl HV.out (some ⟨w117.heap.size, 0, none⟩) 1 1 _ (tysV [(t1, t2)]) (tysV_len _) rfl HTC.out (tysV_one _) (by unfold maxLen; omega) (by omega) hsz ?_; intro v120 w120 hown hgrow; have HB := Lib.hid (appK_more HB.out HV.out hsz hgrow); clear hgrow hsz; obtain ⟨A9, c9, rfl, h9⟩ := own_snoc1 hown; have H9 := Lib.hid h9; clear hown h9; have HZ0 := HCELL.out _ HB.out; obtain ⟨z0, z1⟩ := HZ0
          refine hK.out _ _ (HKS.out _ HB.out) (fun hHeld => ?_)
          clear hK K
          try simp only [List.getElem_toArray, List.getElem_cons_succ, List.getElem_cons_zero, Act.put, List.setIfInBounds_toArray, List.set_cons_zero, List.set_cons_succ]
          refine wpAnyH_take (i := 18) (oi := _) (v := ?_) rfl (by kernel_rfl) (by kernel_rfl) (by kernel_rfl) (fun _ _ _ h => h) (Or.inl ⟨by rfl, ?_⟩) (by assumption) ?_
          rotate_left
          · (intro w hSw; (try dsimp only at hSw); go_simp <;> with_reducible rfl)
          try simp only [List.getElem_toArray, List.getElem_cons_succ, List.getElem_cons_zero, Act.put, List.setIfInBounds_toArray, List.set_cons_zero, List.set_cons_succ]
          refine wpAnyH_take (i := 19) (oi := _) (v := ?_) rfl (by kernel_rfl) (by kernel_rfl) (by kernel_rfl) (fun _ _ _ h => h) (Or.inl ⟨by rfl, ?_⟩) (by assumption) ?_
          rotate_left
          · (intro w hSw; (try dsimp only at hSw); go_simp <;> with_reducible rfl)
          try simp only [List.getElem_toArray, List.getElem_cons_succ, List.getElem_cons_zero, Act.put, List.setIfInBounds_toArray, List.set_cons_zero, List.set_cons_succ]
          refine wpAnyH_ready (rs := [20]) (by kernel_rfl) (by simp) ?_
          refine AllReadyH.cons (o := _) rfl (fun K hK => ?_) AllReadyH.nil
          go_simp
          refine hK.out _ _ (HKT.out _ _ HB.out) (fun hHeld => ?_)
          clear hK K
          try simp only [List.getElem_toArray, List.getElem_cons_succ, List.getElem_cons_zero, Act.put, List.setIfInBounds_toArray, List.set_cons_zero, List.set_cons_succ]
          refine wpAnyH_done (by kernel_rfl) ?_ _
          refine NoPanic.normal ?_
          go_wp2_with fail
          go_meet
          case rel => exact ⟨A9, c9, Lib.hid (spoilt_at HX3.out HB.out HALL.out HROW.out HGX.out HY.out (Nat.le_trans HX.out.size HLOW.out) H9.out)⟩
        · go_simp
          have HB : Hid (Below w3.heap.size w3 ((w115).alloc (.cells #[.int .i64 t1, .int .i64 t2] 39))) := Lib.hid (HB.out.alloc HB.out.size _); have HE : Hid (((w115).alloc (.cells #[.int .i64 t1, .int .i64 t2] 39)).ownsRow w3.heap.size 39 2 (.slice (some ⟨w4.heap.size, 0, none⟩) 0 0) 0 []) := Lib.hid (HE.out.alloc _); have HNE : Hid (w4.heap.size ≠ w115.heap.size) := Lib.hid (Nat.ne_of_lt HE0.out); have HC : Hid (Whole ((w115).alloc (.cells #[.int .i64 t1, .int .i64 t2] 39)) w115.heap.size [.int .i64 t1, .int .i64 t2] 39) := Lib.hid (Whole.new _ _ _); have HC0 : Hid (w115.heap.size < ((w115).alloc (.cells #[.int .i64 t1, .int .i64 t2] 39)).heap.size) := Lib.hid (by simp); generalize (w115).alloc (.cells #[.int .i64 t1, .int .i64 t2] 39) = w118 at HB HE HC HC0 ⊢; have HZ0 := HCELL.out _ HB.out; obtain ⟨z0, z1⟩ := HZ0
          refine hK.out _ _ (HKS.out _ HB.out) (fun hHeld => ?_)
          clear hK K
          try simp only [List.getElem_toArray, List.getElem_cons_succ, List.getElem_cons_zero, Act.put, List.setIfInBounds_toArray, List.set_cons_zero, List.set_cons_succ]
          refine wpAnyH_ready (rs := [14]) (by kernel_rfl) (by simp) ?_
          refine AllReadyH.cons (o := _) rfl (fun K hK => ?_) AllReadyH.nil
          have HTT := Lib.hid (tys_lie ((HST.out.below_to TyAt.keeps HB.out (Nat.le_refl _)).keep' TyAt.keeps HB.out.size (fun _ _ => rfl)).row); have hsz := HB.out.size; refine step_appK rfl _ _ 23 rfl w3.heap.size 39 ti (.agg #[.int .i64 0, .int .i64 0]) 2 16 Try.underlying23 hti ht0 ht1 ht2 rfl (by decide) (.slice (some ⟨w4.heap.size, 0, none⟩) 0 0) 0 [] rfl HE.out yA yst.length yc _ (tysV yst) (tysV_len _) rfl HTT.out (tysV_one _) (by unfold maxLen; omega) (by omega) hsz ?_; intro v121 w121 hown hgrow; have HV : Hid (w121.ownsRow w3.heap.size 39 2 v121 yst.length (tysV yst)) := Lib.hid (by simpa using hown); have HC : Hid (Whole w121 w115.heap.size [.int .i64 t1, .int .i64 t2] 39) := Lib.hid ((hgrow.block _ HC.out.lt (fun e => HNE.out (by simpa [Value.ownBlock] using e.symm))).trans HC.out); have HB := Lib.hid (appK_more HB.out HE.out hsz hgrow); clear hown hgrow hsz; have HZ0 := HCELL.out _ HB.out; obtain ⟨z0, z1⟩ := HZ0
          refine hK.out _ _ (HKS.out _ HB.out) (fun hHeld => ?_)
          clear hK K
          try simp only [List.getElem_toArray, List.getElem_cons_succ, List.getElem_cons_zero, Act.put, List.setIfInBounds_toArray, List.set_cons_zero, List.set_cons_succ]
          refine wpAnyH_ready (rs := [17]) (by kernel_rfl) (by simp) ?_
          refine AllReadyH.cons (o := _) rfl (fun K hK => ?_) AllReadyH.nil
          have HTC := Lib.hid (lies_ty1 HC.out.lt (HC.out.cells 0 _ rfl) (HC.out.cells 1 _ rfl)); have hsz := HB.out.size; refine step_appK rfl _ _ 23 rfl w3.heap.size 39 ti (.agg #[.int .i64 0, .int .i64 0]) 2 16 Try.underlying23 hti ht0 ht1 ht2 rfl (by decide) v121 yst.length (tysV yst) rfl HV.out (some ⟨w115.heap.size, 0, none⟩) 1 1 _ (tysV [(t1, t2)]) (tysV_len _) rfl HTC.out (tysV_one _) (by unfold maxLen; omega) (by omega) hsz ?_; intro v122 w122 hown hgrow; have HB := Lib.hid (appK_more HB.out HV.out hsz hgrow); clear hgrow hsz; obtain ⟨A9, c9, rfl, h9⟩ := own_snoc1 hown; have H9 := Lib.hid h9; clear hown h9; have HZ0 := HCELL.out _ HB.out; obtain ⟨z0, z1⟩ := HZ0
          refine hK.out _ _ (HKS.out _ HB.out) (fun hHeld => ?_)
          clear hK K
          try simp only [List.getElem_toArray, List.getElem_cons_succ, List.getElem_cons_zero, Act.put, List.setIfInBounds_toArray, List.set_cons_zero, List.set_cons_succ]
          refine wpAnyH_take (i := 18) (oi := _) (v := ?_) rfl (by kernel_rfl) (by kernel_rfl) (by kernel_rfl) (fun _ _ _ h => h) (Or.inl ⟨by rfl, ?_⟩) (by assumption) ?_
          rotate_left
          · (intro w hSw; (try dsimp only at hSw); go_simp <;> with_reducible rfl)
          try simp only [List.getElem_toArray, List.getElem_cons_succ, List.getElem_cons_zero, Act.put, List.setIfInBounds_toArray, List.set_cons_zero, List.set_cons_succ]
          refine wpAnyH_take (i := 19) (oi := _) (v := ?_) rfl (by kernel_rfl) (by kernel_rfl) (by kernel_rfl) (fun _ _ _ h => h) (Or.inl ⟨by rfl, ?_⟩) (by assumption) ?_
          rotate_left
          · (intro w hSw; (try dsimp only at hSw); go_simp <;> with_reducible rfl)
          try simp only [List.getElem_toArray, List.getElem_cons_succ, List.getElem_cons_zero, Act.put, List.setIfInBounds_toArray, List.set_cons_zero, List.set_cons_succ]
          refine wpAnyH_ready (rs := [20]) (by kernel_rfl) (by simp) ?_
          refine AllReadyH.cons (o := _) rfl (fun K hK => ?_) AllReadyH.nil
          go_simp
          refine hK.out _ _ (HKT.out _ _ HB.out) (fun hHeld => ?_)
          clear hK K
          try simp only [List.getElem_toArray, List.getElem_cons_succ, List.getElem_cons_zero, Act.put, List.setIfInBounds_toArray, List.set_cons_zero, List.set_cons_succ]
          refine wpAnyH_done (by kernel_rfl) ?_ _
          refine NoPanic.normal ?_
          go_wp2_with fail
          go_meet
          case rel => exact ⟨A9, c9, Lib.hid (spoilt_at HX3.out HB.out HALL.out HROW.out HGX.out HY.out (Nat.le_trans HX.out.size HLOW.out) H9.out)⟩
      · go_simp
        have HB : Hid (Below w3.heap.size w3 ((w4).alloc (.cells #[.int .i64 t1, .int .i64 t2] 39))) := Lib.hid (HB.out.alloc HB.out.size _); have HC : Hid (Whole ((w4).alloc (.cells #[.int .i64 t1, .int .i64 t2] 39)) w4.heap.size [.int .i64 t1, .int .i64 t2] 39) := Lib.hid (Whole.new _ _ _); have HC0 : Hid (w4.heap.size < ((w4).alloc (.cells #[.int .i64 t1, .int .i64 t2] 39)).heap.size) := Lib.hid (by simp); generalize (w4).alloc (.cells #[.int .i64 t1, .int .i64 t2] 39) = w116 at HB HC HC0 ⊢; have HZ0 := HCELL.out _ HB.out; obtain ⟨z0, z1⟩ := HZ0
        refine hK.out _ _ (HKS.out _ HB.out) (fun hHeld => ?_)
        clear hK K
        try simp only [List.getElem_toArray, List.getElem_cons_succ, List.getElem_cons_zero, Act.put, List.setIfInBounds_toArray, List.set_cons_zero, List.set_cons_succ]
        refine wpAnyH_ready (rs := [5]) (by kernel_rfl) (by simp) ?_
        refine AllReadyH.cons (o := _) rfl (fun K hK => ?_) AllReadyH.nil
        go_simp
        have HE : Hid (((w116).alloc (.cells #[] 39)).ownsRow w3.heap.size 39 2 (.slice (some ⟨w116.heap.size, 0, none⟩) 0 0) 0 []) := Lib.hid (own_lower (own_emptyK (w116) 39 2) HB.out.size); have HB : Hid (Below w3.heap.size w3 ((w116).alloc (.cells #[] 39))) := Lib.hid (HB.out.alloc HB.out.size _); have HC : Hid (Whole ((w116).alloc (.cells #[] 39)) w4.heap.size [.int .i64 t1, .int .i64 t2] 39) := Lib.hid (HC.out.keep ((Below.refl _ _).alloc (Nat.le_refl _) _) HC.out.lt); have HNE : Hid (w116.heap.size ≠ w4.heap.size) := Lib.hid (Nat.ne_of_gt HC0.out); generalize (w116).alloc (.cells #[] 39) = w123 at HB HE HC ⊢; have HZ0 := HCELL.out _ HB.out; obtain ⟨z0, z1⟩ := HZ0
        refine hK.out _ _ (HKS.out _ HB.out) (fun hHeld => ?_)
        clear hK K
        try simp only [List.getElem_toArray, List.getElem_cons_succ, List.getElem_cons_zero, Act.put, List.setIfInBounds_toArray, List.set_cons_zero, List.set_cons_succ]
        refine wpAnyH_ready (rs := [14]) (by kernel_rfl) (by simp) ?_
        refine AllReadyH.cons (o := _) rfl (fun K hK => ?_) AllReadyH.nil
        have HTT := Lib.hid (tys_lie ((HST.out.below_to TyAt.keeps HB.out (Nat.le_refl _)).keep' TyAt.keeps HB.out.size (fun _ _ => rfl)).row); have hsz := HB.out.size; refine step_appK rfl _ _ 23 rfl w3.heap.size 39 ti (.agg #[.int .i64 0, .int .i64 0]) 2 16 Try.underlying23 hti ht0 ht1 ht2 rfl (by decide) (.slice (some ⟨w116.heap.size, 0, none⟩) 0 0) 0 [] rfl HE.out yA yst.length yc _ (tysV yst) (tysV_len _) rfl HTT.out (tysV_one _) (by unfold maxLen; omega) (by omega) hsz ?_; intro v124 w124 hown hgrow; have HV : Hid (w124.ownsRow w3.heap.size 39 2 v124 yst.length (tysV yst)) := Lib.hid (by simpa using hown); have HC : Hid (Whole w124 w4.heap.size [.int .i64 t1, .int .i64 t2] 39) := Lib.hid ((hgrow.block _ HC.out.lt (fun e => HNE.out (by simpa [Value.ownBlock] using e.symm))).trans HC.out); have HB := Lib.hid (appK_more HB.out HE.out hsz hgrow); clear hown hgrow hsz; have HZ0 := HCELL.out _ HB.out; obtain ⟨z0, z1⟩ := HZ0
        refine hK.out _ _ (HKS.out _ HB.out) (fun hHeld => ?_)
        clear hK K
        try simp only [List.getElem_toArray, List.getElem_cons_succ, List.getElem_cons_zero, Act.put, List.setIfInBounds_toArray, List.set_cons_zero, List.set_cons_succ]
        refine wpAnyH_ready (rs := [17]) (by kernel_rfl) (by simp) ?_
        refine AllReadyH.cons (o := _) rfl (fun K hK => ?_) AllReadyH.nil
        have HTC := Lib.hid (lies_ty1 HC.out.lt (HC.out.cells 0 _ rfl) (HC.out.cells 1 _ rfl)); have hsz := HB.out.size; refine step_appK rfl _ _ 23 rfl w3.heap.size 39 ti (.agg #[.int .i64 0, .int .i64 0]) 2 16 Try.underlying23 hti ht0 ht1 ht2 rfl (by decide) v124 yst.length (tysV yst) rfl HV.out (some ⟨w4.heap.size, 0, none⟩) 1 1 _ (tysV [(t1, t2)]) (tysV_len _) rfl HTC.out (tysV_one _) (by unfold maxLen; omega) (by omega) hsz ?_; intro v125 w125 hown hgrow; have HB := Lib.hid (appK_more HB.out HV.out hsz hgrow); clear hgrow hsz; obtain ⟨A9, c9, rfl, h9⟩ := own_snoc1 hown; have H9 := Lib.hid h9; clear hown h9; have HZ0 := HCELL.out _ HB.out; obtain ⟨z0, z1⟩ := HZ0
        refine hK.out _ _ (HKS.out _ HB.out) (fun hHeld => ?_)
        clear hK K
        try simp only [List.getElem_toArray, List.getElem_cons_succ, List.getElem_cons_zero, Act.put, List.setIfInBounds_toArray, List.set_cons_zero, List.set_cons_succ]
        refine wpAnyH_take (i := 18) (oi := _) (v := ?_) rfl (by kernel_rfl) (by kernel_rfl) (by kernel_rfl) (fun _ _ _ h => h) (Or.inl ⟨by rfl, ?_⟩) (by assumption) ?_
        rotate_left
        · (intro w hSw; (try dsimp only at hSw); go_simp <;> with_reducible rfl)
        try simp only [List.getElem_toArray, List.getElem_cons_succ, List.getElem_cons_zero, Act.put, List.setIfInBounds_toArray, List.set_cons_zero, List.set_cons_succ]
        refine wpAnyH_take (i := 19) (oi := _) (v := ?_) rfl (by kernel_rfl) (by kernel_rfl) (by kernel_rfl) (fun _ _ _ h => h) (Or.inl ⟨by rfl, ?_⟩) (by assumption) ?_
        rotate_left
        · (intro w hSw; (try dsimp only at hSw); go_simp <;> with_reducible rfl)
        try simp only [List.getElem_toArray, List.getElem_cons_succ, List.getElem_cons_zero, Act.put, List.setIfInBounds_toArray, List.set_cons_zero, List.set_cons_succ]
        refine wpAnyH_ready (rs := [20]) (by kernel_rfl) (by simp) ?_
        refine AllReadyH.cons (o := _) rfl (fun K hK => ?_) AllReadyH.nil
        go_simp
        refine hK.out _ _ (HKT.out _ _ HB.out) (fun hHeld => ?_)
        clear hK K
        try simp only [List.getElem_toArray, List.getElem_cons_succ, List.getElem_cons_zero, Act.put, List.setIfInBounds_toArray, List.set_cons_zero, List.set_cons_succ]
        refine wpAnyH_done (by kernel_rfl) ?_ _
        refine NoPanic.normal ?_
        go_wp2_with fail
        go_meet
        case rel => exact ⟨A9, c9, Lib.hid (spoilt_at HX3.out HB.out HALL.out HROW.out HGX.out HY.out (Nat.le_trans HX.out.size HLOW.out) H9.out)⟩
    · go_simp
      have HB : Hid (Below w3.heap.size w3 ((w4).alloc (.cells #[.int .i64 t1, .int .i64 t2] 39))) := Lib.hid (HB.out.alloc HB.out.size _); have HC : Hid (Whole ((w4).alloc (.cells #[.int .i64 t1, .int .i64 t2] 39)) w4.heap.size [.int .i64 t1, .int .i64 t2] 39) := Lib.hid (Whole.new _ _ _); have HC0 : Hid (w4.heap.size < ((w4).alloc (.cells #[.int .i64 t1, .int .i64 t2] 39)).heap.size) := Lib.hid (by simp); generalize (w4).alloc (.cells #[.int .i64 t1, .int .i64 t2] 39) = w103 at HB HC HC0 ⊢; have HZ0 := HCELL.out _ HB.out; obtain ⟨z0, z1⟩ := HZ0
      refine hK.out _ _ (HKS.out _ HB.out) (fun hHeld => ?_)
      clear hK K
      try simp only [List.getElem_toArray, List.getElem_cons_succ, List.getElem_cons_zero, Act.put, List.setIfInBounds_toArray, List.set_cons_zero, List.set_cons_succ]
      refine wpAnyH_ready (rs := [5, 13]) (by kernel_rfl) (by simp) ?_
      refine (AllReadyH.cons (o := _) rfl (fun K hK => ?_) (AllReadyH.cons (o := _) rfl (fun K hK => ?_) AllReadyH.nil))
      · go_simp
        have HE : Hid (((w103).alloc (.cells #[] 39)).ownsRow w3.heap.size 39 2 (.slice (some ⟨w103.heap.size, 0, none⟩) 0 0) 0 []) := Lib.hid (own_lower (own_emptyK (w103) 39 2) HB.out.size); have HB : Hid (Below w3.heap.size w3 ((w103).alloc (.cells #[] 39))) := Lib.hid (HB.out.alloc HB.out.size _); have HC : Hid (Whole ((w103).alloc (.cells #[] 39)) w4.heap.size [.int .i64 t1, .int .i64 t2] 39) := Lib.hid (HC.out.keep ((Below.refl _ _).alloc (Nat.le_refl _) _) HC.out.lt); have HNE : Hid (w103.heap.size ≠ w4.heap.size) := Lib.hid (Nat.ne_of_gt HC0.out); generalize (w103).alloc (.cells #[] 39) = w126 at HB HE HC ⊢; have HZ0 := HCELL.out _ HB.out; obtain ⟨z0, z1⟩ := HZ0
        refine hK.out _ _ (HKS.out _ HB.out) (fun hHeld => ?_)
        clear hK K
        try simp only [List.getElem_toArray, List.getElem_cons_succ, List.getElem_cons_zero, Act.put, List.setIfInBounds_toArray, List.set_cons_zero, List.set_cons_succ]
        refine wpAnyH_ready (rs := [13]) (by kernel_rfl) (by simp) ?_
        refine AllReadyH.cons (o := _) rfl (fun K hK => ?_) AllReadyH.nil
        go_simp
        refine hK.out _ _ hHeld (fun hHeld => ?_)
        clear hK K
        try simp only [List.getElem_toArray, List.getElem_cons_succ, List.getElem_cons_zero, Act.put, List.setIfInBounds_toArray, List.set_cons_zero, List.set_cons_succ]
        refine wpAnyH_ready (rs := [14]) (by kernel_rfl) (by simp) ?_
        refine AllReadyH.cons (o := _) rfl (fun K hK => ?_) AllReadyH.nil
        have HTT := Lib.hid (tys_lie ((HST.out.below_to TyAt.keeps HB.out (Nat.le_refl _)).keep' TyAt.keeps HB.out.size (fun _ _ => rfl)).row); have hsz := HB.out.size; refine step_appK rfl _ _ 23 rfl w3.heap.size 39 ti (.agg #[.int .i64 0, .int .i64 0]) 2 16 Try.underlying23 hti ht0 ht1 ht2 rfl (by decide) (.slice (some ⟨w103.heap.size, 0, none⟩) 0 0) 0 [] rfl HE.out yA yst.length yc _ (tysV yst) (tysV_len _) rfl HTT.out (tysV_one _) (by unfold maxLen; omega) (by omega) hsz ?_; intro v129 w129 hown hgrow; have HV : Hid (w129.ownsRow w3.heap.size 39 2 v129 yst.length (tysV yst)) := Lib.hid (by simpa using hown); have HC : Hid (Whole w129 w4.heap.size [.int .i64 t1, .int .i64 t2] 39) := Lib.hid ((hgrow.block _ HC.out.lt (fun e => HNE.out (by simpa [Value.ownBlock] using e.symm))).trans HC.out); have HB := Lib.hid (appK_more HB.out HE.out hsz hgrow); clear hown hgrow hsz; have HZ0 := HCELL.out _ HB.out; obtain ⟨z0, z1⟩ := HZ0
        refine hK.out _ _ (HKS.out _ HB.out) (fun hHeld => ?_)
        clear hK K
        try simp only [List.getElem_toArray, List.getElem_cons_succ, List.getElem_cons_zero, Act.put, List.setIfInBounds_toArray, List.set_cons_zero, List.set_cons_succ]
        refine wpAnyH_ready (rs := [17]) (by kernel_rfl) (by simp) ?_
        refine AllReadyH.cons (o := _) rfl (fun K hK => ?_) AllReadyH.nil
        have HTC := Lib.hid (lies_ty1 HC.out.lt (HC.out.cells 0 _ rfl) (HC.out.cells 1 _ rfl)); have hsz := HB.out.size; refine step_appK rfl _ _ 23 rfl w3.heap.size 39 ti (.agg #[.int .i64 0, .int .i64 0]) 2 16 Try.underlying23 hti ht0 ht1 ht2 rfl (by decide) v129 yst.length (tysV yst) rfl HV.out (some ⟨w4.heap.size, 0, none⟩) 1 1 _ (tysV [(t1, t2)]) (tysV_len _) rfl HTC.out (tysV_one _) (by unfold maxLen; omega) (by omega) hsz ?_; intro v130 w130 hown hgrow; have HB := Lib.hid (appK_more HB.out HV.out hsz hgrow); clear hgrow hsz; obtain ⟨A9, c9, rfl, h9⟩ := own_snoc1 hown; have H9 := Lib.hid h9; clear hown h9; have HZ0 := HCELL.out _ HB.out; obtain ⟨z0, z1⟩ := HZ0
        refine hK.out _ _ (HKS.out _ HB.out) (fun hHeld => ?_)
        clear hK K
        try simp only [List.getElem_toArray, List.getElem_cons_succ, List.getElem_cons_zero, Act.put, List.setIfInBounds_toArray, List.set_cons_zero, List.set_cons_succ]
        refine wpAnyH_take (i := 18) (oi := _) (v := ?_) rfl (by kernel_rfl) (by kernel_rfl) (by kernel_rfl) (fun _ _ _ h => h) (Or.inl ⟨by rfl, ?_⟩) (by assumption) ?_
        rotate_left
        · (intro w hSw; (try dsimp only at hSw); go_simp <;> with_reducible rfl)
        try simp only [List.getElem_toArray, List.getElem_cons_succ, List.getElem_cons_zero, Act.put, List.setIfInBounds_toArray, List.set_cons_zero, List.set_cons_succ]
        refine wpAnyH_take (i := 19) (oi := _) (v := ?_) rfl (by kernel_rfl) (by kernel_rfl) (by kernel_rfl) (fun _ _ _ h => h) (Or.inl ⟨by rfl, ?_⟩) (by assumption) ?_
        rotate_left
        · (intro w hSw; (try dsimp only at hSw); go_simp <;> with_reducible rfl)
        try simp only [List.getElem_toArray, List.getElem_cons_succ, List.getElem_cons_zero, Act.put, List.setIfInBounds_toArray, List.set_cons_zero, List.set_cons_succ]
        refine wpAnyH_ready (rs := [20]) (by kernel_rfl) (by simp) ?_
        refine AllReadyH.cons (o := _) rfl (fun K hK => ?_) AllReadyH.nil
        go_simp
        refine hK.out _ _ (HKT.out _ _ HB.out) (fun hHeld => ?_)
        clear hK K
        try simp only [List.getElem_toArray, List.getElem_cons_succ, List.getElem_cons_zero, Act.put, List.setIfInBounds_toArray, List.set_cons_zero, List.set_cons_succ]
        refine wpAnyH_done (by kernel_rfl) ?_ _
        refine NoPanic.normal ?_
        go_wp2_with fail
        go_meet
        case rel => exact ⟨A9, c9, Lib.hid (spoilt_at HX3.out HB.out HALL.out HROW.out HGX.out HY.out (Nat.le_trans HX.out.size HLOW.out) H9.out)⟩
      · go_simp
        refine hK.out _ _ hHeld (fun hHeld => ?_)
        clear hK K
        try simp only [List.getElem_toArray, List.getElem_cons_succ, List.getElem_cons_zero, Act.put, List.setIfInBounds_toArray, List.set_cons_zero, List.set_cons_succ]
        refine wpAnyH_ready (rs := [5]) (by kernel_rfl) (by simp) ?_
        refine AllReadyH.cons (o := _) rfl (fun K hK => ?_) AllReadyH.nil
        go_simp
        have HE : Hid (((w103).alloc (.cells #[] 39)).ownsRow w3.heap.size 39 2 (.slice (some ⟨w103.heap.size, 0, none⟩) 0 0) 0 []) := Lib.hid (own_lower (own_emptyK (w103) 39 2) HB.out.size); have HB : Hid (Below w3.heap.size w3 ((w103).alloc (.cells #[] 39))) := Lib.hid (HB.out.alloc HB.out.size _); have HC : Hid (Whole ((w103).alloc (.cells #[] 39)) w4.heap.size [.int .i64 t1, .int .i64 t2] 39) := Lib.hid (HC.out.keep ((Below.refl _ _).alloc (Nat.le_refl _) _) HC.out.lt); have HNE : Hid (w103.heap.size ≠ w4.heap.size) := Lib.hid (Nat.ne_of_gt HC0.out); generalize (w103).alloc (.cells #[] 39) = w131 at HB HE HC ⊢; have HZ0 := HCELL.out _ HB.out; obtain ⟨z0, z1⟩ := HZ0
        refine hK.out _ _ (HKS.out _ HB.out) (fun hHeld => ?_)
        clear hK K
        try simp only [List.getElem_toArray, List.getElem_cons_succ, List.getElem_cons_zero, Act.put, List.setIfInBounds_toArray, List.set_cons_zero, List.set_cons_succ]
        refine wpAnyH_ready (rs := [14]) (by kernel_rfl) (by simp) ?_
        refine AllReadyH.cons (o := _) rfl (fun K hK => ?_) AllReadyH.nil
        have HTT := Lib.hid (tys_lie ((HST.out.below_to TyAt.keeps HB.out (Nat.le_refl _)).keep' TyAt.keeps HB.out.size (fun _ _ => rfl)).row); have hsz := HB.out.size; refine step_appK rfl _ _ 23 rfl w3.heap.size 39 ti (.agg #[.int .i64 0, .int .i64 0]) 2 16 Try.underlying23 hti ht0 ht1 ht2 rfl (by decide) (.slice (some ⟨w103.heap.size, 0, none⟩) 0 0) 0 [] rfl HE.out yA yst.length yc _ (tysV yst) (tysV_len _) rfl HTT.out (tysV_one _) (by unfold maxLen; omega) (by omega) hsz ?_; intro v132 w132 hown hgrow; have HV : Hid (w132.ownsRow w3.heap.size 39 2 v132 yst.length (tysV yst)) := Lib.hid (by simpa using hown); have HC : Hid (Whole w132 w4.heap.size [.int .i64 t1, .int .i64 t2] 39) := Lib.hid ((hgrow.block _ HC.out.lt (fun e => HNE.out (by simpa [Value.ownBlock] using e.symm))).trans HC.out); have HB := Lib.hid (appK_more HB.out HE.out hsz hgrow); clear hown hgrow hsz; have HZ0 := HCELL.out _ HB.out; obtain ⟨z0, z1⟩ := HZ0
        refine hK.out _ _ (HKS.out _ HB.out) (fun hHeld => ?_)
        clear hK K
        try simp only [List.getElem_toArray, List.getElem_cons_succ, List.getElem_cons_zero, Act.put, List.setIfInBounds_toArray, List.set_cons_zero, List.set_cons_succ]
        refine wpAnyH_ready (rs := [17]) (by kernel_rfl) (by simp) ?_
        refine AllReadyH.cons (o := _) rfl (fun K hK => ?_) AllReadyH.nil
        have HTC := Lib.hid (lies_ty1 HC.out.lt (HC.out.cells 0 _ rfl) (HC.out.cells 1 _ rfl)); have hsz := HB.out.size; refine step_appK rfl _ _ 23 rfl w3.heap.size 39 ti (.agg #[.int .i64 0, .int .i64 0]) 2 16 Try.underlying23 hti ht0 ht1 ht2 rfl (by decide) v132 yst.length (tysV yst) rfl HV.out (some ⟨w4.heap.size, 0, none⟩) 1 1 _ (tysV [(t1, t2)]) (tysV_len _) rfl HTC.out (tysV_one _) (by unfold maxLen; omega) (by omega) hsz ?_; intro v133 w133 hown hgrow; have HB := Lib.hid (appK_more HB.out HV.out hsz hgrow); clear hgrow hsz; obtain ⟨A9, c9, rfl, h9⟩ := own_snoc1 hown; have H9 := Lib.hid h9; clear hown h9; have HZ0 := HCELL.out _ HB.out; obtain ⟨z0, z1⟩ := HZ0
        refine hK.out _ _ (HKS.out _ HB.out) (fun hHeld => ?_)
        clear hK K
        try simp only [List.getElem_toArray, List.getElem_cons_succ, List.getElem_cons_zero, Act.put, List.setIfInBounds_toArray, List.set_cons_zero, List.set_cons_succ]
        refine wpAnyH_take (i := 18) (oi := _) (v := ?_) rfl (by kernel_rfl) (by kernel_rfl) (by kernel_rfl) (fun _ _ _ h => h) (Or.inl ⟨by rfl, ?_⟩) (by assumption) ?_
        rotate_left
        · (intro w hSw; (try dsimp only at hSw); go_simp <;> with_reducible rfl)
        try simp only [List.getElem_toArray, List.getElem_cons_succ, List.getElem_cons_zero, Act.put, List.setIfInBounds_toArray, List.set_cons_zero, List.set_cons_succ]
        refine wpAnyH_take (i := 19) (oi := _) (v := ?_) rfl (by kernel_rfl) (by kernel_rfl) (by kernel_rfl) (fun _ _ _ h => h) (Or.inl ⟨by rfl, ?_⟩) (by assumption) ?_
        rotate_left
        · (intro w hSw; (try dsimp only at hSw); go_simp <;> with_reducible rfl)
        try simp only [List.getElem_toArray, List.getElem_cons_succ, List.getElem_cons_zero, Act.put, List.setIfInBounds_toArray, List.set_cons_zero, List.set_cons_succ]
        refine wpAnyH_ready (rs := [20]) (by kernel_rfl) (by simp) ?_
        refine AllReadyH.cons (o := _) rfl (fun K hK => ?_) AllReadyH.nil
        go_simp
        refine hK.out _ _ (HKT.out _ _ HB.out) (fun hHeld => ?_)
        clear hK K
        try simp only [List.getElem_toArray, List.getElem_cons_succ, List.getElem_cons_zero, Act.put, List.setIfInBounds_toArray, List.set_cons_zero, List.set_cons_succ]
        refine wpAnyH_done (by kernel_rfl) ?_ _
        refine NoPanic.normal ?_
        go_wp2_with fail
        go_meet
        case rel => exact ⟨A9, c9, Lib.hid (spoilt_at HX3.out HB.out HALL.out HROW.out HGX.out HY.out (Nat.le_trans HX.out.size HLOW.out) H9.out)⟩
  case rest =>
    obtain ⟨A9, c9, HSP⟩ := hcut
    clear e1 e2 e3 e4 q0 q1 q2 q3 q4 q5 q6 rc0
    have hgxn : XS[G]? = some (g, X) := HGX.out
    obtain ⟨l, hl⟩ : ∃ l, l = mapsOf (XS.set G (g, X.set P ⟨ys, A9, c9, yst ++ [(t1, t2)]⟩)) := ⟨_, rfl⟩
    have hout := HSP.out.outs
    rw [HY.out] at hout
    have hout : ∀ p ∈ XS.set G (g, X.set P ⟨ys, A9, c9, yst ++ [(t1, t2)]⟩), OutIn wc p.1 p.2 := hout
    have hmz := spoilt_maps (t := (t1, t2)) (A9 := A9) (c9 := c9) HM.out HN2.out HFOUND.out HGX.out HY.out
    have hls := all_row (XS := XS.set G (g, X.set P ⟨ys, A9, c9, yst ++ [(t1, t2)]⟩)) (n := m.methods.length) (by rw [allV_set hgxn (by simp)]; exact HSP.out.row) (by rw [List.length_set]; exact HN2.out) hout (fun p hp => by
      have := (hmz (p.2.map Shx.shp) (List.mem_map.mpr ⟨p, hp, rfl⟩)).1
      rw [List.length_map] at this
      omega)
    rw [← hl] at hls hmz
    have HL := Lib.hid hls
    have HLZ := Lib.hid hmz
    have HLN : Hid (l.length = m.methods.length) := Lib.hid (by rw [hl, mapsOf_len, List.length_set]; exact HN2.out)
    have HRF : Hid (ys = true → rightB m l = false) := Lib.hid (fun e => by
      subst e
      rw [hl]
      exact spoilt_not HGM.out HFD.out HGX.out HY.out)
    obtain ⟨rr, hrr⟩ : ∃ r, rightB m l = r := ⟨_, rfl⟩
    have HRR := Lib.hid hrr
    have hX9 : OutIn wc g (X.set P ⟨ys, A9, c9, yst ++ [(t1, t2)]⟩) := hout (g, X.set P ⟨ys, A9, c9, yst ++ [(t1, t2)]⟩) (List.mem_of_getElem? (List.getElem?_set_self (List.getElem?_eq_some_iff.mp hgxn).1))
    have hPX : P < (X.set P ⟨ys, A9, c9, yst ++ [(t1, t2)]⟩ : List Shx).length := by rw [List.length_set, HNX.out]; exact HP.out
    have hse := hX9.seen_at hPX
    rw [List.getElem_set_self hPX] at hse
    have hse : wc.cell? ⟨g, P * 2, none⟩ = some (.bool ys) := hse
    obtain ⟨hrw, hgl⟩ := (ownK_cell HSP.out.row).2 G (.slice (some ⟨g, 0, none⟩) nX nX) (by unfold allV; rw [List.getElem?_map, hgxn]; show some (Value.slice _ X.length X.length) = _; rw [HNX.out])
    have hgz := hX9.blk.lt
    have HX := Lib.hid HSP.out.below
    have HK9 : Hid (∀ W, Below wc.heap.size wc W → (fun w' => w'.cell? ⟨w.heap.size, 0, none⟩ = some (.slice h.A0 m.classes.length h.c0) ∧ w'.cell? ⟨w.heap.size, 1, none⟩ = some (.slice h.A1 m.statics.length h.c1) ∧ w'.cell? ⟨w.heap.size, 2, none⟩ = some (.slice h.A2 m.ints.length h.c2) ∧ w'.cell? ⟨w.heap.size, 3, none⟩ = some (.slice h.A3 m.methods.length h.c3) ∧ w'.cell? ⟨w.heap.size, 4, none⟩ = some (.slice h.A4 m.entries.length h.c4) ∧ w'.cell? ⟨w.heap.size, 5, none⟩ = some (.int .i64 m.stack) ∧ w'.cell? ⟨w.heap.size, 6, none⟩ = some (.int .i64 m.heap) ∧ w'.cell? ⟨Ag, G, none⟩ = some (.slice (some ⟨g, 0, none⟩) nX nX) ∧ w'.cell? ⟨g, P * 2, none⟩ = some (.bool ys)) W) := Lib.hid (fun W hW => by
      obtain ⟨k0, k1, k2, k3, k4, k5, k6⟩ := HBX.out.keep (HX.out.trans (hW.mono HX.out.size)) HZ.out
      exact ⟨k0, k1, k2, k3, k4, k5, k6, (hW.cell (p := ⟨Ag, G, none⟩) hgl).trans hrw, (hW.cell (p := ⟨g, P * 2, none⟩) hgz).trans hse⟩)
    have HV : Hid (Below wc.heap.size wc wc.drew) := Lib.hid (Below.refl _ _).drew
    have HX : Hid (Below w1.heap.size w1 wc.drew) := Lib.hid HX.out.drew
    have HL := Lib.hid (slcDr RowAt.keeps HL.out)
    clear hl hls hmz hout hrr hX9 hPX hse hrw hgl hgz hgxn
    cases ys
    · go_upto_region 9 with fail
      refine wp_region_noPanic ?_
      refine wp_region_held_drew (S := fun w' => w'.cell? ⟨w.heap.size, 0, none⟩ = some (.slice h.A0 m.classes.length h.c0) ∧ w'.cell? ⟨w.heap.size, 1, none⟩ = some (.slice h.A1 m.statics.length h.c1) ∧ w'.cell? ⟨w.heap.size, 2, none⟩ = some (.slice h.A2 m.ints.length h.c2) ∧ w'.cell? ⟨w.heap.size, 3, none⟩ = some (.slice h.A3 m.methods.length h.c3) ∧ w'.cell? ⟨w.heap.size, 4, none⟩ = some (.slice h.A4 m.entries.length h.c4) ∧ w'.cell? ⟨w.heap.size, 5, none⟩ = some (.int .i64 m.stack) ∧ w'.cell? ⟨w.heap.size, 6, none⟩ = some (.int .i64 m.heap) ∧ w'.cell? ⟨Ag, G, none⟩ = some (.slice (some ⟨g, 0, none⟩) nX nX) ∧ w'.cell? ⟨g, P * 2, none⟩ = some (.bool false)) (by kernel_rfl) (HK9.out _ HV.out) (fun hHeld => ?_)
      refine wpAnyH_ready (rs := [0]) (by kernel_rfl) (by simp) ?_
      refine AllReadyH.cons (o := _) rfl (fun K hK => ?_) AllReadyH.nil
      go_simp
      (go_at_call 8; (with_reducible refine (judgeAwake_any _).mono ?_); rintro e w7 ⟨rfl, hb⟩; have HX := Lib.hid (HX.out.trans (hb.mono HX.out.size)); have HV := Lib.hid (HV.out.trans (hb.mono HV.out.size)); have HL := Lib.hid (slcUp RowAt.keeps HL.out hb); clear hb)
      refine hK.out _ _ (HK9.out _ HV.out) (fun hHeld => ?_)
      clear hK K
      try simp only [List.getElem_toArray, List.getElem_cons_succ, List.getElem_cons_zero, Act.put, List.setIfInBounds_toArray, List.set_cons_zero, List.set_cons_succ]
      refine wpAnyH_take (i := 1) (oi := _) (v := ?_) rfl (by kernel_rfl) (by kernel_rfl) (by kernel_rfl) (fun _ _ _ h => h) (Or.inl ⟨by rfl, ?_⟩) (by assumption) ?_
      rotate_left
      · (intro w hSw; (try dsimp only at hSw); go_simp <;> with_reducible rfl)
      try simp only [List.getElem_toArray, List.getElem_cons_succ, List.getElem_cons_zero, Act.put, List.setIfInBounds_toArray, List.set_cons_zero, List.set_cons_succ]
      refine wpAnyH_take (i := 2) (oi := _) (v := ?_) rfl (by kernel_rfl) (by kernel_rfl) (by kernel_rfl) (fun _ _ _ h => h) (Or.inl ⟨by rfl, ?_⟩) (by assumption) ?_
      rotate_left
      · (intro w hSw; (try dsimp only at hSw); go_simp <;> with_reducible rfl)
      try simp only [List.getElem_toArray, List.getElem_cons_succ, List.getElem_cons_zero, Act.put, List.setIfInBounds_toArray, List.set_cons_zero, List.set_cons_succ]
      refine wpAnyH_take (i := 3) (oi := _) (v := ?_) rfl (by kernel_rfl) (by kernel_rfl) (by kernel_rfl) (fun _ _ _ h => h) (Or.inl ⟨by rfl, ?_⟩) (by assumption) ?_
      rotate_left
      · (intro w hSw; (try dsimp only at hSw); go_simp <;> with_reducible rfl)
      try simp only [List.getElem_toArray, List.getElem_cons_succ, List.getElem_cons_zero, Act.put, List.setIfInBounds_toArray, List.set_cons_zero, List.set_cons_succ]
      refine wpAnyH_take (i := 5) (oi := _) (v := ?_) rfl (by kernel_rfl) (by kernel_rfl) (by kernel_rfl) (fun _ _ _ h => h) (Or.inl ⟨by rfl, ?_⟩) (by assumption) ?_
      rotate_left
      · (intro w hSw; (try dsimp only at hSw); go_simp <;> with_reducible rfl)
      try simp only [List.getElem_toArray, List.getElem_cons_succ, List.getElem_cons_zero, Act.put, List.setIfInBounds_toArray, List.set_cons_zero, List.set_cons_succ]
      refine wpAnyH_take (i := 6) (oi := _) (v := ?_) rfl (by kernel_rfl) (by kernel_rfl) (by kernel_rfl) (fun _ _ _ h => h) (Or.inl ⟨by rfl, ?_⟩) (by assumption) ?_
      rotate_left
      · (intro w hSw; (try dsimp only at hSw); go_simp <;> with_reducible rfl)
      try simp only [List.getElem_toArray, List.getElem_cons_succ, List.getElem_cons_zero, Act.put, List.setIfInBounds_toArray, List.set_cons_zero, List.set_cons_succ]
      refine wpAnyH_ready (rs := [4]) (by kernel_rfl) (by simp) ?_
      refine AllReadyH.cons (o := _) rfl (fun K hK => ?_) AllReadyH.nil
      go_simp
      (go_at_call 10; (with_reducible refine (jright_is HI HX HM HL HLZ HLN HRR).mono ?_); rintro e w7 ⟨rfl, hb⟩; have HX := Lib.hid (HX.out.trans (hb.mono HX.out.size)); have HV := Lib.hid (HV.out.trans (hb.mono HV.out.size)); have HL := Lib.hid (slcUp RowAt.keeps HL.out hb); clear hb)
      refine hK.out _ _ (HK9.out _ HV.out) (fun hHeld => ?_)
      clear hK K
      try simp only [List.getElem_toArray, List.getElem_cons_succ, List.getElem_cons_zero, Act.put, List.setIfInBounds_toArray, List.set_cons_zero, List.set_cons_succ]
      refine wpAnyH_ready (rs := [7]) (by kernel_rfl) (by simp) ?_
      refine AllReadyH.cons (o := _) rfl (fun K hK => ?_) AllReadyH.nil
      go_simp
      (go_at_call 13; (with_reducible refine (rright_is HI HX HM HL HLZ HLN HRR).mono ?_); rintro e w7 ⟨rfl, hb⟩; have HX := Lib.hid (HX.out.trans (hb.mono HX.out.size)); have HV := Lib.hid (HV.out.trans (hb.mono HV.out.size)); have HL := Lib.hid (slcUp RowAt.keeps HL.out hb); clear hb)
      refine hK.out _ _ (HK9.out _ HV.out) (fun hHeld => ?_)
      clear hK K
      try simp only [List.getElem_toArray, List.getElem_cons_succ, List.getElem_cons_zero, Act.put, List.setIfInBounds_toArray, List.set_cons_zero, List.set_cons_succ]
      refine wpAnyH_take (i := 8) (oi := _) (v := ?_) rfl (by kernel_rfl) (by kernel_rfl) (by kernel_rfl) (fun _ _ _ h => h) (Or.inl ⟨by rfl, ?_⟩) (by assumption) ?_
      rotate_left
      · (intro w hSw; (try dsimp only at hSw); go_simp <;> with_reducible rfl)
      try simp only [List.getElem_toArray, List.getElem_cons_succ, List.getElem_cons_zero, Act.put, List.setIfInBounds_toArray, List.set_cons_zero, List.set_cons_succ]
      refine wpAnyH_take (i := 9) (oi := _) (v := ?_) rfl (by kernel_rfl) (by kernel_rfl) (by kernel_rfl) (fun _ _ _ h => h) (Or.inl ⟨by rfl, ?_⟩) (by assumption) ?_
      rotate_left
      · (intro w hSw; (try dsimp only at hSw); go_simp <;> with_reducible rfl)
      try simp only [List.getElem_toArray, List.getElem_cons_succ, List.getElem_cons_zero, Act.put, List.setIfInBounds_toArray, List.set_cons_zero, List.set_cons_succ]
      refine wpAnyH_take (i := 10) (oi := _) (v := ?_) rfl (by kernel_rfl) (by kernel_rfl) (by kernel_rfl) (fun _ _ _ h => h) (Or.inl ⟨by rfl, ?_⟩) (by assumption) ?_
      rotate_left
      · (intro w hSw; (try dsimp only at hSw); go_simp <;> with_reducible rfl)
      try simp only [List.getElem_toArray, List.getElem_cons_succ, List.getElem_cons_zero, Act.put, List.setIfInBounds_toArray, List.set_cons_zero, List.set_cons_succ]
      refine wpAnyH_take (i := 11) (oi := _) (v := ?_) rfl (by kernel_rfl) (by kernel_rfl) (by kernel_rfl) (fun _ _ _ h => h) (Or.inl ⟨by rfl, ?_⟩) (by assumption) ?_
      rotate_left
      · (intro w hSw; (try dsimp only at hSw); go_simp <;> with_reducible rfl)
      try simp only [List.getElem_toArray, List.getElem_cons_succ, List.getElem_cons_zero, Act.put, List.setIfInBounds_toArray, List.set_cons_zero, List.set_cons_succ]
      refine wpAnyH_take (i := 12) (oi := _) (v := ?_) rfl (by kernel_rfl) (by kernel_rfl) (by kernel_rfl) (fun _ _ _ h => h) (Or.inl ⟨by rfl, ?_⟩) (by assumption) ?_
      rotate_left
      · (intro w hSw; (try dsimp only at hSw); go_simp <;> with_reducible rfl)
      try simp only [List.getElem_toArray, List.getElem_cons_succ, List.getElem_cons_zero, Act.put, List.setIfInBounds_toArray, List.set_cons_zero, List.set_cons_succ]
      refine wpAnyH_take (i := 13) (oi := _) (v := ?_) rfl (by kernel_rfl) (by kernel_rfl) (by kernel_rfl) (fun _ _ _ h => h) (Or.inl ⟨by rfl, ?_⟩) (by assumption) ?_
      rotate_left
      · (intro w hSw; (try dsimp only at hSw); go_simp <;> with_reducible rfl)
      try simp only [List.getElem_toArray, List.getElem_cons_succ, List.getElem_cons_zero, Act.put, List.setIfInBounds_toArray, List.set_cons_zero, List.set_cons_succ]
      refine wpAnyH_take (i := 14) (oi := _) (v := ?_) rfl (by kernel_rfl) (by kernel_rfl) (by kernel_rfl) (fun _ _ _ h => h) (Or.inl ⟨by rfl, ?_⟩) (by assumption) ?_
      rotate_left
      · (intro w hSw; (try dsimp only at hSw); go_simp <;> with_reducible rfl)
      try simp only [List.getElem_toArray, List.getElem_cons_succ, List.getElem_cons_zero, Act.put, List.setIfInBounds_toArray, List.set_cons_zero, List.set_cons_succ]
      refine wpAnyH_take (i := 15) (oi := _) (v := ?_) rfl (by kernel_rfl) (by kernel_rfl) (by kernel_rfl) (fun _ _ _ h => h) (Or.inl ⟨by rfl, ?_⟩) (by assumption) ?_
      rotate_left
      · (intro w hSw; (try dsimp only at hSw); go_simp <;> with_reducible rfl)
      try simp only [List.getElem_toArray, List.getElem_cons_succ, List.getElem_cons_zero, Act.put, List.setIfInBounds_toArray, List.set_cons_zero, List.set_cons_succ]
      refine wpAnyH_take (i := 16) (oi := _) (v := ?_) rfl (by kernel_rfl) (by kernel_rfl) (by kernel_rfl) (fun _ _ _ h => h) (Or.inl ⟨by rfl, ?_⟩) (by assumption) ?_
      rotate_left
      · (intro w hSw; (try dsimp only at hSw); go_simp <;> with_reducible rfl)
      try simp only [List.getElem_toArray, List.getElem_cons_succ, List.getElem_cons_zero, Act.put, List.setIfInBounds_toArray, List.set_cons_zero, List.set_cons_succ]
      refine wpAnyH_take (i := 17) (oi := _) (v := ?_) rfl (by kernel_rfl) (by kernel_rfl) (by kernel_rfl) (fun _ _ _ h => h) (Or.inl ⟨by rfl, ?_⟩) (by assumption) ?_
      rotate_left
      · (intro w hSw; (try dsimp only at hSw); go_simp <;> with_reducible rfl)
      try simp only [List.getElem_toArray, List.getElem_cons_succ, List.getElem_cons_zero, Act.put, List.setIfInBounds_toArray, List.set_cons_zero, List.set_cons_succ]
      refine wpAnyH_take (i := 18) (oi := _) (v := ?_) rfl (by kernel_rfl) (by kernel_rfl) (by kernel_rfl) (fun _ _ _ h => h) (Or.inl ⟨by rfl, ?_⟩) (by assumption) ?_
      rotate_left
      · (intro w hSw; (try dsimp only at hSw); go_simp <;> with_reducible rfl)
      try simp only [List.getElem_toArray, List.getElem_cons_succ, List.getElem_cons_zero, Act.put, List.setIfInBounds_toArray, List.set_cons_zero, List.set_cons_succ]
      refine wpAnyH_take (i := 19) (oi := _) (v := ?_) rfl (by kernel_rfl) (by kernel_rfl) (by kernel_rfl) (fun _ _ _ h => h) (Or.inl ⟨by rfl, ?_⟩) (by assumption) ?_
      rotate_left
      · (intro w hSw; (try dsimp only at hSw); go_simp <;> with_reducible rfl)
      try simp only [List.getElem_toArray, List.getElem_cons_succ, List.getElem_cons_zero, Act.put, List.setIfInBounds_toArray, List.set_cons_zero, List.set_cons_succ]
      refine wpAnyH_take (i := 20) (oi := _) (v := ?_) rfl (by kernel_rfl) (by kernel_rfl) (by kernel_rfl) (fun _ _ _ h => h) (Or.inl ⟨by rfl, ?_⟩) (by assumption) ?_
      rotate_left
      · (intro w hSw; (try dsimp only at hSw); go_simp <;> with_reducible rfl)
      try simp only [List.getElem_toArray, List.getElem_cons_succ, List.getElem_cons_zero, Act.put, List.setIfInBounds_toArray, List.set_cons_zero, List.set_cons_succ]
      refine wpAnyH_take (i := 21) (oi := _) (v := undef) rfl (by kernel_rfl) (by kernel_rfl) (by kernel_rfl) (fun _ _ _ h => h) (Or.inr ⟨by rfl, rfl⟩) (by assumption) ?_
      try simp only [List.getElem_toArray, List.getElem_cons_succ, List.getElem_cons_zero, Act.put, List.setIfInBounds_toArray, List.set_cons_zero, List.set_cons_succ]
      refine wpAnyH_take (i := 22) (oi := _) (v := undef) rfl (by kernel_rfl) (by kernel_rfl) (by kernel_rfl) (fun _ _ _ h => h) (Or.inr ⟨by rfl, rfl⟩) (by assumption) ?_
      try simp only [List.getElem_toArray, List.getElem_cons_succ, List.getElem_cons_zero, Act.put, List.setIfInBounds_toArray, List.set_cons_zero, List.set_cons_succ]
      refine wpAnyH_take (i := 23) (oi := _) (v := undef) rfl (by kernel_rfl) (by kernel_rfl) (by kernel_rfl) (fun _ _ _ h => h) (Or.inr ⟨by rfl, rfl⟩) (by assumption) ?_
      try simp only [List.getElem_toArray, List.getElem_cons_succ, List.getElem_cons_zero, Act.put, List.setIfInBounds_toArray, List.set_cons_zero, List.set_cons_succ]
      refine wpAnyH_take (i := 24) (oi := _) (v := undef) rfl (by kernel_rfl) (by kernel_rfl) (by kernel_rfl) (fun _ _ _ h => h) (Or.inr ⟨by rfl, rfl⟩) (by assumption) ?_
      try simp only [List.getElem_toArray, List.getElem_cons_succ, List.getElem_cons_zero, Act.put, List.setIfInBounds_toArray, List.set_cons_zero, List.set_cons_succ]
      refine wpAnyH_take (i := 25) (oi := _) (v := ?_) rfl (by kernel_rfl) (by kernel_rfl) (by kernel_rfl) (fun _ _ _ h => h) (Or.inl ⟨by rfl, ?_⟩) (by assumption) ?_
      rotate_left
      · (intro w hSw; (try dsimp only at hSw); go_simp <;> with_reducible rfl)
      try simp only [List.getElem_toArray, List.getElem_cons_succ, List.getElem_cons_zero, Act.put, List.setIfInBounds_toArray, List.set_cons_zero, List.set_cons_succ]
      refine wpAnyH_take (i := 26) (oi := _) (v := ?_) rfl (by kernel_rfl) (by kernel_rfl) (by kernel_rfl) (fun _ _ _ h => h) (Or.inl ⟨by rfl, ?_⟩) (by assumption) ?_
      rotate_left
      · (intro w hSw; (try dsimp only at hSw); go_simp <;> with_reducible rfl)
      try simp only [List.getElem_toArray, List.getElem_cons_succ, List.getElem_cons_zero, Act.put, List.setIfInBounds_toArray, List.set_cons_zero, List.set_cons_succ]
      refine wpAnyH_take (i := 27) (oi := _) (v := ?_) rfl (by kernel_rfl) (by kernel_rfl) (by kernel_rfl) (fun _ _ _ h => h) (Or.inl ⟨by rfl, ?_⟩) (by assumption) ?_
      rotate_left
      · (intro w hSw; (try dsimp only at hSw); go_simp <;> with_reducible rfl)
      try simp only [List.getElem_toArray, List.getElem_cons_succ, List.getElem_cons_zero, Act.put, List.setIfInBounds_toArray, List.set_cons_zero, List.set_cons_succ]
      refine wpAnyH_done (by kernel_rfl) ?_ _
      refine NoPanic.normal ?_
      go_wp2_with fail
      go_ret
      exact ⟨by first | rfl | simp, HW.out.trans (HX.out.mono (Nat.le_of_lt HZ.out))⟩
    · obtain rfl : rr = false := by rw [← HRR.out]; exact HRF.out rfl
      go_upto_region 9 with fail
      refine wp_region_noPanic ?_
      refine wp_region_held_drew (S := fun w' => w'.cell? ⟨w.heap.size, 0, none⟩ = some (.slice h.A0 m.classes.length h.c0) ∧ w'.cell? ⟨w.heap.size, 1, none⟩ = some (.slice h.A1 m.statics.length h.c1) ∧ w'.cell? ⟨w.heap.size, 2, none⟩ = some (.slice h.A2 m.ints.length h.c2) ∧ w'.cell? ⟨w.heap.size, 3, none⟩ = some (.slice h.A3 m.methods.length h.c3) ∧ w'.cell? ⟨w.heap.size, 4, none⟩ = some (.slice h.A4 m.entries.length h.c4) ∧ w'.cell? ⟨w.heap.size, 5, none⟩ = some (.int .i64 m.stack) ∧ w'.cell? ⟨w.heap.size, 6, none⟩ = some (.int .i64 m.heap) ∧ w'.cell? ⟨Ag, G, none⟩ = some (.slice (some ⟨g, 0, none⟩) nX nX) ∧ w'.cell? ⟨g, P * 2, none⟩ = some (.bool true)) (by kernel_rfl) (HK9.out _ HV.out) (fun hHeld => ?_)
      refine wpAnyH_ready (rs := [0]) (by kernel_rfl) (by simp) ?_
      refine AllReadyH.cons (o := _) rfl (fun K hK => ?_) AllReadyH.nil
      go_simp
      (go_at_call 8; (with_reducible refine (judgeAwake_any _).mono ?_); rintro e w7 ⟨rfl, hb⟩; have HX := Lib.hid (HX.out.trans (hb.mono HX.out.size)); have HV := Lib.hid (HV.out.trans (hb.mono HV.out.size)); have HL := Lib.hid (slcUp RowAt.keeps HL.out hb); clear hb)
      refine hK.out _ _ (HK9.out _ HV.out) (fun hHeld => ?_)
      clear hK K
      try simp only [List.getElem_toArray, List.getElem_cons_succ, List.getElem_cons_zero, Act.put, List.setIfInBounds_toArray, List.set_cons_zero, List.set_cons_succ]
      refine wpAnyH_take (i := 1) (oi := _) (v := ?_) rfl (by kernel_rfl) (by kernel_rfl) (by kernel_rfl) (fun _ _ _ h => h) (Or.inl ⟨by rfl, ?_⟩) (by assumption) ?_
      rotate_left
      · (intro w hSw; (try dsimp only at hSw); go_simp <;> with_reducible rfl)
      try simp only [List.getElem_toArray, List.getElem_cons_succ, List.getElem_cons_zero, Act.put, List.setIfInBounds_toArray, List.set_cons_zero, List.set_cons_succ]
      refine wpAnyH_take (i := 2) (oi := _) (v := ?_) rfl (by kernel_rfl) (by kernel_rfl) (by kernel_rfl) (fun _ _ _ h => h) (Or.inl ⟨by rfl, ?_⟩) (by assumption) ?_
      rotate_left
      · (intro w hSw; (try dsimp only at hSw); go_simp <;> with_reducible rfl)
      try simp only [List.getElem_toArray, List.getElem_cons_succ, List.getElem_cons_zero, Act.put, List.setIfInBounds_toArray, List.set_cons_zero, List.set_cons_succ]
      refine wpAnyH_take (i := 3) (oi := _) (v := ?_) rfl (by kernel_rfl) (by kernel_rfl) (by kernel_rfl) (fun _ _ _ h => h) (Or.inl ⟨by rfl, ?_⟩) (by assumption) ?_
      rotate_left
      · (intro w hSw; (try dsimp only at hSw); go_simp <;> with_reducible rfl)
      try simp only [List.getElem_toArray, List.getElem_cons_succ, List.getElem_cons_zero, Act.put, List.setIfInBounds_toArray, List.set_cons_zero, List.set_cons_succ]
      refine wpAnyH_take (i := 5) (oi := _) (v := ?_) rfl (by kernel_rfl) (by kernel_rfl) (by kernel_rfl) (fun _ _ _ h => h) (Or.inl ⟨by rfl, ?_⟩) (by assumption) ?_
      rotate_left
      · (intro w hSw; (try dsimp only at hSw); go_simp <;> with_reducible rfl)
      try simp only [List.getElem_toArray, List.getElem_cons_succ, List.getElem_cons_zero, Act.put, List.setIfInBounds_toArray, List.set_cons_zero, List.set_cons_succ]
      refine wpAnyH_take (i := 6) (oi := _) (v := ?_) rfl (by kernel_rfl) (by kernel_rfl) (by kernel_rfl) (fun _ _ _ h => h) (Or.inl ⟨by rfl, ?_⟩) (by assumption) ?_
      rotate_left
      · (intro w hSw; (try dsimp only at hSw); go_simp <;> with_reducible rfl)
      try simp only [List.getElem_toArray, List.getElem_cons_succ, List.getElem_cons_zero, Act.put, List.setIfInBounds_toArray, List.set_cons_zero, List.set_cons_succ]
      refine wpAnyH_ready (rs := [4]) (by kernel_rfl) (by simp) ?_
      refine AllReadyH.cons (o := _) rfl (fun K hK => ?_) AllReadyH.nil
      go_simp
      (go_at_call 10; (with_reducible refine (jright_is HI HX HM HL HLZ HLN HRR).mono ?_); rintro e w7 ⟨rfl, hb⟩; have HX := Lib.hid (HX.out.trans (hb.mono HX.out.size)); have HV := Lib.hid (HV.out.trans (hb.mono HV.out.size)); have HL := Lib.hid (slcUp RowAt.keeps HL.out hb); clear hb)
      refine hK.out _ _ (HK9.out _ HV.out) (fun hHeld => ?_)
      clear hK K
      try simp only [List.getElem_toArray, List.getElem_cons_succ, List.getElem_cons_zero, Act.put, List.setIfInBounds_toArray, List.set_cons_zero, List.set_cons_succ]
      refine wpAnyH_ready (rs := [7]) (by kernel_rfl) (by simp) ?_
      refine AllReadyH.cons (o := _) rfl (fun K hK => ?_) AllReadyH.nil
      go_simp
      (go_at_call 13; (with_reducible refine (rright_is HI HX HM HL HLZ HLN HRR).mono ?_); rintro e w7 ⟨rfl, hb⟩; have HX := Lib.hid (HX.out.trans (hb.mono HX.out.size)); have HV := Lib.hid (HV.out.trans (hb.mono HV.out.size)); have HL := Lib.hid (slcUp RowAt.keeps HL.out hb); clear hb)
      refine hK.out _ _ (HK9.out _ HV.out) (fun hHeld => ?_)
      clear hK K
      try simp only [List.getElem_toArray, List.getElem_cons_succ, List.getElem_cons_zero, Act.put, List.setIfInBounds_toArray, List.set_cons_zero, List.set_cons_succ]
      refine wpAnyH_take (i := 8) (oi := _) (v := ?_) rfl (by kernel_rfl) (by kernel_rfl) (by kernel_rfl) (fun _ _ _ h => h) (Or.inl ⟨by rfl, ?_⟩) (by assumption) ?_
      rotate_left
      · (intro w hSw; (try dsimp only at hSw); go_simp <;> with_reducible rfl)
      try simp only [List.getElem_toArray, List.getElem_cons_succ, List.getElem_cons_zero, Act.put, List.setIfInBounds_toArray, List.set_cons_zero, List.set_cons_succ]
      refine wpAnyH_take (i := 9) (oi := _) (v := ?_) rfl (by kernel_rfl) (by kernel_rfl) (by kernel_rfl) (fun _ _ _ h => h) (Or.inl ⟨by rfl, ?_⟩) (by assumption) ?_
      rotate_left
      · (intro w hSw; (try dsimp only at hSw); go_simp <;> with_reducible rfl)
      try simp only [List.getElem_toArray, List.getElem_cons_succ, List.getElem_cons_zero, Act.put, List.setIfInBounds_toArray, List.set_cons_zero, List.set_cons_succ]
      refine wpAnyH_take (i := 10) (oi := _) (v := ?_) rfl (by kernel_rfl) (by kernel_rfl) (by kernel_rfl) (fun _ _ _ h => h) (Or.inl ⟨by rfl, ?_⟩) (by assumption) ?_
      rotate_left
      · (intro w hSw; (try dsimp only at hSw); go_simp <;> with_reducible rfl)
      try simp only [List.getElem_toArray, List.getElem_cons_succ, List.getElem_cons_zero, Act.put, List.setIfInBounds_toArray, List.set_cons_zero, List.set_cons_succ]
      refine wpAnyH_take (i := 11) (oi := _) (v := ?_) rfl (by kernel_rfl) (by kernel_rfl) (by kernel_rfl) (fun _ _ _ h => h) (Or.inl ⟨by rfl, ?_⟩) (by assumption) ?_
      rotate_left
      · (intro w hSw; (try dsimp only at hSw); go_simp <;> with_reducible rfl)
      try simp only [List.getElem_toArray, List.getElem_cons_succ, List.getElem_cons_zero, Act.put, List.setIfInBounds_toArray, List.set_cons_zero, List.set_cons_succ]
      refine wpAnyH_take (i := 12) (oi := _) (v := ?_) rfl (by kernel_rfl) (by kernel_rfl) (by kernel_rfl) (fun _ _ _ h => h) (Or.inl ⟨by rfl, ?_⟩) (by assumption) ?_
      rotate_left
      · (intro w hSw; (try dsimp only at hSw); go_simp <;> with_reducible rfl)
      try simp only [List.getElem_toArray, List.getElem_cons_succ, List.getElem_cons_zero, Act.put, List.setIfInBounds_toArray, List.set_cons_zero, List.set_cons_succ]
      refine wpAnyH_take (i := 13) (oi := _) (v := ?_) rfl (by kernel_rfl) (by kernel_rfl) (by kernel_rfl) (fun _ _ _ h => h) (Or.inl ⟨by rfl, ?_⟩) (by assumption) ?_
      rotate_left
      · (intro w hSw; (try dsimp only at hSw); go_simp <;> with_reducible rfl)
      try simp only [List.getElem_toArray, List.getElem_cons_succ, List.getElem_cons_zero, Act.put, List.setIfInBounds_toArray, List.set_cons_zero, List.set_cons_succ]
      refine wpAnyH_take (i := 14) (oi := _) (v := ?_) rfl (by kernel_rfl) (by kernel_rfl) (by kernel_rfl) (fun _ _ _ h => h) (Or.inl ⟨by rfl, ?_⟩) (by assumption) ?_
      rotate_left
      · (intro w hSw; (try dsimp only at hSw); go_simp <;> with_reducible rfl)
      try simp only [List.getElem_toArray, List.getElem_cons_succ, List.getElem_cons_zero, Act.put, List.setIfInBounds_toArray, List.set_cons_zero, List.set_cons_succ]
      refine wpAnyH_take (i := 15) (oi := _) (v := ?_) rfl (by kernel_rfl) (by kernel_rfl) (by kernel_rfl) (fun _ _ _ h => h) (Or.inl ⟨by rfl, ?_⟩) (by assumption) ?_
      rotate_left
      · (intro w hSw; (try dsimp only at hSw); go_simp <;> with_reducible rfl)
      try simp only [List.getElem_toArray, List.getElem_cons_succ, List.getElem_cons_zero, Act.put, List.setIfInBounds_toArray, List.set_cons_zero, List.set_cons_succ]
      refine wpAnyH_take (i := 16) (oi := _) (v := ?_) rfl (by kernel_rfl) (by kernel_rfl) (by kernel_rfl) (fun _ _ _ h => h) (Or.inl ⟨by rfl, ?_⟩) (by assumption) ?_
      rotate_left
      · (intro w hSw; (try dsimp only at hSw); go_simp <;> with_reducible rfl)
      try simp only [List.getElem_toArray, List.getElem_cons_succ, List.getElem_cons_zero, Act.put, List.setIfInBounds_toArray, List.set_cons_zero, List.set_cons_succ]
      refine wpAnyH_take (i := 17) (oi := _) (v := ?_) rfl (by kernel_rfl) (by kernel_rfl) (by kernel_rfl) (fun _ _ _ h => h) (Or.inl ⟨by rfl, ?_⟩) (by assumption) ?_
      rotate_left
      · (intro w hSw; (try dsimp only at hSw); go_simp <;> with_reducible rfl)
      try simp only [List.getElem_toArray, List.getElem_cons_succ, List.getElem_cons_zero, Act.put, List.setIfInBounds_toArray, List.set_cons_zero, List.set_cons_succ]
      refine wpAnyH_take (i := 18) (oi := _) (v := ?_) rfl (by kernel_rfl) (by kernel_rfl) (by kernel_rfl) (fun _ _ _ h => h) (Or.inl ⟨by rfl, ?_⟩) (by assumption) ?_
      rotate_left
      · (intro w hSw; (try dsimp only at hSw); go_simp <;> with_reducible rfl)
      try simp only [List.getElem_toArray, List.getElem_cons_succ, List.getElem_cons_zero, Act.put, List.setIfInBounds_toArray, List.set_cons_zero, List.set_cons_succ]
      refine wpAnyH_take (i := 19) (oi := _) (v := ?_) rfl (by kernel_rfl) (by kernel_rfl) (by kernel_rfl) (fun _ _ _ h => h) (Or.inl ⟨by rfl, ?_⟩) (by assumption) ?_
      rotate_left
      · (intro w hSw; (try dsimp only at hSw); go_simp <;> with_reducible rfl)
      try simp only [List.getElem_toArray, List.getElem_cons_succ, List.getElem_cons_zero, Act.put, List.setIfInBounds_toArray, List.set_cons_zero, List.set_cons_succ]
      refine wpAnyH_take (i := 20) (oi := _) (v := ?_) rfl (by kernel_rfl) (by kernel_rfl) (by kernel_rfl) (fun _ _ _ h => h) (Or.inl ⟨by rfl, ?_⟩) (by assumption) ?_
      rotate_left
      · (intro w hSw; (try dsimp only at hSw); go_simp <;> with_reducible rfl)
      try simp only [List.getElem_toArray, List.getElem_cons_succ, List.getElem_cons_zero, Act.put, List.setIfInBounds_toArray, List.set_cons_zero, List.set_cons_succ]
      refine wpAnyH_take (i := 21) (oi := _) (v := ?_) rfl (by kernel_rfl) (by kernel_rfl) (by kernel_rfl) (fun _ _ _ h => h) (Or.inl ⟨by rfl, ?_⟩) (by assumption) ?_
      rotate_left
      · (intro w hSw; (try dsimp only at hSw); go_simp <;> with_reducible rfl)
      try simp only [List.getElem_toArray, List.getElem_cons_succ, List.getElem_cons_zero, Act.put, List.setIfInBounds_toArray, List.set_cons_zero, List.set_cons_succ]
      refine wpAnyH_take (i := 22) (oi := _) (v := ?_) rfl (by kernel_rfl) (by kernel_rfl) (by kernel_rfl) (fun _ _ _ h => h) (Or.inl ⟨by rfl, ?_⟩) (by assumption) ?_
      rotate_left
      · (intro w hSw; (try dsimp only at hSw); go_simp <;> with_reducible rfl)
      try simp only [List.getElem_toArray, List.getElem_cons_succ, List.getElem_cons_zero, Act.put, List.setIfInBounds_toArray, List.set_cons_zero, List.set_cons_succ]
      refine wpAnyH_ready (rs := [23]) (by kernel_rfl) (by simp) ?_
      refine AllReadyH.cons (o := _) rfl (fun K hK => ?_) AllReadyH.nil
      go_simp
      (go_at_call 10; (with_reducible refine (jright_is HI HX HM HL HLZ HLN HRR).mono ?_); rintro e w7 ⟨rfl, hb⟩; have HX := Lib.hid (HX.out.trans (hb.mono HX.out.size)); have HV := Lib.hid (HV.out.trans (hb.mono HV.out.size)); have HL := Lib.hid (slcUp RowAt.keeps HL.out hb); clear hb)
      refine hK.out _ _ (HK9.out _ HV.out) (fun hHeld => ?_)
      clear hK K
      try simp only [List.getElem_toArray, List.getElem_cons_succ, List.getElem_cons_zero, Act.put, List.setIfInBounds_toArray, List.set_cons_zero, List.set_cons_succ]
      refine wpAnyH_take (i := 24) (oi := _) (v := ?_) rfl (by kernel_rfl) (by kernel_rfl) (by kernel_rfl) (fun _ _ _ h => h) (Or.inl ⟨by rfl, ?_⟩) (by assumption) ?_
      rotate_left
      · (intro w hSw; (try dsimp only at hSw); go_simp <;> with_reducible rfl)
      try simp only [List.getElem_toArray, List.getElem_cons_succ, List.getElem_cons_zero, Act.put, List.setIfInBounds_toArray, List.set_cons_zero, List.set_cons_succ]
      refine wpAnyH_take (i := 25) (oi := _) (v := ?_) rfl (by kernel_rfl) (by kernel_rfl) (by kernel_rfl) (fun _ _ _ h => h) (Or.inl ⟨by rfl, ?_⟩) (by assumption) ?_
      rotate_left
      · (intro w hSw; (try dsimp only at hSw); go_simp <;> with_reducible rfl)
      try simp only [List.getElem_toArray, List.getElem_cons_succ, List.getElem_cons_zero, Act.put, List.setIfInBounds_toArray, List.set_cons_zero, List.set_cons_succ]
      refine wpAnyH_take (i := 26) (oi := _) (v := ?_) rfl (by kernel_rfl) (by kernel_rfl) (by kernel_rfl) (fun _ _ _ h => h) (Or.inl ⟨by rfl, ?_⟩) (by assumption) ?_
      rotate_left
      · (intro w hSw; (try dsimp only at hSw); go_simp <;> with_reducible rfl)
      try simp only [List.getElem_toArray, List.getElem_cons_succ, List.getElem_cons_zero, Act.put, List.setIfInBounds_toArray, List.set_cons_zero, List.set_cons_succ]
      refine wpAnyH_take (i := 27) (oi := _) (v := ?_) rfl (by kernel_rfl) (by kernel_rfl) (by kernel_rfl) (fun _ _ _ h => h) (Or.inl ⟨by rfl, ?_⟩) (by assumption) ?_
      rotate_left
      · (intro w hSw; (try dsimp only at hSw); go_simp <;> with_reducible rfl)
      try simp only [List.getElem_toArray, List.getElem_cons_succ, List.getElem_cons_zero, Act.put, List.setIfInBounds_toArray, List.set_cons_zero, List.set_cons_succ]
      refine wpAnyH_done (by kernel_rfl) ?_ _
      refine NoPanic.normal ?_
      go_wp2_with fail
      go_ret
      exact ⟨by first | rfl | simp, HW.out.trans (HX.out.mono (Nat.le_of_lt HZ.out))⟩
end Go.Proofs.Ytgpmdhdooglkfaa
