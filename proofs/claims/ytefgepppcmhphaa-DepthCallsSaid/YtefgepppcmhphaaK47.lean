/-
  What the document's own answer for all methods' types (All) comes to: rows of the call's own, no two of them one block.
  Found types of which a seen one has an operand more are not right. Plain lemmas; no conditions.
  Rows of shapes of the call's own, read as types of all methods; one of them written. Plain lemmas; no conditions.
  The laws of the stack: what their parts come to, over any first world. Plain lemmas; no conditions.
  Plain facts of what two types join to.
  What types at each instruction grow to: joins of operands, and ranks that fall. Plain definitions and lemmas; no conditions.
-/
import Derived.Test.YtefgepppcmhphaaM45
import Derived.Test.YtefgepppcmhphaaM46
import Derived.Test.YtefgepppcmhphaaM16
import Derived.Test.YtefgepppcmhphaaK43
import Derived.Test.YtefgepppcmhphaaK44
import Derived.Test.YtefgepppcmhphaaM28
import Derived.Test.YtefgepppcmhphaaM04
import Derived.Test.YtefgepppcmhphaaM24
namespace Go.Proofs.Ytefgepppcmhphaa
set_option maxRecDepth 100000
set_option linter.unusedVariables false
set_option linter.unusedSimpArgs false
open Go.ChangeShapes Go.WideShapes Go.ChangeAt Go.RowKit

/-- Rows of shapes, by the blocks that they lie in. -/
def allV (XS : List (Nat × List Shx)) : List Value := XS.map fun p => .slice (some ⟨p.1, 0, none⟩) p.2.length p.2.length
structure AllIn (w : World) (v : Value) (XS : List (Nat × List Shx)) : Prop where
  outs : ∀ p ∈ XS, OutIn w p.1 p.2
  apart : ∀ p ∈ XS, ¬ v.ownBlock = some p.1
  diff : (XS.map Prod.fst).Nodup
  dry : Dry w v
theorem AllIn.nil (w : World) (T : TypeId) : AllIn (w.alloc (.cells #[] T)) (.slice (some ⟨w.heap.size, 0, none⟩) 0 0) [] :=
  ⟨fun _ h => by simp at h, fun _ h => by simp at h, by simp, dry_empty w T⟩
theorem AllIn.below {w w' : World} {v : Value} {XS : List (Nat × List Shx)} (h : AllIn w v XS) (hv : ∀ g, v.ownBlock = some g → g < w.heap.size) (hb : Below w.heap.size w w') : AllIn w' v XS :=
  ⟨fun p hp => (h.outs p hp).keep hb, h.apart, h.diff, h.dry.below hv hb⟩
theorem OutIn.grown {w w3 : World} {v : Value} {g : Nat} {X : List Shx} (h : OutIn w g X) (hd : Dry w v) (ha : ¬ v.ownBlock = some g) (hg : w.grownBy w3 v.ownBlock) : OutIn w3 g X := by
  have hlt := h.blk.lt
  refine ⟨?_, fun x hx => ?_⟩
  · have hb := h.blk
    unfold Whole at hb ⊢
    rw [hg.block g hlt (fun e => ha e.symm)]
    exact hb
  · have hs := h.row x hx
    refine ⟨hs.le, hs.cap, fun i t hi => ?_⟩
    obtain ⟨ad, e, hb, h0, h1⟩ := hs.row i t hi
    have hn : ¬ some ad.block = v.ownBlock := fun q => hd ad.block q.symm (ad.add (i * 2)) (addr_add_block _ _) _ _ h0
    have hk : ∀ q : Addr, q.block = ad.block → w3.cell? q = w.cell? q := fun q hq => World.cell?_of_block (by rw [hq]; exact hg.block _ hb hn)
    exact ⟨ad, e, Nat.lt_of_lt_of_le hb hg.size, (hk _ (addr_add_block _ _)).trans h0, (hk _ (by show (ad.add _).block = _; rw [addr_add_block])).trans h1⟩
theorem AllIn.snoc {w w3 : World} {v : Value} {XS : List (Nat × List Shx)} {g g9 n k : Nat} {X : List Shx} (h : AllIn w v XS) (hX : OutIn w g X) (hg0 : ∀ p ∈ XS, p.1 < g) (hgv : ∀ b, v.ownBlock = some b → b < g)
    (hg : w.grownBy w3 v.ownBlock) (hor : v.ownBlock = some g9 ∨ w.heap.size ≤ g9) (hd : Dry w3 (.slice (some ⟨g9, 0, none⟩) n k)) : AllIn w3 (.slice (some ⟨g9, 0, none⟩) n k) (XS ++ [(g, X)]) := by
  have hgn : ¬ v.ownBlock = some g := fun e => Nat.lt_irrefl _ (hgv g e)
  refine ⟨fun p hp => ?_, fun p hp e => ?_, ?_, hd⟩
  · rcases List.mem_append.mp hp with q | q
    · exact (h.outs p q).grown h.dry (h.apart p q) hg
    · simp at q; subst q; exact hX.grown h.dry hgn hg
  · simp [Value.ownBlock] at e
    have hlt : p.1 < w.heap.size := by
      rcases List.mem_append.mp hp with q | q
      · exact (h.outs p q).blk.lt
      · simp at q; subst q; exact hX.blk.lt
    rcases hor with o | o
    · rcases List.mem_append.mp hp with q | q
      · exact h.apart p q (by rw [o, e])
      · simp at q; subst q; exact hgn (by rw [o, e])
    · omega
  · rw [List.map_append, List.nodup_append]
    refine ⟨h.diff, by simp, fun a ha b hb => ?_⟩
    simp at hb
    subst hb
    obtain ⟨p, hp, rfl⟩ := List.mem_map.mp ha
    have := hg0 p hp
    omega
/-- What All answers. -/
def AllOut (m : Img) (w : World) (e : Ending) (w' : World) : Prop := ∃ (A : Option Addr) (n c : Nat) (b : Int), e = .returned (.tuple #[.slice A n c, .int .i64 b]) ∧ Below w.heap.size w w' ∧
  (b < 0 → ∃ XS, n = m.methods.length ∧ XS.length = n ∧ w'.ownsRow w.heap.size 55 1 (.slice A n c) n (allV XS) ∧ AllIn w' (.slice A n c) XS ∧ (∀ p ∈ XS, w.heap.size ≤ p.1) ∧ ∀ (i : Nat) p, XS[i]? = some p → FoundS m (i : Int) (p.2.map Shx.shp))
theorem info_shapes : (Try.prog.info? 55).map (fun i => (i.zero, i.size, i.bytes)) = some (some (.slice none 0 0), 1, 24) := by kernel_rfl
theorem rshapes_is {m : Img} {x : Mth} {f : Nat} {h : Hnd} {w0 w : World} (HI : Hid (ImgIn w0 w0.heap.size h m)) (HX : Hid (Below w0.heap.size w0 w)) (HM : Hid (SaneI m)) (HG : Hid (m.methods[f]? = some x)) :
    Calls Try.prog 18 #[imgV h m, .int .i64 f] w (ShapesOut m f w) := rshapes_any m x f h w (HI.out.now HX.out) HM.out HG.out
set_option maxHeartbeats 3200000 in
theorem rall_any (m : Img) (h : Hnd) (w : World) (H : ImgIn w w.heap.size h m) (hm : SaneI m) (hml : m.methods.length ≤ 1000) :
    Calls Try.prog 8 #[imgV h m] w (AllOut m w) := by
  obtain ⟨i0, hi, hz0, hz1, hz2⟩ := info_partsK info_shapes
  have HW := Lib.hid ((Below.refl w.heap.size w).alloc (Nat.le_refl _) (imgO h m))
  have HI := Lib.hid (H.now HW.out)
  have HM := Lib.hid hm
  have HBX := Lib.hid (img_box w h m)
  have HZ : Hid (w.heap.size < (w.alloc (imgO h m)).heap.size) := Lib.hid (by simp)
  clear H hm
  go_enter Try.func8, Try.ntmps8
  go_upto_region 1 with fail
  generalize w.alloc (imgO h m) = w1 at *
  go_wp2_with fail
  go_loopw [4, 5] (fun v i wr => ∃ (k : Nat) (XS : List (Nat × List Shx)), k ≤ m.methods.length ∧ i = .int .i64 k ∧ Hid (XS.length = k) ∧ Hid (wr.ownsRow w1.heap.size 55 1 v k (allV XS)) ∧ Hid (Below w1.heap.size w1 wr) ∧ Hid (AllIn wr v XS) ∧ Hid (∀ p ∈ XS, w1.heap.size ≤ p.1) ∧ Hid (∀ (i : Nat) p, XS[i]? = some p → FoundS m (i : Int) (p.2.map Shx.shp))) (fun _ i _ => m.methods.length - (intOf i).toNat)
  case atStart => exact ⟨0, [], by omega, rfl, Lib.hid rfl, Lib.hid (own_empty w1 _), Lib.hid ((Below.refl _ _).alloc (Nat.le_refl _) _), Lib.hid (AllIn.nil w1 _), Lib.hid (fun p h => by simp at h), Lib.hid (fun i p h => by simp at h)⟩
  case round =>
    obtain ⟨k, XS, hk, rfl, HL, HO, HX, HE, HP, HF⟩ := hrel
    obtain ⟨q0, q1, q2, q3, q4, q5, q6⟩ := HBX.out.keep HX.out HZ.out
    have hsz := HX.out.size
    by_cases hlt : k < m.methods.length
    · obtain ⟨x, hx⟩ : ∃ x, m.methods[k]? = some x := ⟨_, List.getElem?_eq_getElem hlt⟩
      have HG := Lib.hid hx
      clear hx
      go_upto_region 6 with (go_at_call 18; (with_reducible refine (rshapes_is HI HX HM HG).mono ?_); rintro e w4 ⟨ok, As, cs, S, rfl, hb, hgd⟩; have HO4 := Lib.hid (own_below HO.out hb (own_block_lt HO.out)); have HX4 := Lib.hid (HX.out.trans (hb.mono HX.out.size)); have HE4 := Lib.hid (HE.out.below (own_block_lt HO.out) hb); have HGD := Lib.hid hgd; have hsz4 := HX4.out.size; clear hb hgd)
      cases ok
      · go_wp2_with fail
        go_ret2
        exact ⟨none, 0, 0, k, rfl, HW.out.trans (HX4.out.mono HW.out.size), fun q => by omega⟩
      · obtain ⟨g, X, hA, hS, hc, hgb, hout, hfound⟩ := HGD.out rfl
        clear HGD
        subst hA hS hc
        have HG0 : Hid (∀ p ∈ XS, p.1 < g) := Lib.hid (fun p hp => Nat.lt_of_lt_of_le (HE.out.outs p hp).blk.lt hgb)
        have HGV : Hid (∀ b, Value.ownBlock u4 = some b → b < g) := Lib.hid (fun b e => Nat.lt_of_lt_of_le (own_block_lt HO.out b e) hgb)
        have HQ := Lib.hid hout
        have HFO := Lib.hid hfound
        have HPg : Hid (w1.heap.size ≤ g) := Lib.hid (Nat.le_trans hsz hgb)
        clear hout hfound hgb
        simp only [List.length_map]
        go_wp2_with (at_builtin; refine append_dry rfl _ _ 31 rfl w1.heap.size 55 i0 24 Try.underlying31 hi hz0 hz1 hz2 _ k (allV XS) rfl (HO4.out.alloc _) (HE4.out.dry.below (own_block_lt HO4.out) ((Below.refl _ _).alloc (Nat.le_refl _) _)) ⟨w4.heap.size, 0, none⟩ _ _ _ _ rfl (cell_one_new w4 _ _ 0 _ rfl) (by unfold maxLen; omega) (by omega) (by simp; omega) _ rfl ?_; intro g9 c9 w6 hown hgrow hor hlt9 hdry; have HX6 := Lib.hid (appK_more (HX4.out.alloc hsz4 _) (HO4.out.alloc _) (by simp; omega) hgrow); have HO6 := Lib.hid hown; have HE6 := Lib.hid ((HE4.out.below (own_block_lt HO4.out) ((Below.refl _ _).alloc (Nat.le_refl _) _)).snoc (HQ.out.keep ((Below.refl _ _).alloc (Nat.le_refl _) _)) HG0.out HGV.out hgrow (hor.imp id (fun e => Nat.le_of_eq e.symm)) hdry); clear hown hgrow hor hdry)
        go_roundw
        case rel =>
          refine ⟨k + 1, XS ++ [(g, X)], by omega, by go_num, Lib.hid (by rw [List.length_append, HL.out]; rfl), Lib.hid (by unfold allV; rw [List.map_append]; exact HO6.out), HX6, HE6, Lib.hid (fun p hp => ?_), Lib.hid (fun i p hi => ?_)⟩
          · rcases List.mem_append.mp hp with q | q
            · exact HP.out p q
            · simp at q; subst q; exact HPg.out
          · rcases Nat.lt_or_ge i XS.length with q | q
            · rw [List.getElem?_append_left q] at hi
              exact HF.out i p hi
            · rw [List.getElem?_append_right q] at hi
              have hiz : i - XS.length = 0 := by
                rcases Nat.eq_zero_or_pos (i - XS.length) with z | z
                · exact z
                · rw [List.getElem?_eq_none (by simp; omega)] at hi; cases hi
              rw [hiz] at hi
              simp at hi
              subst hi
              have hik : i = k := by have := HL.out; omega
              subst hik
              exact HFO.out
        case measure => simp [intOf]; omega
    · have e : k = m.methods.length := by omega
      subst e
      obtain ⟨Ae, ce, he⟩ : ∃ A c, u4 = .slice A m.methods.length c := by
        rcases ownK_slice HO.out with ⟨e1, hz⟩ | ⟨g, c, e1, _, _⟩
        · exact ⟨none, 0, by rw [e1, hz]⟩
        · exact ⟨_, c, e1⟩
      subst he
      go_wp2_with fail
      go_ret2
      exact ⟨Ae, m.methods.length, ce, -1, rfl, HW.out.trans (HX.out.mono HW.out.size), fun _ => ⟨XS, rfl, HL.out, own_lower HO.out HW.out.size, HE.out, fun p hp => Nat.le_trans HW.out.size (HP.out p hp), HF.out⟩⟩


theorem out_row {w : World} {g : Nat} {X : List Shx} (h : OutIn w g X) (hl : X.length ≤ 1000000) : SlcIs ShpAt 2 w w.heap.size (some ⟨g, 0, none⟩) X.length (X.map Shx.shp) :=
  ⟨by rw [List.length_map]; exact Nat.le_refl _, by omega, fun i s hi => by
    rw [List.getElem?_map] at hi
    rcases Nat.lt_or_ge i X.length with q | q
    · rw [List.getElem?_eq_getElem q] at hi
      simp at hi
      subst hi
      have ea : (Addr.add ⟨g, 0, none⟩ (i * 2)) = ⟨g, i * 2, none⟩ := by
        unfold Addr.add; split
        · rename_i h0; rw [h0]
        · simp
      refine ⟨_, rfl, h.blk.lt, ?_⟩
      rw [ea]
      exact ⟨h.seen_at q, X[i].A, X[i].c, h.stack_at q, h.row _ (List.getElem_mem q)⟩
    · rw [List.getElem?_eq_none q] at hi; cases hi⟩
def mapsOf (XS : List (Nat × List Shx)) : List (List Shp) := XS.map fun p => p.2.map Shx.shp
theorem all_row {w : World} {B e n c : Nat} {A : Option Addr} {XS : List (Nat × List Shx)} (ho : w.ownsRow B e 1 (.slice A n c) n (allV XS)) (hn : XS.length = n) (h : ∀ p ∈ XS, OutIn w p.1 p.2) (hl : ∀ p ∈ XS, p.2.length ≤ 1000000) :
    SlcIs (SlcAt ShpAt 2) 1 w w.heap.size A c (mapsOf XS) := by
  have hm : (mapsOf XS).length = n := by unfold mapsOf; rw [List.length_map]; exact hn
  rcases ownK_slice ho with ⟨e1, hz⟩ | ⟨g, c', e1, h1, h2⟩
  · injection e1 with e1 e2 e3
    subst e1 e3
    have : mapsOf XS = [] := List.eq_nil_of_length_eq_zero (by omega)
    rw [this]
    exact ⟨Nat.le_refl _, by omega, RowOf.nil⟩
  · injection e1 with e1 e2 e3
    subst e1 e3
    obtain ⟨hb, hc⟩ := ownK_cell ho
    refine ⟨by rw [hm]; exact h1, h2, fun i S hi => ?_⟩
    unfold mapsOf at hi
    rw [List.getElem?_map] at hi
    rcases Nat.lt_or_ge i XS.length with q | q
    · rw [List.getElem?_eq_getElem q] at hi
      simp at hi
      subst hi
      have hv : (allV XS)[i]? = some (.slice (some ⟨XS[i].1, 0, none⟩) XS[i].2.length XS[i].2.length) := by unfold allV; rw [List.getElem?_map, List.getElem?_eq_getElem q]; rfl
      obtain ⟨c0, hg⟩ := hc i _ hv
      have ea : (Addr.add ⟨g, 0, none⟩ (i * 1)) = ⟨g, i, none⟩ := by
        unfold Addr.add; split
        · rename_i h0; simp at h0; rw [h0]
        · simp
      refine ⟨_, rfl, hg, _, _, ?_, out_row (h _ (List.getElem_mem q)) (hl _ (List.getElem_mem q))⟩
      rw [ea, List.length_map]
      exact c0
    · rw [List.getElem?_eq_none q] at hi; cases hi
/-- Another block's cell written. -/
theorem OutIn.far {w : World} {g g' : Nat} {X X' : List Shx} {p : Addr} (v : Value) (h' : OutIn w g' X') (h : OutIn w g X) (hp : p.block = g') (hg : ¬ g = g') : OutIn (w.setCell p v) g X := by
  have hz : (w.setCell p v).heap.size = w.heap.size := by simp
  have hf : ∀ q : Addr, q.block ≠ g' → (w.setCell p v).cell? q = w.cell? q := fun q hq => World.cell?_setCell_far _ _ _ _ (fun e => hq (by rw [← e]; exact hp))
  refine ⟨?_, fun x hx => ty_other (h.row x hx) (by rw [hz]; exact Nat.le_refl _) hf (fun j hj => h'.ty_apart (h.row x hx) hj)⟩
  have hb := h.blk
  unfold Whole at hb ⊢
  rw [heap_setCell_other w p g v (fun e => hg (by rw [e]; exact hp))]
  exact hb

/-- Shapes of all methods, as they are read. -/
def MapsOk (m : Img) (w : World) (A : Option Addr) (c : Nat) (l : List (List Shp)) : Prop := SlcIs (SlcAt ShpAt 2) 1 w w.heap.size A c l ∧ MapsTo 4000 l ∧ l.length = m.methods.length
theorem MapsOk.up {m : Img} {w w' : World} {A : Option Addr} {c : Nat} {l : List (List Shp)} (h : MapsOk m w A c l) (hb : Below w.heap.size w w') : MapsOk m w' A c l := ⟨slcUp RowAt.keeps h.1 hb, h.2⟩
theorem rall13_is {m : Img} {h : Hnd} {w0 w : World} (HI : Hid (ImgIn w0 w0.heap.size h m)) (HX : Hid (Below w0.heap.size w0 w)) (HM : Hid (SaneI m)) :
    Calls Try.prog 8 #[imgV h m] w fun e w' => ∃ (A : Option Addr) (n c : Nat) (b : Int), e = .returned (.tuple #[.slice A n c, .int .i64 b]) ∧ Below w.heap.size w w' ∧ (b < 0 → ∃ l, n = m.methods.length ∧ MapsOk m w' A c l) := by
  refine (rall_any m h w (HI.out.now HX.out) HM.out (by have := HM.out.fits.ml; omega)).mono fun e w' ⟨A, n, c, b, he, hb, hyes⟩ => ⟨A, n, c, b, he, hb, fun q => ?_⟩
  obtain ⟨XS, h1, h2, h3, h4, h5, h6⟩ := hyes q
  have hfd : ∀ p ∈ XS, p.2.length ≤ 64 ∧ ∀ s ∈ p.2.map Shx.shp, s.stack.length ≤ 8 := fun p hp => by
    obtain ⟨i, hi, e⟩ := List.getElem_of_mem hp
    have hf := h6 i p (by rw [List.getElem?_eq_getElem hi, e])
    have hlt : i < m.methods.length := by omega
    have hx : mthN m (i : Int) ∈ m.methods := by unfold mthN; rw [Int.toNat_natCast, List.getElem?_eq_getElem hlt]; exact List.getElem_mem hlt
    have hl := hf.grow.len
    rw [List.length_map] at hl
    exact ⟨by have := (HM.out.method hx).fits.cl; omega, hf.grow.small⟩
  have hln : (mapsOf XS).length = n := by unfold mapsOf; rw [List.length_map]; exact h2
  refine ⟨mapsOf XS, h1, all_row h3 h2 h4.outs (fun p hp => by have := (hfd p hp).1; omega), fun S hS => ?_, by rw [hln, h1]⟩
  unfold mapsOf at hS
  obtain ⟨p, hp, rfl⟩ := List.mem_map.mp hS
  obtain ⟨a1, a2⟩ := hfd p hp
  exact ⟨by rw [List.length_map]; omega, fun s hs => by have := a2 s hs; omega⟩
theorem dframe_is {m : Img} {l : List (List Shp)} {f r : Int} {A : Option Addr} {c : Nat} {h : Hnd} {w0 w : World} (HI : Hid (ImgIn w0 w0.heap.size h m)) (HX : Hid (Below w0.heap.size w0 w)) (HS : Hid (saneB8 m = true)) (HL : Hid (MapsOk m w A c l)) (HR : Hid (frameOf m l f = r)) :
    Calls Try.prog 11 #[imgV h m, .slice A m.methods.length c, .int .i64 f] w fun e w' => e = .returned (.int .i64 r) ∧ Below w.heap.size w w' := by
  have H := dframe_any m l f A c h w (HI.out.now HX.out) HS.out HL.out.1 HL.out.2.1 HL.out.2.2
  rw [HR.out, HL.out.2.2] at H
  exact H
theorem dbound_no {m : Img} {l : List (List Shp)} {A : Option Addr} {c : Nat} {h : Hnd} {w0 w : World} (HI : Hid (ImgIn w0 w0.heap.size h m)) (HX : Hid (Below w0.heap.size w0 w)) (HS : Hid (saneB8 m = true)) (HL : Hid (MapsOk m w A c l)) (HR : Hid (ringsB m = false)) :
    Calls Try.prog 9 #[imgV h m, .slice A m.methods.length c] w fun e w' => ∃ A c, e = .returned (.tuple #[.slice A 0 c, .int .i64 5]) ∧ Below w.heap.size w w' := by
  have H := dbound_any m l A c h w (HI.out.now HX.out) HS.out HL.out.1 HL.out.2.1 HL.out.2.2
  rw [HL.out.2.2] at H
  exact H.mono fun e w' ⟨A, n, c, er, he, hb, h1, _⟩ => ⟨A, c, by obtain ⟨rfl, rfl⟩ := h1 HR.out; exact he, hb⟩
theorem dbound_yes {m : Img} {l : List (List Shp)} {BO : List Int} {A : Option Addr} {c : Nat} {h : Hnd} {w0 w : World} (HI : Hid (ImgIn w0 w0.heap.size h m)) (HX : Hid (Below w0.heap.size w0 w)) (HS : Hid (saneB8 m = true)) (HL : Hid (MapsOk m w A c l)) (HR : Hid (ringsB m = true)) (HB : Hid (boundsOf m l = BO)) :
    Calls Try.prog 9 #[imgV h m, .slice A m.methods.length c] w fun e w' => ∃ A c, e = .returned (.tuple #[.slice A m.methods.length c, .int .i64 0]) ∧ Below w.heap.size w w' ∧ SlcIs IntAt 1 w' w'.heap.size A c BO := by
  have H := dbound_any m l A c h w (HI.out.now HX.out) HS.out HL.out.1 HL.out.2.1 HL.out.2.2
  rw [HL.out.2.2] at H
  exact H.mono fun e w' ⟨A, n, c, er, he, hb, _, h1⟩ => ⟨A, c, by obtain ⟨rfl, rfl, _⟩ := h1 HR.out; exact he, hb, by rw [← HB.out]; exact (h1 HR.out).2.2.1⟩
theorem dbound_new {m : Img} {l : List (List Shp)} {BO : List Int} {A : Option Addr} {c : Nat} {h : Hnd} {w0 w : World} (HI : Hid (ImgIn w0 w0.heap.size h m)) (HX : Hid (Below w0.heap.size w0 w)) (HS : Hid (saneB8 m = true)) (HL : Hid (MapsOk m w A c l)) (HR : Hid (ringsB m = true)) (HB : Hid (boundsOf m l = BO)) :
    Calls Try.prog 9 #[imgV h m, .slice A m.methods.length c] w fun e w' => ∃ A c, e = .returned (.tuple #[.slice A m.methods.length c, .int .i64 0]) ∧ Below w.heap.size w w' ∧ SlcIs IntAt 1 w' w'.heap.size A c BO ∧ ∀ ad, A = some ad → w.heap.size ≤ ad.block := by
  have H := dbound_any m l A c h w (HI.out.now HX.out) HS.out HL.out.1 HL.out.2.1 HL.out.2.2
  rw [HL.out.2.2] at H
  exact H.mono fun e w' ⟨A, n, c, er, he, hb, _, h1⟩ => ⟨A, c, by obtain ⟨rfl, rfl, _⟩ := h1 HR.out; exact he, hb, by rw [← HB.out]; exact (h1 HR.out).2.2.1, (h1 HR.out).2.2.2⟩
theorem boundK_top {EL : List (List Int)} {n : Nat} {C : Nat → Int} (hE : EdgesIn EL n) (hn : n ≤ 12) (h1 : ∀ g, C g ≤ 32088) (k : Nat) : ∀ f, boundK EL n C k f ≤ 400000 * k := by
  induction k with
  | zero => intro f; exact Int.le_refl _
  | succ k ih =>
    intro f
    have a2 := ownTo_top (EL := EL) (n := n) (C := C) (f := f) (k := n) (M := 32088) h1 (by omega)
    have a4 := beyTo_top (EL := EL) (n := n) (o := boundK EL n C k) (f := f) (k := n) (M := 400000 * (k : Int)) hE (by omega) (fun t _ => ih t)
    show ownTo EL n C f n + beyTo EL n (boundK EL n C k) f n ≤ _
    omega
theorem bo_at {m : Img} {l : List (List Shp)} {BO : List Int} {k : Nat} (h : boundsOf m l = BO) (hk : k < m.methods.length) : BO[k]? = some (boundF (edgesOf m) m.methods.length (costOf m l) k) := by rw [← h]; exact bounds_at hk
theorem calls_edge {m : Img} {x : Mth} {k g : Nat} (hx : m.methods[k]? = some x) (hg : g < m.methods.length) (hc : callsB m x (g : Int) = true) : edgeB (edgesOf m) k g := by
  unfold edgeB edgesOf
  rw [List.getElem?_map, hx]
  show (g : Int) ∈ rowTo m x m.methods.length
  unfold rowTo
  exact List.mem_map.mpr ⟨g, by rw [List.mem_filter, List.mem_range]; exact ⟨hg, hc⟩, rfl⟩
theorem rcalls13_is {m : Img} {x : Mth} {f : Nat} {g : Int} {r : Bool} {h : Hnd} {w0 w : World} (HI : Hid (ImgIn w0 w0.heap.size h m)) (HX : Hid (Below w0.heap.size w0 w)) (HS : Hid (saneB8 m = true)) (HG : Hid (m.methods[f]? = some x)) (HR : Hid (callsB m x g = r)) :
    Calls Try.prog 16 #[imgV h m, .int .i64 f, .int .i64 g] w fun e w' => e = .returned (.bool r) ∧ Below w.heap.size w w' := by
  have h1 := saneB8_parts HS.out
  have H := rcalls_any m x f g h w (HI.out.now HX.out) HG.out (by omega) (by have := ((saneB8_yes HS.out).method (List.mem_of_getElem? HG.out)).fits.cl; omega)
  rw [HR.out] at H
  exact H

/-- What the first common one is: none, or the greatest. -/
theorem firstIn_spec (m : List Int) : ∀ l : List Int, l.Pairwise (· > ·) → (firstIn l m = (0, 0) ∧ ∀ x ∈ l, x ∉ m) ∨ ∃ x, firstIn l m = (3, x) ∧ x ∈ l ∧ x ∈ m ∧ ∀ y ∈ l, y ∈ m → y ≤ x
  | [], _ => .inl ⟨rfl, by simp⟩
  | x :: r, h => by
    obtain ⟨h1, h2⟩ := List.pairwise_cons.mp h
    by_cases hx : x ∈ m
    · refine .inr ⟨x, by simp only [firstIn]; rw [if_pos (inB_iff.mpr hx)], List.mem_cons_self, hx, fun y hy _ => ?_⟩
      rcases List.mem_cons.mp hy with rfl | hy
      · omega
      · have := h1 y hy; omega
    · have e : firstIn (x :: r) m = firstIn r m := by simp only [firstIn]; rw [if_neg (fun g => hx (inB_iff.mp g))]
      rw [e]
      rcases firstIn_spec m r h2 with ⟨h3, h4⟩ | ⟨z, h3, h4, h5, h6⟩
      · refine .inl ⟨h3, fun y hy => ?_⟩
        rcases List.mem_cons.mp hy with rfl | hy
        · exact hx
        · exact h4 y hy
      · refine .inr ⟨z, h3, List.mem_cons_of_mem _ h4, h5, fun y hy hm => ?_⟩
        rcases List.mem_cons.mp hy with rfl | hy
        · exact absurd hm hx
        · exact h6 y hy hm

/-- Of two classes neither of which is below the other: their join is the greatest that stands above both. -/
theorem join33 {sup : List Int} {n n' : Int} (h1 : n' ∉ aboveI sup n) (h2 : n ∉ aboveI sup n') :
    (firstIn ((aboveI sup n).drop 1) (aboveI sup n') = (0, 0) ∧ ∀ x ∈ aboveI sup n, x ∉ aboveI sup n') ∨
    ∃ x, firstIn ((aboveI sup n).drop 1) (aboveI sup n') = (3, x) ∧ x ∈ aboveI sup n ∧ x ∈ aboveI sup n' ∧ ∀ y ∈ aboveI sup n, y ∈ aboveI sup n' → y ≤ x := by
  by_cases hv : 0 ≤ n ∧ n < sup.length
  · obtain ⟨s, hs⟩ := super_at hv.1 hv.2
    have hd := above_down sup n
    have e := aboveI_step hv.1 hs
    generalize aboveI sup n = L at *
    subst e
    simp only [List.drop_succ_cons, List.drop_zero]
    obtain ⟨g1, g2⟩ := List.pairwise_cons.mp hd
    rcases firstIn_spec (aboveI sup n') _ g2 with ⟨h3, h4⟩ | ⟨z, h3, h4, h5, h6⟩
    · refine .inl ⟨h3, fun y hy => ?_⟩
      rcases List.mem_cons.mp hy with rfl | hy
      · exact h2
      · exact h4 y hy
    · refine .inr ⟨z, h3, List.mem_cons_of_mem _ h4, h5, fun y hy hm => ?_⟩
      rcases List.mem_cons.mp hy with rfl | hy
      · exact absurd hm h2
      · exact h6 y hy hm
  · rw [aboveI_bad (show n < 0 ∨ (sup.length : Int) ≤ n by omega)]
    exact .inl ⟨rfl, by simp⟩

theorem join_turned {sup : List Int} {k n k' n' : Int} (hno : ¬ (k = 4 ∧ k' = 4)) : joinR sup k n k' n' = joinR sup k' n' k n := by
  by_cases h1 : subB sup k n k' n' = true
  · by_cases h2 : subB sup k' n' k n = true
    · have e : (k, n) = (k', n') := by
        rw [sub_iff] at h1 h2
        rcases h1 with ⟨rfl, h⟩ | ⟨rfl, rfl, h⟩ | ⟨h0, rfl, rfl⟩
        · rcases h2 with ⟨h4, _⟩ | ⟨_, h4, _⟩ | ⟨_, h4, _⟩ <;> omega
        · rcases h2 with ⟨h4, _⟩ | ⟨_, _, g⟩ | ⟨h4, _, _⟩
          · omega
          · rw [above_anti g h]
          · omega
        · rfl
      simp only [joinR]
      rw [if_pos h1, if_pos h2]
      exact e.symm
    · simp only [joinR]
      rw [if_pos h1, if_neg h2, if_pos h1]
  · by_cases h2 : subB sup k' n' k n = true
    · simp only [joinR]
      rw [if_neg h1, if_pos h2, if_pos h2]
    · simp only [joinR]
      rw [if_neg h1, if_neg h2, if_neg h2, if_neg h1]
      by_cases h3 : k = 3 ∧ k' = 3
      · obtain ⟨rfl, rfl⟩ := h3
        rw [if_pos ⟨rfl, rfl⟩, if_pos ⟨rfl, rfl⟩]
        have a1 : n' ∉ aboveI sup n := fun h => h1 ((sub_iff ..).mpr (.inr (.inl ⟨rfl, rfl, h⟩)))
        have a2 : n ∉ aboveI sup n' := fun h => h2 ((sub_iff ..).mpr (.inr (.inl ⟨rfl, rfl, h⟩)))
        rcases join33 a1 a2 with ⟨e1, g1⟩ | ⟨x, e1, g1, g2, g3⟩
        · rcases join33 a2 a1 with ⟨e2, f1⟩ | ⟨y, e2, f1, f2, f3⟩
          · rw [e1, e2]
          · exact absurd f1 (g1 y f2)
        · rcases join33 a2 a1 with ⟨e2, f1⟩ | ⟨y, e2, f1, f2, f3⟩
          · exact absurd g1 (f1 x g2)
          · have := g3 y f2 f1
            have := f3 x g2 g1
            rw [e1, e2, show x = y by omega]
      · rw [if_neg h3, if_neg (fun h => h3 ⟨h.2, h.1⟩)]

/-- The join of two types: there is none, and no third one that both fit; or both fit it, and it fits whatever both fit. -/
theorem join_lattice {sup : List Int} {k n k' n' : Int} (ha : thereP sup k n) (hb : thereP sup k' n') :
    ((joinR sup k n k' n').1 = 0 ∧ ∀ j m, subB sup k n j m = true → subB sup k' n' j m = true → False) ∨
    (¬ (joinR sup k n k' n').1 = 0 ∧ subB sup k n (joinR sup k n k' n').1 (joinR sup k n k' n').2 = true ∧ subB sup k' n' (joinR sup k n k' n').1 (joinR sup k n k' n').2 = true ∧
      ∀ j m, subB sup k n j m = true → subB sup k' n' j m = true → subB sup (joinR sup k n k' n').1 (joinR sup k n k' n').2 j m = true) := by
  by_cases h1 : subB sup k n k' n' = true
  · have e : joinR sup k n k' n' = (k', n') := by simp only [joinR]; rw [if_pos h1]
    rw [e]
    have hk := (sub_kinds h1).2
    exact .inr ⟨by show ¬ k' = 0; omega, h1, sub_refl' hk hb, fun j m _ g => g⟩
  · by_cases h2 : subB sup k' n' k n = true
    · have e : joinR sup k n k' n' = (k, n) := by simp only [joinR]; rw [if_neg h1, if_pos h2]
      rw [e]
      have hk := (sub_kinds h2).2
      exact .inr ⟨by show ¬ k = 0; omega, sub_refl' hk ha, h2, fun j m g _ => g⟩
    · by_cases h3 : k = 3 ∧ k' = 3
      · have e : joinR sup k n k' n' = firstIn ((aboveI sup n).drop 1) (aboveI sup n') := by simp only [joinR]; rw [if_neg h1, if_neg h2, if_pos h3]
        obtain ⟨rfl, rfl⟩ := h3
        have a1 : n' ∉ aboveI sup n := fun h => h1 ((sub_iff ..).mpr (.inr (.inl ⟨rfl, rfl, h⟩)))
        have a2 : n ∉ aboveI sup n' := fun h => h2 ((sub_iff ..).mpr (.inr (.inl ⟨rfl, rfl, h⟩)))
        rw [e]
        rcases join33 a1 a2 with ⟨e1, g1⟩ | ⟨x, e1, g1, g2, g3⟩
        · rw [e1]
          refine .inl ⟨rfl, fun j m f g => ?_⟩
          rw [sub_iff] at f g
          rcases f with ⟨f, _⟩ | ⟨_, rfl, f⟩ | ⟨f, _, _⟩
          · omega
          · rcases g with ⟨g, _⟩ | ⟨_, _, g⟩ | ⟨g, _, _⟩
            · omega
            · exact g1 m f g
            · omega
          · omega
        · rw [e1]
          refine .inr ⟨by show ¬ (3 : Int) = 0; decide, (sub_iff ..).mpr (.inr (.inl ⟨rfl, rfl, g1⟩)), (sub_iff ..).mpr (.inr (.inl ⟨rfl, rfl, g2⟩)), fun j m f g => ?_⟩
          rw [sub_iff] at f g
          rcases f with ⟨f, _⟩ | ⟨_, rfl, f⟩ | ⟨f, _, _⟩
          · omega
          · rcases g with ⟨g, _⟩ | ⟨_, _, g⟩ | ⟨g, _, _⟩
            · omega
            · exact (sub_iff ..).mpr (.inr (.inl ⟨rfl, rfl, above_line g1 f (g3 m f g)⟩))
            · omega
          · omega
      · have e : joinR sup k n k' n' = (0, 0) := by simp only [joinR]; rw [if_neg h1, if_neg h2, if_neg h3]
        rw [e]
        refine .inl ⟨rfl, fun j m f g => ?_⟩
        rw [sub_iff] at f g h1 h2
        rcases f with ⟨rfl, f⟩ | ⟨rfl, rfl, f⟩ | ⟨f, rfl, rfl⟩
        · rcases g with ⟨rfl, g⟩ | ⟨rfl, rfl, g⟩ | ⟨g, rfl, rfl⟩
          · exact h1 (.inl ⟨rfl, by omega⟩)
          · exact h1 (.inl ⟨rfl, by omega⟩)
          · exact h1 (.inl ⟨rfl, f⟩)
        · rcases g with ⟨rfl, g⟩ | ⟨rfl, _, g⟩ | ⟨g, rfl, rfl⟩
          · exact h2 (.inl ⟨rfl, by omega⟩)
          · exact h3 ⟨rfl, rfl⟩
          · omega
        · exact h2 (g)

/-- What stands where a type comes to another one. -/
def joinZ (sup : List Int) (s t : Int × Int) : Int × Int := if subB sup t.1 t.2 s.1 s.2 = true then s else joinR sup s.1 s.2 t.1 t.2
theorem self_there {sup : List Int} {k n : Int} (h : subB sup k n k n = true) : thereP sup k n := fun e => by
  subst e
  rw [sub_iff] at h
  rcases h with ⟨h, _⟩ | ⟨_, _, h⟩ | ⟨h, _, _⟩
  · omega
  · have := above_range h
    omega
  · omega
/-- The first so many joined. -/
def comeL (sup : List Int) : List (Int × Int) → List (Int × Int) → Nat → List (Int × Int)
  | s :: ss, t :: ts, k + 1 => joinZ sup s t :: comeL sup ss ts k
  | ss, _, _ => ss
theorem FitsAll.trans' {sup : List Int} {a b c : List (Int × Int)} (h : FitsAll sup a b) (g : FitsAll sup b c) : FitsAll sup a c :=
  ⟨h.1.trans g.1, fun i h1 h2 => sub_trans' (h.2 i h1 (by rw [← h.1]; exact h1)) (g.2 i (by rw [← h.1]; exact h1) h2)⟩
theorem fits_nil (sup : List Int) : FitsAll sup [] [] := ⟨rfl, fun i h => by simp at h⟩
/-- What has come of operands that came to an instruction. -/
structure ComeOk (sup : List Int) (s : Shp) (st J : List (Int × Int)) (grown : Bool) : Prop where
  up : FitsAll sup st J
  old : s.seen = true → FitsAll sup s.stack J
  least : ∀ U, (s.seen = true → FitsAll sup s.stack U) → FitsAll sup st U → FitsAll sup J U
  same : grown = false → s.seen = true ∧ J = s.stack
  more : grown = true → s.seen = true → ¬ FitsAll sup J s.stack
/-- Nothing can. -/
def ComeBad (sup : List Int) (s : Shp) (st : List (Int × Int)) : Prop := s.seen = true ∧ ∀ U, FitsAll sup s.stack U → FitsAll sup st U → False
theorem come_fresh {sup : List Int} {s : Shp} {st : List (Int × Int)} (h : s.seen = false) (hst : FitsAll sup st st) : ComeOk sup s st st true :=
  ⟨hst, (fun e => by rw [h] at e; cases e), fun U _ g => g, (fun e => by cases e), (fun _ e => by rw [h] at e; cases e)⟩
theorem come_many {sup : List Int} {s : Shp} {st : List (Int × Int)} (h : s.seen = true) (hl : ¬ st.length = s.stack.length) : ComeBad sup s st := ⟨h, fun U g1 g2 => hl (g2.1.trans g1.1.symm)⟩
/-- How far up a type may still go. -/
def rankT (n : Nat) (t : Int × Int) : Nat := if t.1 = 4 then max n 1 else if t.1 = 3 then t.2.toNat else 0
theorem rankT_le {sup : List Int} {a : Int × Int} (h : subB sup a.1 a.2 a.1 a.2 = true) : rankT sup.length a ≤ max sup.length 1 := by
  unfold rankT
  by_cases h4 : a.1 = 4
  · rw [if_pos h4]; exact Nat.le_refl _
  · rw [if_neg h4]
    by_cases h3 : a.1 = 3
    · rw [if_pos h3]
      have := self_there h h3
      omega
    · rw [if_neg h3]; exact Nat.zero_le _
theorem rankT_fits {sup : List Int} {a b : Int × Int} (h : subB sup a.1 a.2 b.1 b.2 = true) (hb : subB sup b.1 b.2 b.1 b.2 = true) : rankT sup.length b ≤ rankT sup.length a ∧ (¬ subB sup b.1 b.2 a.1 a.2 = true → rankT sup.length b < rankT sup.length a) := by
  have ht := self_there hb
  obtain ⟨a1, a2⟩ := a
  obtain ⟨b1, b2⟩ := b
  dsimp only at *
  unfold thereP at ht
  unfold rankT
  dsimp only
  have h' := h
  rw [sub_iff] at h'
  rcases h' with ⟨rfl, g⟩ | ⟨rfl, rfl, g⟩ | ⟨g, rfl, rfl⟩
  · rw [if_pos rfl]
    rcases g with rfl | rfl | rfl
    · refine ⟨?_, fun _ => ?_⟩
      · rw [if_neg (by decide), if_neg (by decide)]; omega
      · rw [if_neg (by decide), if_neg (by decide)]; omega
    · have := ht rfl
      rw [if_neg (by decide), if_pos rfl]
      omega
    · refine ⟨by rw [if_pos rfl]; exact Nat.le_refl _, fun q => absurd ((sub_iff ..).mpr (.inl ⟨rfl, .inr (.inr rfl)⟩)) q⟩
  · have hr := above_range g
    rw [if_neg (by decide), if_pos rfl, if_neg (by decide), if_pos rfl]
    refine ⟨by omega, fun q => ?_⟩
    have hne : ¬ b2 = a2 := fun e => q (by subst e; exact hb)
    omega
  · exact ⟨Nat.le_refl _, fun q => absurd h q⟩
def rankL (n : Nat) : List (Int × Int) → Nat
  | [] => 0
  | t :: ts => rankT n t + rankL n ts
theorem fits_cons {sup : List Int} {a b : Int × Int} {s t : List (Int × Int)} : FitsAll sup (a :: s) (b :: t) ↔ subB sup a.1 a.2 b.1 b.2 = true ∧ FitsAll sup s t := by
  constructor
  · intro h
    refine ⟨h.2 0 (Nat.succ_pos _) (Nat.succ_pos _), by simpa using h.1, fun i h1 h2 => h.2 (i + 1) (Nat.succ_lt_succ h1) (Nat.succ_lt_succ h2)⟩
  · rintro ⟨h0, h⟩
    refine ⟨by rw [List.length_cons, List.length_cons, h.1], fun i h1 h2 => ?_⟩
    match i, h1, h2 with
    | 0, _, _ => exact h0
    | i + 1, h1, h2 => exact h.2 i (by simpa using h1) (by simpa using h2)
theorem rankL_le {sup : List Int} : ∀ {s : List (Int × Int)}, FitsAll sup s s → rankL sup.length s ≤ s.length * max sup.length 1
  | [], _ => by simp [rankL]
  | t :: ts, h => by
    rw [fits_cons] at h
    have h1 := rankT_le h.1
    have h2 := rankL_le h.2
    unfold rankL
    rw [List.length_cons, Nat.succ_mul]
    omega
theorem rankL_fits {sup : List Int} : ∀ {s J : List (Int × Int)}, FitsAll sup s J → FitsAll sup J J → rankL sup.length J ≤ rankL sup.length s ∧ (¬ FitsAll sup J s → rankL sup.length J < rankL sup.length s)
  | [], [], _, _ => ⟨Nat.le_refl _, fun h => absurd (fits_nil sup) h⟩
  | [], _ :: _, h, _ => by have := h.1; simp at this
  | _ :: _, [], h, _ => by have := h.1; simp at this
  | a :: s, b :: t, h, g => by
    rw [fits_cons] at h g
    obtain ⟨a1, a2⟩ := rankT_fits h.1 g.1
    obtain ⟨b1, b2⟩ := rankL_fits h.2 g.2
    unfold rankL
    refine ⟨by omega, fun q => ?_⟩
    rw [fits_cons] at q
    by_cases e : subB sup b.1 b.2 a.1 a.2 = true
    · have := b2 (fun f => q ⟨e, f⟩)
      omega
    · have := a2 e
      omega
def rankS (n : Nat) (s : Shp) : Nat := if s.seen then rankL n s.stack + max n 1 * (8 - s.stack.length) else 8 * max n 1 + 1
def rankA (n : Nat) : List Shp → Nat
  | [] => 0
  | s :: S => rankS n s + rankA n S
theorem rankA_set {n : Nat} {x : Shp} : ∀ {S : List Shp} {i : Nat} (h : i < S.length), rankS n x < rankS n S[i] → rankA n (S.set i x) < rankA n S
  | [], i, h, _ => by simp at h
  | s :: S, 0, h, g => by
    show rankS n x + rankA n S < rankS n s + rankA n S
    have g' : rankS n x < rankS n s := g
    omega
  | s :: S, i + 1, h, g => by
    show rankS n s + rankA n (S.set i x) < rankS n s + rankA n S
    have := rankA_set (S := S) (i := i) (by simpa using h) g
    omega
theorem come_rank {sup : List Int} {s : Shp} {st J : List (Int × Int)} (h : ComeOk sup s st J true) (hJ : J.length ≤ 8) : rankS sup.length ⟨true, J⟩ < rankS sup.length s := by
  have hself : FitsAll sup J J := h.least J h.old h.up
  unfold rankS
  rw [if_pos rfl]
  dsimp only
  by_cases g : s.seen = true
  · rw [if_pos g]
    have h1 := (rankL_fits (h.old g) hself).2 (h.more rfl g)
    have h2 := (h.old g).1
    rw [h2]
    omega
  · rw [if_neg g]
    have h1 := rankL_le hself
    have h2 : J.length * max sup.length 1 + max sup.length 1 * (8 - J.length) = 8 * max sup.length 1 := by
      rw [Nat.mul_comm J.length, ← Nat.mul_add, Nat.mul_comm 8]
      congr 1
      omega
    omega
end Go.Proofs.Ytefgepppcmhphaa
