/-
  What the document's own answer for which method calls which (Edges) comes to: how many rows it has.
  What the document's own answer for which method calls which (Edges) comes to, row by row.
  Ways over edges. Plain definitions and lemmas; no conditions.
  Which method comes to which: ways over edges, and what a square of answers that is filled round by round keeps to. Plain definitions and lemmas; no conditions.
  The numbers below a bound that are so, as a list. Plain definitions and lemmas; no conditions.
  Who calls whom, and who comes to whom, as plain data. Plain definitions and lemmas; no conditions.
  What methods take that call one another, as plain data: by rings, and beyond them. Plain definitions and lemmas; no conditions.
-/
import Derived.Test.YtefgepppcmhphaaM15
import Derived.Test.YtefgepppcmhphaaM01
namespace Go.Proofs.Ytefgepppcmhphaa
set_option maxRecDepth 100000
set_option linter.unusedVariables false
set_option linter.unusedSimpArgs false
open Go.ChangeShapes Go.WideShapes Go.ChangeAt Go.RowKit

theorem info_ints : (Try.prog.info? 26).map (fun i => (i.zero, i.size, i.bytes)) = some (some (.slice none 0 0), 1, 24) := by kernel_rfl
theorem rcalls_is {m : Img} {x : Mth} {f : Nat} {g : Int} {h : Hnd} {w0 w : World} {r : Bool} (HI : Hid (ImgIn w0 w0.heap.size h m)) (HX : Hid (Below w0.heap.size w0 w)) (HG : Hid (m.methods[f]? = some x)) (hn : m.classes.length ≤ 1000) (ha : x.code.length ≤ 1048576) (HR : Hid (callsB m x g = r)) :
    Calls Try.prog 16 #[imgV h m, .int .i64 f, .int .i64 g] w fun e w' => e = .returned (.bool r) ∧ Below w.heap.size w w' := by
  have H := rcalls_any m x f g h w (HI.out.now HX.out) HG.out hn ha
  rw [HR.out] at H
  exact H

set_option maxHeartbeats 3200000 in
theorem redges_any (m : Img) (h : Hnd) (w : World) (H : ImgIn w w.heap.size h m) (hn : m.classes.length ≤ 1000) (hml : m.methods.length ≤ 1000) (hc : ∀ x ∈ m.methods, x.code.length ≤ 1048576) :
    Calls Try.prog 15 #[imgV h m] w fun e w' => ∃ v xs, e = .returned v ∧ w'.ownsRow w.heap.size 26 1 v m.methods.length xs ∧ Below w.heap.size w w' := by
  obtain ⟨i0, hi, hz0, hz1, hz2⟩ := info_partsK info_ints
  obtain ⟨i1, hi1, hz01, hz11, hz21⟩ := info_partsK info_int
  have HW := Lib.hid ((Below.refl w.heap.size w).alloc (Nat.le_refl _) (imgO h m))
  have HI := Lib.hid (H.now HW.out)
  have HBX := Lib.hid (img_box w h m)
  have HZ : Hid (w.heap.size < (w.alloc (imgO h m)).heap.size) := Lib.hid (by simp)
  have HCO := Lib.hid hc
  clear H hc
  go_enter Try.func15, Try.ntmps15
  go_upto_region 1 with fail
  generalize w.alloc (imgO h m) = w1 at *
  go_wp2_with fail
  go_loopw [3, 4] (fun v i wr => ∃ (k : Nat) (xs : List Value), k ≤ m.methods.length ∧ i = .int .i64 k ∧ Hid (wr.ownsRow w1.heap.size 26 1 v k xs) ∧ Hid (Below w1.heap.size w1 wr)) (fun _ i _ => m.methods.length - (intOf i).toNat)
  case atStart => exact ⟨0, [], by omega, rfl, Lib.hid (own_empty w1 _), Lib.hid ((Below.refl _ _).alloc (Nat.le_refl _) _)⟩
  case round =>
    obtain ⟨k, xs, hk, rfl, HO, HX⟩ := hrel
    obtain ⟨q0, q1, q2, q3, q4, q5, q6⟩ := HBX.out.keep HX.out HZ.out
    have hsz := HX.out.size
    by_cases hlt : k < m.methods.length
    · obtain ⟨x, hx⟩ : ∃ x, m.methods[k]? = some x := ⟨_, List.getElem?_eq_getElem hlt⟩
      have HG := Lib.hid hx
      have hxc := HCO.out x (List.mem_of_getElem? hx)
      clear hx
      go_wp2_with fail
      go_loopw [5, 6] (fun l j wi => ∃ (g : Nat) (ys : List Int), g ≤ m.methods.length ∧ j = .int .i64 g ∧ ys.length ≤ g ∧ Hid (wi.ownsRow wr.heap.size 3 1 l ys.length (ys.map (Value.int .i64))) ∧ Hid (Below wr.heap.size wr wi)) (fun _ j _ => m.methods.length - (intOf j).toNat)
      case atStart => exact ⟨0, [], by omega, rfl, Nat.le_refl _, Lib.hid (own_empty wr _), Lib.hid ((Below.refl _ _).alloc (Nat.le_refl _) _)⟩
      case round =>
        clear q0 q1 q2 q3 q4 q5 q6
        obtain ⟨g, ys, hg, rfl, hyl, HOi, HXi⟩ := hrel
        have HX2 := Lib.hid (HX.out.trans (HXi.out.mono hsz))
        obtain ⟨q0, q1, q2, q3, q4, q5, q6⟩ := HBX.out.keep HX2.out HZ.out
        by_cases hgl : g < m.methods.length
        · obtain ⟨r, hr⟩ : ∃ r, callsB m x (g : Int) = r := ⟨_, rfl⟩
          have HR := Lib.hid hr
          clear hr
          cases r
          · go_wp2_with (go_at_call 16; (with_reducible refine (rcalls_is HI HX2 HG hn hxc HR).mono ?_); rintro e w4 ⟨rfl, hb⟩; have HO4 := Lib.hid (own_below HOi.out hb (own_block_lt HOi.out)); have HX4 := Lib.hid (HXi.out.trans (hb.mono HXi.out.size)); clear hb)
            go_roundw
            case rel => exact ⟨g + 1, ys, by omega, by go_num, by omega, HO4, HX4⟩
            case measure => simp [intOf]; omega
          · go_wp2_with (first
              | (go_at_call 16; (with_reducible refine (rcalls_is HI HX2 HG hn hxc HR).mono ?_); rintro e w4 ⟨rfl, hb⟩; have HO4 := Lib.hid (own_below HOi.out hb (own_block_lt HOi.out)); have HX4 := Lib.hid (HXi.out.trans (hb.mono HXi.out.size)); have hsz4 := HX4.out.size; clear hb)
              | (at_builtin; refine append_liesK rfl _ _ 26 rfl _ 3 i1 (.int .i64 0) 1 8 Try.underlying26 hi1 hz01 hz11 hz21 rfl (by decide) _ ys.length (ys.map (Value.int .i64)) rfl (HO4.out.alloc _) (some ⟨w4.heap.size, 0, none⟩) 1 1 _ [.int .i64 (g : Int)] rfl rfl (lies_v1 w4 _ _) (one_cellv rfl) (by unfold maxLen; omega) (by omega) (by simp; omega) ?_; intro v6 w6 hown hgrow; have HX6 := Lib.hid (appK_more (HX4.out.alloc hsz4 _) (HO4.out.alloc _) (by simp; omega) hgrow); have HO6 := Lib.hid hown; clear hown hgrow))
            go_roundw
            case rel => exact ⟨g + 1, ys ++ [(g : Int)], by omega, by go_num, by simp; omega, Lib.hid (by simpa using HO6.out), HX6⟩
            case measure => simp [intOf]; omega
        · obtain ⟨Al, cl, rfl, hll, hl1, hl2⟩ := own_ints HOi.out
          have HOo := Lib.hid (own_below HO.out HXi.out (own_block_lt HO.out))
          have hsz2 := HX2.out.size
          go_wp2_with (at_builtin; refine append_liesK rfl _ _ 43 rfl w1.heap.size 26 i0 (.slice none 0 0) 1 24 Try.underlying43 hi hz0 hz1 hz2 rfl (by decide) _ k xs rfl (HOo.out.alloc _) (some ⟨wr.heap.size, 0, none⟩) 1 1 _ [.slice Al ys.length cl] rfl rfl (lies_v1 wr _ _) (one_cellv rfl) (by unfold maxLen; omega) (by omega) (by simp; omega) ?_; intro v6 w6 hown hgrow; have HX6 := Lib.hid (appK_more (HX2.out.alloc hsz2 _) (HOo.out.alloc _) (by simp; omega) hgrow); have HO6 := Lib.hid hown; clear hown hgrow)
          go_roundw
          case rel => exact ⟨k + 1, _, by omega, by go_num, HO6, HX6⟩
          case measure => simp [intOf]; omega
    · go_wp2_with fail
      go_ret
      exact ⟨_, xs, rfl, own_lower (by have e : k = m.methods.length := by omega
                                       rw [← e]; exact HO.out) HW.out.size, HW.out.trans (HX.out.mono HW.out.size)⟩
end Go.Proofs.Ytefgepppcmhphaa
namespace Go.Proofs.Ytefgepppcmhphaa
set_option maxRecDepth 100000
set_option linter.unusedVariables false
set_option linter.unusedSimpArgs false
open Go.ChangeShapes Go.WideShapes Go.ChangeAt Go.RowKit

/-- The methods, of the first so many, that a method may call. -/
def rowTo (m : Img) (x : Mth) (n : Nat) : List Int := ((List.range n).filter (fun g : Nat => callsB m x (g : Int))).map (fun g : Nat => (g : Int))
theorem rowTo_yes {m : Img} {x : Mth} {n : Nat} (h : callsB m x (n : Int) = true) : rowTo m x (n + 1) = rowTo m x n ++ [(n : Int)] := by
  unfold rowTo
  rw [List.range_succ, List.filter_append, List.map_append]
  simp [h]
theorem rowTo_no {m : Img} {x : Mth} {n : Nat} (h : callsB m x (n : Int) = false) : rowTo m x (n + 1) = rowTo m x n := by
  unfold rowTo
  rw [List.range_succ, List.filter_append, List.map_append]
  simp [h]
theorem rowTo_len (m : Img) (x : Mth) (n : Nat) : (rowTo m x n).length ≤ n := by
  unfold rowTo
  rw [List.length_map]
  exact Nat.le_trans (List.length_filter_le _ _) (by rw [List.length_range]; exact Nat.le_refl _)
/-- Which method calls which. -/
def edgesOf (m : Img) : List (List Int) := m.methods.map fun x => rowTo m x m.methods.length
/-- Slices of lists of numbers, each apart from a row of the call's own. -/
def EdgeAt (w : World) (v : Value) (A : Option Addr) (c : Nat) (L : List Int) : Prop := SlcIs IntAt 1 w w.heap.size A c L ∧ Apart v A ∧ ∀ ad, A = some ad → ad.block < w.heap.size
def EdgeIn (w : World) (v : Value) (xs : List Value) (EL : List (List Int)) : Prop :=
  xs.length = EL.length ∧ ∀ (i : Nat) (L : List Int), EL[i]? = some L → ∃ A c, xs[i]? = some (Value.slice A L.length c) ∧ EdgeAt w v A c L
theorem slc_ints_at {w w' : World} {B C : Nat} {A : Option Addr} {c : Nat} {L : List Int} (h : SlcIs IntAt 1 w B A c L) (hC : B ≤ C) (hk : ∀ ad, A = some ad → ∀ q : Addr, q.block = ad.block → w'.cell? q = w.cell? q) : SlcIs IntAt 1 w' C A c L :=
  ⟨h.le, h.cap, fun i x hi => by
    obtain ⟨ad, e, hb, hc⟩ := h.row i x hi
    exact ⟨ad, e, Nat.lt_of_lt_of_le hb hC, (hk ad e _ (addr_add_block _ _)).trans hc⟩⟩
theorem EdgeIn.nil (w : World) (v : Value) : EdgeIn w v [] [] := ⟨rfl, fun i L hi => by simp at hi⟩
theorem EdgeIn.below {w w' : World} {v : Value} {xs : List Value} {EL : List (List Int)} (h : EdgeIn w v xs EL) (hb : Below w.heap.size w w') : EdgeIn w' v xs EL :=
  ⟨h.1, fun i L hi => by
    obtain ⟨A, c, e, hs, ha, hl⟩ := h.2 i L hi
    exact ⟨A, c, e, (hs.below_to IntAt.keeps hb (Nat.le_refl _)).keep' IntAt.keeps hb.size (fun _ _ => rfl), ha, fun ad e => Nat.lt_of_lt_of_le (hl ad e) hb.size⟩⟩
theorem EdgeAt.grown {w w3 : World} {o : Obj} {v : Value} {L : List Int} {A : Option Addr} {c g9 n k : Nat} (h : EdgeAt w v A c L) (hg : (w.alloc o).grownBy w3 v.ownBlock) (hor : v.ownBlock = some g9 ∨ g9 = (w.alloc o).heap.size) :
    EdgeAt w3 (.slice (some ⟨g9, 0, none⟩) n k) A c L := by
  obtain ⟨hs, ha, hl⟩ := h
  have hz : w.heap.size ≤ w3.heap.size := Nat.le_trans (by simp) hg.size
  refine ⟨slc_ints_at hs hz fun ad e q hq => ?_, apart_next ha hl hor (by simp), fun ad e => Nat.lt_of_lt_of_le (hl ad e) hz⟩
  have hb := hl ad e
  have h1 : w3.cell? q = (w.alloc o).cell? q := World.cell?_of_block (hg.block _ (by rw [hq]; simp; omega) (fun e' => ha _ e'.symm ad e hq))
  rw [h1]
  exact ((Below.refl w.heap.size w).alloc (Nat.le_refl _) o).cell (by rw [hq]; exact hb)
theorem EdgeIn.snoc {w w3 : World} {o : Obj} {v : Value} {xs : List Value} {EL : List (List Int)} {L : List Int} {A : Option Addr} {c g9 n k : Nat} (h : EdgeIn w v xs EL) (hs : EdgeAt w v A c L)
    (hg : (w.alloc o).grownBy w3 v.ownBlock) (hor : v.ownBlock = some g9 ∨ g9 = (w.alloc o).heap.size) :
    EdgeIn w3 (.slice (some ⟨g9, 0, none⟩) n k) (xs ++ [.slice A L.length c]) (EL ++ [L]) := by
  refine ⟨by rw [List.length_append, List.length_append, h.1]; rfl, fun i M hi => ?_⟩
  rcases Nat.lt_or_ge i EL.length with q | q
  · rw [List.getElem?_append_left q] at hi
    obtain ⟨A', c', e, hs'⟩ := h.2 i M hi
    exact ⟨A', c', by rw [List.getElem?_append_left (by rw [h.1]; exact q)]; exact e, hs'.grown hg hor⟩
  · rw [List.getElem?_append_right q] at hi
    have hiz : i - EL.length = 0 := by
      rcases Nat.eq_zero_or_pos (i - EL.length) with z | z
      · exact z
      · rw [List.getElem?_eq_none (by simp; omega)] at hi; cases hi
    rw [hiz] at hi
    simp at hi
    subst hi
    exact ⟨A, c, by rw [List.getElem?_append_right (by rw [h.1]; exact q), h.1, hiz]; rfl, hs.grown hg hor⟩
/-- Rows of numbers, wherever they lie. -/
def RowsIs (EL : List (List Int)) (w : World) (e : Ending) (w' : World) : Prop := ∃ A c, e = .returned (.slice A EL.length c) ∧ SlcIs (SlcAt IntAt 1) 1 w' w'.heap.size A c EL ∧ Below w.heap.size w w'
theorem edge_slc {w : World} {B e n : Nat} {v : Value} {xs : List Value} {EL : List (List Int)} (ho : w.ownsRow B e 1 v n xs) (hn : n = EL.length) (h : EdgeIn w v xs EL) : ∃ A c, v = .slice A EL.length c ∧ SlcIs (SlcAt IntAt 1) 1 w w.heap.size A c EL := by
  subst hn
  rcases ownK_slice ho with ⟨rfl, hz⟩ | ⟨g, c, rfl, h1, h2⟩
  · have : EL = [] := List.eq_nil_of_length_eq_zero hz
    subst this
    exact ⟨none, 0, rfl, ⟨Nat.le_refl _, by omega, RowOf.nil⟩⟩
  · obtain ⟨hb, hc⟩ := ownK_cell ho
    refine ⟨_, c, rfl, h1, h2, fun i L hi => ?_⟩
    obtain ⟨A, k, e1, hs, _, _⟩ := h.2 i L hi
    obtain ⟨c0, hg⟩ := hc i _ e1
    refine ⟨_, rfl, hg, A, k, ?_, hs⟩
    have ea : (Addr.add ⟨g, 0, none⟩ (i * 1)) = ⟨g, i, none⟩ := by
      unfold Addr.add; split
      · rename_i h0; simp at h0; rw [h0]
      · simp
    rw [ea]
    exact c0
set_option maxHeartbeats 3200000 in
theorem redgesF_any (m : Img) (h : Hnd) (w : World) (H : ImgIn w w.heap.size h m) (hn : m.classes.length ≤ 1000) (hml : m.methods.length ≤ 1000) (hc : ∀ x ∈ m.methods, x.code.length ≤ 1048576) :
    Calls Try.prog 15 #[imgV h m] w (RowsIs (edgesOf m) w) := by
  have hrow0 : ∀ n v, rowTo m v n = rowTo m v n := fun _ _ => rfl
  clear hrow0
  obtain ⟨i0, hi, hz0, hz1, hz2⟩ := info_partsK info_ints
  obtain ⟨i1, hi1, hz01, hz11, hz21⟩ := info_partsK info_int
  have HW := Lib.hid ((Below.refl w.heap.size w).alloc (Nat.le_refl _) (imgO h m))
  have HI := Lib.hid (H.now HW.out)
  have HBX := Lib.hid (img_box w h m)
  have HZ : Hid (w.heap.size < (w.alloc (imgO h m)).heap.size) := Lib.hid (by simp)
  have HCO := Lib.hid hc
  clear H hc
  go_enter Try.func15, Try.ntmps15
  go_upto_region 1 with fail
  generalize w.alloc (imgO h m) = w1 at *
  go_wp2_with fail
  go_loopw [3, 4] (fun v i wr => ∃ (k : Nat) (xs : List Value), k ≤ m.methods.length ∧ i = .int .i64 k ∧ Hid (wr.ownsRow w1.heap.size 26 1 v k xs) ∧ Hid (Below w1.heap.size w1 wr) ∧ Hid (EdgeIn wr v xs ((m.methods.take k).map fun x => rowTo m x m.methods.length))) (fun _ i _ => m.methods.length - (intOf i).toNat)
  case atStart => exact ⟨0, [], by omega, rfl, Lib.hid (own_empty w1 _), Lib.hid ((Below.refl _ _).alloc (Nat.le_refl _) _), Lib.hid (EdgeIn.nil _ _)⟩
  case round =>
    obtain ⟨k, xs, hk, rfl, HO, HX, HE⟩ := hrel
    obtain ⟨q0, q1, q2, q3, q4, q5, q6⟩ := HBX.out.keep HX.out HZ.out
    have hsz := HX.out.size
    by_cases hlt : k < m.methods.length
    · obtain ⟨x, hx⟩ : ∃ x, m.methods[k]? = some x := ⟨_, List.getElem?_eq_getElem hlt⟩
      have HG := Lib.hid hx
      have hxc := HCO.out x (List.mem_of_getElem? hx)
      have HTK : Hid ((m.methods.take (k + 1)).map (fun x => rowTo m x m.methods.length) = (m.methods.take k).map (fun x => rowTo m x m.methods.length) ++ [rowTo m x m.methods.length]) := Lib.hid (by rw [List.take_add_one, hx, List.map_append]; rfl)
      clear hx
      go_wp2_with fail
      go_loopw [5, 6] (fun l j wi => ∃ (g : Nat) (ys : List Int), g ≤ m.methods.length ∧ j = .int .i64 g ∧ Hid (ys = rowTo m x g) ∧ ys.length ≤ g ∧ Hid (wi.ownsRow wr.heap.size 3 1 l ys.length (ys.map (Value.int .i64))) ∧ Hid (Below wr.heap.size wr wi)) (fun _ j _ => m.methods.length - (intOf j).toNat)
      case atStart => exact ⟨0, [], by omega, rfl, Lib.hid rfl, Nat.le_refl _, Lib.hid (own_empty wr _), Lib.hid ((Below.refl _ _).alloc (Nat.le_refl _) _)⟩
      case round =>
        clear q0 q1 q2 q3 q4 q5 q6
        obtain ⟨g, ys, hg, rfl, HYS, hyl, HOi, HXi⟩ := hrel
        have HX2 := Lib.hid (HX.out.trans (HXi.out.mono hsz))
        obtain ⟨q0, q1, q2, q3, q4, q5, q6⟩ := HBX.out.keep HX2.out HZ.out
        by_cases hgl : g < m.methods.length
        · obtain ⟨r, hr⟩ : ∃ r, callsB m x (g : Int) = r := ⟨_, rfl⟩
          have HR := Lib.hid hr
          have HYN : Hid (r = false → ys = rowTo m x (g + 1)) := Lib.hid (fun q => by rw [rowTo_no (by rw [hr, q])]; exact HYS.out)
          have HYY : Hid (r = true → ys ++ [(g : Int)] = rowTo m x (g + 1)) := Lib.hid (fun q => by rw [rowTo_yes (by rw [hr, q]), ← HYS.out])
          clear hr
          cases r
          · go_wp2_with (go_at_call 16; (with_reducible refine (rcalls_is HI HX2 HG hn hxc HR).mono ?_); rintro e w4 ⟨rfl, hb⟩; have HO4 := Lib.hid (own_below HOi.out hb (own_block_lt HOi.out)); have HX4 := Lib.hid (HXi.out.trans (hb.mono HXi.out.size)); clear hb)
            go_roundw
            case rel => exact ⟨g + 1, ys, by omega, by go_num, Lib.hid (HYN.out (by simp)), by omega, HO4, HX4⟩
            case measure => simp [intOf]; omega
          · go_wp2_with (first
              | (go_at_call 16; (with_reducible refine (rcalls_is HI HX2 HG hn hxc HR).mono ?_); rintro e w4 ⟨rfl, hb⟩; have HO4 := Lib.hid (own_below HOi.out hb (own_block_lt HOi.out)); have HX4 := Lib.hid (HXi.out.trans (hb.mono HXi.out.size)); have hsz4 := HX4.out.size; clear hb)
              | (at_builtin; refine append_liesK rfl _ _ 26 rfl _ 3 i1 (.int .i64 0) 1 8 Try.underlying26 hi1 hz01 hz11 hz21 rfl (by decide) _ ys.length (ys.map (Value.int .i64)) rfl (HO4.out.alloc _) (some ⟨w4.heap.size, 0, none⟩) 1 1 _ [.int .i64 (g : Int)] rfl rfl (lies_v1 w4 _ _) (one_cellv rfl) (by unfold maxLen; omega) (by omega) (by simp; omega) ?_; intro v6 w6 hown hgrow; have HX6 := Lib.hid (appK_more (HX4.out.alloc hsz4 _) (HO4.out.alloc _) (by simp; omega) hgrow); have HO6 := Lib.hid hown; clear hown hgrow))
            go_roundw
            case rel => exact ⟨g + 1, ys ++ [(g : Int)], by omega, by go_num, Lib.hid (HYY.out (by simp)), by simp; omega, Lib.hid (by simpa using HO6.out), HX6⟩
            case measure => simp [intOf]; omega
        · obtain ⟨Al, cl, rfl, hll, hl1, hl2⟩ := own_ints HOi.out
          have HOo := Lib.hid (own_below HO.out HXi.out (own_block_lt HO.out))
          have hsz2 := HX2.out.size
          have HYE : Hid (ys = rowTo m x m.methods.length) := Lib.hid (by rw [HYS.out, show g = m.methods.length by omega])
          have HEo := Lib.hid (HE.out.below HXi.out)
          have hly : ∀ ad, Al = some ad → ad.block < wr.heap.size := fun ad e => own_block_lt HOi.out _ (by rw [e]; rfl)
          have HEA : Hid (EdgeAt wr u3 Al cl ys) := Lib.hid ⟨⟨hl1, hl2, fun i z hi => by
            obtain ⟨ad, e, hb, hc⟩ := hll i (.int .i64 z) (by rw [List.getElem?_map, hi]; rfl)
            exact ⟨ad, e, hb, by rw [Nat.mul_one]; exact hc⟩⟩, fun q hq ad e => by
              have h1 := own_block_lt HO.out q hq
              have h2 := (HOi.out.lt ad.block (by rw [e]; rfl)).1
              omega, hly⟩
          clear hly
          go_wp2_with (at_builtin; refine wpList_append_lies _ rfl _ _ 43 rfl w1.heap.size 26 i0 (.slice none 0 0) 1 24 Try.underlying43 hi hz0 hz1 hz2 rfl (by decide) _ k xs rfl (HOo.out.alloc _) ⟨wr.heap.size, 0, none⟩ 1 1 [.slice Al ys.length cl] rfl rfl (fun j u hj => (by obtain ⟨ad', e', _, h'⟩ := lies_v1 wr (.slice Al ys.length cl) 26 j u hj; injection e' with e'; subst e'; exact h')) (one_cellv rfl) (by decide) (by unfold maxLen; omega) (by omega) (by simp; omega) _ rfl ?_; intro g9 c9 w6 hown hgrow hor hlt9; have HX6 := Lib.hid (appK_more (HX2.out.alloc hsz2 _) (HOo.out.alloc _) (by simp; omega) hgrow); have HO6 := Lib.hid hown; have HE6 := Lib.hid (HEo.out.snoc (n := k + 1) (k := c9) HEA.out hgrow hor); clear hown hgrow hor)
          go_roundw
          case rel => exact ⟨k + 1, _, by omega, by go_num, HO6, HX6, Lib.hid (by rw [HTK.out, ← HYE.out]; exact HE6.out)⟩
          case measure => simp [intOf]; omega
    · go_wp2_with fail
      go_ret
      have e : k = m.methods.length := by omega
      subst e
      obtain ⟨Ae, ce, rfl, hse⟩ := edge_slc HO.out (by rw [List.length_map, List.take_length]) HE.out
      have h1 : (m.methods.take m.methods.length).map (fun x => rowTo m x m.methods.length) = edgesOf m := by rw [List.take_length]; rfl
      rw [h1] at hse
      exact ⟨Ae, ce, by rw [← h1]; first | rfl | simp, hse, HW.out.trans (HX.out.mono HW.out.size)⟩
end Go.Proofs.Ytefgepppcmhphaa
namespace Go.Proofs.Ytefgepppcmhphaa
set_option maxRecDepth 100000
set_option linter.unusedVariables false
set_option linter.unusedSimpArgs false
set_option linter.unusedVariables false

/-- There is an edge from the one to the other. -/
def edgeB (EL : List (List Int)) (i j : Nat) : Prop := (j : Int) ∈ EL[i]?.getD []
/-- There is a way of one edge or more, all that lies between below n. -/
inductive Way (EL : List (List Int)) (n : Nat) (i : Nat) : Nat → Prop
  | one {j : Nat} (h : edgeB EL i j) : Way EL n i j
  | snoc {p j : Nat} (h : Way EL n i p) (hp : p < n) (e : edgeB EL p j) : Way EL n i j
theorem Way.more {EL : List (List Int)} {n n' i j : Nat} (h : Way EL n i j) (hn : n ≤ n') : Way EL n' i j := by
  induction h with
  | one h => exact .one h
  | snoc _ hp e ih => exact .snoc ih (by omega) e
theorem Way.join {EL : List (List Int)} {n i p j : Nat} (h : Way EL n i p) (hp : p < n) (h' : Way EL n p j) : Way EL n i j := by
  induction h' with
  | one e => exact .snoc h hp e
  | snoc _ hq e ih => exact .snoc ih hq e
/-- A way goes through the last one that it may go through, or it does not. -/
theorem Way.split {EL : List (List Int)} {k i j : Nat} (h : Way EL (k + 1) i j) : Way EL k i j ∨ (Way EL k i k ∧ Way EL k k j) := by
  induction h with
  | one e => exact .inl (.one e)
  | @snoc p j _ hp e ih =>
    by_cases hk : p = k
    · subst hk
      rcases ih with h1 | ⟨h1, _⟩
      · exact .inr ⟨h1, .one e⟩
      · exact .inr ⟨h1, .one e⟩
    · rcases ih with h1 | ⟨h1, h2⟩
      · exact .inl (.snoc h1 (by omega) e)
      · exact .inr ⟨h1, .snoc h2 (by omega) e⟩
end Go.Proofs.Ytefgepppcmhphaa
namespace Go.Proofs.Ytefgepppcmhphaa
set_option maxRecDepth 100000
set_option linter.unusedVariables false
set_option linter.unusedSimpArgs false
open Go.ChangeShapes Go.WideShapes Go.ChangeAt Go.RowKit
set_option linter.unusedVariables false

/-- A square of answers. -/
def wat (W : List (List Bool)) (i j : Nat) : Bool := (W[i]?.getD [])[j]?.getD false
structure Square (n : Nat) (W : List (List Bool)) : Prop where
  len : W.length = n
  row : ∀ r ∈ W, r.length = n
def wset (W : List (List Bool)) (i j : Nat) (b : Bool) : List (List Bool) := W.set i ((W[i]?.getD []).set j b)
theorem Square.at_ {n i : Nat} {W : List (List Bool)} (h : Square n W) (hi : i < n) : (W[i]?.getD []).length = n := by
  have hl : i < W.length := by rw [h.len]; exact hi
  rw [List.getElem?_eq_getElem hl, Option.getD_some]
  exact h.row _ (List.getElem_mem hl)
theorem Square.set {n i j : Nat} {W : List (List Bool)} (h : Square n W) (hi : i < n) (b : Bool) : Square n (wset W i j b) := by
  refine ⟨by unfold wset; rw [List.length_set]; exact h.len, fun r hr => ?_⟩
  rcases List.mem_or_eq_of_mem_set hr with q | q
  · exact h.row r q
  · rw [q, List.length_set]
    exact h.at_ hi
theorem wat_set {n i j i' j' : Nat} {W : List (List Bool)} (h : Square n W) (hi : i < n) (hj : j < n) (b : Bool) : wat (wset W i j b) i' j' = if i' = i ∧ j' = j then b else wat W i' j' := by
  have hl : i < W.length := by rw [h.len]; exact hi
  have hr := h.at_ hi
  unfold wat wset
  rw [List.getElem?_set]
  by_cases hii : i = i'
  · subst hii
    rw [if_pos rfl, if_pos hl, Option.getD_some, List.getElem?_set]
    by_cases hjj : j = j'
    · subst hjj
      rw [if_pos rfl, if_pos (by omega), if_pos ⟨rfl, rfl⟩]
      rfl
    · rw [if_neg hjj, if_neg (fun q => hjj q.2.symm)]
  · rw [if_neg hii, if_neg (fun q => hii q.1.symm)]
/-- What the square keeps to: whatever is answered with yes is a way, and each way through the first k is answered with yes. -/
structure WaysIn (EL : List (List Int)) (n k : Nat) (W : List (List Bool)) : Prop where
  sq : Square n W
  sound : ∀ i j, i < n → j < n → wat W i j = true → Way EL n i j
  full : ∀ i j, i < n → j < n → Way EL k i j → wat W i j = true
/-- While one is gone through: what has been answered with yes before stays so, and all places that have been passed are as they should be. -/
structure WaysMid (EL : List (List Int)) (n k : Nat) (W0 W : List (List Bool)) (i j : Nat) : Prop where
  sq : Square n W
  sound : ∀ a b, a < n → b < n → wat W a b = true → Way EL n a b
  keep : ∀ a b, a < n → b < n → wat W0 a b = true → wat W a b = true
  done : ∀ a b, a < n → b < n → (a < i ∨ (a = i ∧ b < j)) → wat W0 a k = true → wat W0 k b = true → wat W a b = true
theorem WaysIn.start {EL : List (List Int)} {n k : Nat} {W : List (List Bool)} (h : WaysIn EL n k W) : WaysMid EL n k W W 0 0 :=
  ⟨h.sq, h.sound, fun _ _ _ _ q => q, fun a b _ _ q => by omega⟩
theorem WaysMid.step {EL : List (List Int)} {n k i j : Nat} {W0 W : List (List Bool)} (h : WaysMid EL n k W0 W i j) (hk : k < n) (hi : i < n) (hj : j < n) :
    WaysMid EL n k W0 (wset W i j (wat W i j || (wat W i k && wat W k j))) i (j + 1) := by
  have hs : ∀ a b, wat (wset W i j (wat W i j || (wat W i k && wat W k j))) a b = if a = i ∧ b = j then (wat W i j || (wat W i k && wat W k j)) else wat W a b := fun a b => wat_set h.sq hi hj _
  have hm : ∀ a b, wat W a b = true → wat (wset W i j (wat W i j || (wat W i k && wat W k j))) a b = true := fun a b q => by
    rw [hs]
    by_cases e : a = i ∧ b = j
    · rw [if_pos e, ← e.1, ← e.2, q, Bool.true_or]
    · rw [if_neg e]; exact q
  refine ⟨h.sq.set hi _, fun a b ha hb q => ?_, fun a b ha hb q => hm a b (h.keep a b ha hb q), fun a b ha hb q h1 h2 => ?_⟩
  · rw [hs] at q
    by_cases e : a = i ∧ b = j
    · rw [if_pos e] at q
      obtain ⟨rfl, rfl⟩ := e
      rw [Bool.or_eq_true, Bool.and_eq_true] at q
      rcases q with q | ⟨q1, q2⟩
      · exact h.sound _ _ ha hb q
      · exact (h.sound _ _ ha hk q1).join hk (h.sound _ _ hk hb q2)
    · rw [if_neg e] at q; exact h.sound a b ha hb q
  · by_cases e : a = i ∧ b = j
    · rw [hs, if_pos e]
      obtain ⟨rfl, rfl⟩ := e
      rw [h.keep a k ha hk h1, h.keep k b hk hb h2]
      simp
    · exact hm a b (h.done a b ha hb (by omega) h1 h2)
theorem WaysMid.next {EL : List (List Int)} {n k i j : Nat} {W0 W : List (List Bool)} (h : WaysMid EL n k W0 W i j) (hj : n ≤ j) : WaysMid EL n k W0 W (i + 1) 0 :=
  ⟨h.sq, h.sound, h.keep, fun a b ha hb q => h.done a b ha hb (by omega)⟩
theorem WaysMid.end_ {EL : List (List Int)} {n k i j : Nat} {W0 W : List (List Bool)} (h0 : WaysIn EL n k W0) (h : WaysMid EL n k W0 W i j) (hk : k < n) (hi : n ≤ i) : WaysIn EL n (k + 1) W :=
  ⟨h.sq, h.sound, fun a b ha hb q => by
    rcases q.split with q | ⟨q1, q2⟩
    · exact h.keep a b ha hb (h0.full a b ha hb q)
    · exact h.done a b ha hb (by omega) (h0.full a k ha hk q1) (h0.full k b hk hb q2)⟩
theorem WaysIn.iff {EL : List (List Int)} {n : Nat} {W : List (List Bool)} (h : WaysIn EL n n W) {i j : Nat} (hi : i < n) (hj : j < n) : wat W i j = true ↔ Way EL n i j := ⟨h.sound i j hi hj, h.full i j hi hj⟩
/-- The square of the edges alone. -/
theorem WaysIn.first {EL : List (List Int)} {n : Nat} {W : List (List Bool)} (hs : Square n W) (h : ∀ i j, i < n → j < n → (wat W i j = true ↔ edgeB EL i j)) : WaysIn EL n 0 W :=
  ⟨hs, fun i j hi hj q => .one ((h i j hi hj).mp q), fun i j hi hj q => by
    cases q with
    | one e => exact (h i j hi hj).mpr e
    | snoc _ hp _ => omega⟩
end Go.Proofs.Ytefgepppcmhphaa
namespace Go.Proofs.Ytefgepppcmhphaa
set_option maxRecDepth 100000
set_option linter.unusedVariables false
set_option linter.unusedSimpArgs false
open Go.ChangeShapes Go.WideShapes Go.RowKit

/-- The numbers below n that are so. -/
def pickTo (p : Nat → Bool) (n : Nat) : List Int := ((List.range n).filter p).map (fun g : Nat => (g : Int))
theorem pickTo_yes {p : Nat → Bool} {n : Nat} (h : p n = true) : pickTo p (n + 1) = pickTo p n ++ [(n : Int)] := by
  unfold pickTo
  rw [List.range_succ, List.filter_append, List.map_append]
  simp [h]
theorem pickTo_no {p : Nat → Bool} {n : Nat} (h : p n = false) : pickTo p (n + 1) = pickTo p n := by
  unfold pickTo
  rw [List.range_succ, List.filter_append, List.map_append]
  simp [h]
theorem pickTo_len (p : Nat → Bool) (n : Nat) : (pickTo p n).length ≤ n := by
  unfold pickTo
  rw [List.length_map]
  exact Nat.le_trans (List.length_filter_le _ _) (by rw [List.length_range]; exact Nat.le_refl _)
theorem mem_pick {p : Nat → Bool} {n : Nat} {x : Int} : x ∈ pickTo p n ↔ ∃ g : Nat, x = (g : Int) ∧ g < n ∧ p g = true := by
  unfold pickTo
  rw [List.mem_map]
  constructor
  · rintro ⟨g, hg, rfl⟩
    rw [List.mem_filter, List.mem_range] at hg
    exact ⟨g, rfl, hg⟩
  · rintro ⟨g, rfl, hg⟩
    exact ⟨g, by rw [List.mem_filter, List.mem_range]; exact hg, rfl⟩
theorem pick_same {p q : Nat → Bool} {n : Nat} (h : ∀ g, g < n → p g = q g) : pickTo p n = pickTo q n := by
  unfold pickTo
  congr 1
  exact List.filter_congr (fun g hg => h g (List.mem_range.mp hg))
end Go.Proofs.Ytefgepppcmhphaa
namespace Go.Proofs.Ytefgepppcmhphaa
set_option maxRecDepth 100000
set_option linter.unusedVariables false
set_option linter.unusedSimpArgs false
open Go.ChangeShapes Go.WideShapes Go.ChangeAt Go.RowKit
set_option linter.unusedVariables false

/-- Is there a way, all that lies between below n? -/
def wayB (EL : List (List Int)) : Nat → Nat → Nat → Bool
  | 0, i, j => decide ((j : Int) ∈ EL[i]?.getD [])
  | n + 1, i, j => wayB EL n i j || (wayB EL n i n && wayB EL n n j)
theorem wayB_iff {EL : List (List Int)} {n i j : Nat} : wayB EL n i j = true ↔ Way EL n i j := by
  induction n generalizing i j with
  | zero =>
    unfold wayB
    rw [decide_eq_true_eq]
    constructor
    · exact fun h => .one h
    · intro h
      cases h with
      | one e => exact e
      | snoc _ hp _ => omega
  | succ n ih =>
    unfold wayB
    rw [Bool.or_eq_true, Bool.and_eq_true, ih, ih, ih]
    constructor
    · rintro (h | ⟨h1, h2⟩)
      · exact h.more (by omega)
      · exact (h1.more (by omega)).join (by omega) (h2.more (by omega))
    · exact Way.split
/-- The methods that one calls. -/
def callsOf (m : Img) (f : Int) : List Int := if 0 ≤ f ∧ f < m.methods.length then rowTo m (mthN m f) m.methods.length else []
/-- The methods that one comes to, itself among them. -/
def reachB (m : Img) (f g : Nat) : Bool := decide (g = f) || wayB (edgesOf m) m.methods.length f g
def reachOf (m : Img) (f : Int) : List Int := if 0 ≤ f ∧ f < m.methods.length then pickTo (reachB m f.toNat) m.methods.length else []
theorem edges_len (m : Img) : (edgesOf m).length = m.methods.length := List.length_map _
theorem edges_at {m : Img} {k : Nat} (hk : k < m.methods.length) : (edgesOf m)[k]? = some (callsOf m (k : Int)) := by
  unfold edgesOf callsOf mthN
  rw [List.getElem?_map, if_pos ⟨by omega, by omega⟩, Int.toNat_natCast, List.getElem?_eq_getElem hk]
  rfl
theorem calls_no {m : Img} {f : Int} (h : ¬ (0 ≤ f ∧ f < m.methods.length)) : callsOf m f = [] := by unfold callsOf; rw [if_neg h]
theorem reach_no {m : Img} {f : Int} (h : ¬ (0 ≤ f ∧ f < m.methods.length)) : reachOf m f = [] := by unfold reachOf; rw [if_neg h]
theorem reach_in {m : Img} {f : Nat} (h : f < m.methods.length) : reachOf m (f : Int) = pickTo (reachB m f) m.methods.length := by unfold reachOf; rw [if_pos ⟨by omega, by omega⟩, Int.toNat_natCast]
theorem reach_mem {m : Img} {f : Nat} {x : Int} (h : f < m.methods.length) : x ∈ reachOf m (f : Int) ↔ ∃ g : Nat, x = (g : Int) ∧ g < m.methods.length ∧ (g = f ∨ Way (edgesOf m) m.methods.length f g) := by
  rw [reach_in h, mem_pick]
  unfold reachB
  simp only [Bool.or_eq_true, decide_eq_true_eq, wayB_iff]
theorem reach_self {m : Img} {f : Nat} (h : f < m.methods.length) : (f : Int) ∈ reachOf m (f : Int) := (reach_mem h).mpr ⟨f, rfl, h, .inl rfl⟩
/-- What one comes to comes to no more. -/
theorem reach_closed {m : Img} {f : Nat} {x y : Int} (h : f < m.methods.length) (hx : x ∈ reachOf m (f : Int)) (hy : y ∈ reachOf m x) : y ∈ reachOf m (f : Int) := by
  obtain ⟨g, rfl, hg, hw⟩ := (reach_mem h).mp hx
  obtain ⟨k, rfl, hk, hv⟩ := (reach_mem hg).mp hy
  refine (reach_mem h).mpr ⟨k, rfl, hk, ?_⟩
  rcases hw with rfl | hw
  · exact hv
  · rcases hv with rfl | hv
    · exact .inr hw
    · exact .inr (hw.join hg hv)
theorem reach_len (m : Img) (f : Int) : (reachOf m f).length ≤ m.methods.length := by
  unfold reachOf
  split
  · exact pickTo_len _ _
  · simp
theorem calls_len (m : Img) (f : Int) : (callsOf m f).length ≤ m.methods.length := by
  unfold callsOf
  split
  · exact rowTo_len _ _ _
  · simp
/-- Numbers, wherever they lie. -/
def IntsOut (L : List Int) (w : World) (e : Ending) (w' : World) : Prop := ∃ A c, e = .returned (.slice A L.length c) ∧ SlcIs IntAt 1 w' w'.heap.size A c L ∧ Below w.heap.size w w'
end Go.Proofs.Ytefgepppcmhphaa
namespace Go.Proofs.Ytefgepppcmhphaa
set_option maxRecDepth 100000
set_option linter.unusedVariables false
set_option linter.unusedSimpArgs false
open Go.ChangeShapes Go.WideShapes Go.ChangeAt Go.RowKit
set_option linter.unusedVariables false

section
variable (EL : List (List Int)) (n : Nat) (C : Nat → Int)
/-- Are two in one ring, or one? -/
def partB (f g : Nat) : Bool := decide (g = f) || (wayB EL n f g && wayB EL n g f)
/-- What all in one's ring take, of the first so many. -/
def ownTo (f : Nat) : Nat → Int
  | 0 => 0
  | g + 1 => if partB EL n f g = true then ownTo f g + C g else ownTo f g
/-- The most that one takes of those that a method calls, beyond its ring. -/
def beyOne (out : Nat → Int) (g : Nat) (b t : Int) : Int := if wayB EL n t.toNat g = false ∧ b < out t.toNat then out t.toNat else b
def beyRow (out : Nat → Int) (g : Nat) (b : Int) (l : List Int) : Int := l.foldl (beyOne EL n out g) b
def beyTo (out : Nat → Int) (f : Nat) : Nat → Int
  | 0 => 0
  | g + 1 => if partB EL n f g = true then beyRow EL n out g (beyTo out f g) (EL[g]?.getD []) else beyTo out f g
def boundK : Nat → Nat → Int
  | 0, _ => 0
  | k + 1, f => ownTo EL n C f n + beyTo EL n (boundK k) f n
/-- What a method, and all that it comes to, takes. -/
def boundF (f : Nat) : Int := boundK EL n C n f
/-- How many a method comes to, itself among them. -/
def cntOf (f : Nat) : Nat := ((List.range n).filter (fun g => decide (g = f) || wayB EL n f g)).length
end
theorem filter_lt {l : List Nat} {p q : Nat → Bool} (h : ∀ x ∈ l, p x = true → q x = true) (h2 : ∃ x ∈ l, q x = true ∧ p x = false) : (l.filter p).length < (l.filter q).length := by
  induction l with
  | nil => obtain ⟨x, hx, _⟩ := h2; cases hx
  | cons a l ih =>
    have hle : ∀ l : List Nat, (∀ x ∈ l, p x = true → q x = true) → (l.filter p).length ≤ (l.filter q).length := by
      intro l
      induction l with
      | nil => intro _; exact Nat.le_refl _
      | cons b l ih2 =>
        intro hb
        have h1 := ih2 (fun x hx => hb x (List.mem_cons_of_mem _ hx))
        have h3 := hb b (List.mem_cons_self ..)
        rw [List.filter_cons, List.filter_cons]
        cases hp : p b
        · cases hq : q b <;> simp <;> omega
        · rw [h3 hp]; simp; omega
    have h0 : ∀ x ∈ l, p x = true → q x = true := fun x hx => h x (List.mem_cons_of_mem _ hx)
    obtain ⟨x, hx, hq, hp⟩ := h2
    rw [List.filter_cons, List.filter_cons]
    rcases List.mem_cons.mp hx with e | e
    · subst e
      rw [hq, hp]
      have := hle l h0
      simp
      omega
    · have h1 := ih h0 ⟨x, e, hq, hp⟩
      have h3 := h a (List.mem_cons_self ..)
      cases hpa : p a
      · cases hqa : q a <;> simp <;> omega
      · rw [h3 hpa]; simp; omega
section
variable {EL : List (List Int)} {n : Nat} {C : Nat → Int}
/-- Edges lead to methods that there are. -/
def EdgesIn (EL : List (List Int)) (n : Nat) : Prop := ∀ (g : Nat), ∀ t ∈ EL[g]?.getD [], 0 ≤ t ∧ t < (n : Int)
theorem part_iff {f g : Nat} : partB EL n f g = true ↔ g = f ∨ (Way EL n f g ∧ Way EL n g f) := by
  unfold partB
  rw [Bool.or_eq_true, decide_eq_true_eq, Bool.and_eq_true, wayB_iff, wayB_iff]
theorem part_self (f : Nat) : partB EL n f f = true := part_iff.mpr (.inl rfl)
theorem way_no {i j : Nat} : wayB EL n i j = false ↔ ¬ Way EL n i j := by rw [← wayB_iff, Bool.not_eq_true]
theorem cnt_pos {f : Nat} (hf : f < n) : 0 < cntOf EL n f := by
  unfold cntOf
  exact List.length_pos_of_mem (a := f) (by rw [List.mem_filter, List.mem_range]; exact ⟨hf, by simp⟩)
theorem cnt_le (f : Nat) : cntOf EL n f ≤ n := by
  unfold cntOf
  exact Nat.le_trans (List.length_filter_le _ _) (by rw [List.length_range]; exact Nat.le_refl _)
theorem cnt_lt {f g t : Nat} (hg : g < n) (ht : t < n) (hp : partB EL n f g = true) (he : edgeB EL g t) (hn : wayB EL n t g = false) : cntOf EL n t < cntOf EL n f := by
  have hgt : Way EL n g t := .one he
  have hnt := way_no.mp hn
  have hft : Way EL n f t := by
    rcases part_iff.mp hp with rfl | ⟨h1, _⟩
    · exact hgt
    · exact h1.join hg hgt
  unfold cntOf
  refine filter_lt (fun x hx h => ?_) ⟨g, List.mem_range.mpr hg, ?_, ?_⟩
  · rw [Bool.or_eq_true, decide_eq_true_eq, wayB_iff] at h ⊢
    rcases h with rfl | h
    · exact .inr hft
    · exact .inr (hft.join ht h)
  · rw [Bool.or_eq_true, decide_eq_true_eq, wayB_iff]
    exact (part_iff.mp hp).imp id (fun q => q.1)
  · rw [Bool.or_eq_false_iff]
    refine ⟨decide_eq_false (fun e => ?_), hn⟩
    subst e
    exact hnt hgt
theorem beyRow_same {o o' : Nat → Int} {g : Nat} {b : Int} {l : List Int} (h : ∀ t ∈ l, wayB EL n t.toNat g = false → o t.toNat = o' t.toNat) : beyRow EL n o g b l = beyRow EL n o' g b l := by
  induction l generalizing b with
  | nil => rfl
  | cons t l ih =>
    show beyRow EL n o g (beyOne EL n o g b t) l = beyRow EL n o' g (beyOne EL n o' g b t) l
    have e : beyOne EL n o g b t = beyOne EL n o' g b t := by
      unfold beyOne
      by_cases q : wayB EL n t.toNat g = false
      · rw [h t (List.mem_cons_self ..) q]
      · rw [if_neg (fun z => q z.1), if_neg (fun z => q z.1)]
    rw [e]
    exact ih (fun t ht => h t (List.mem_cons_of_mem _ ht))
theorem beyTo_same (hE : EdgesIn EL n) {o o' : Nat → Int} {f k : Nat} (hk : k ≤ n) (h : ∀ g t, g < n → t < n → partB EL n f g = true → edgeB EL g t → wayB EL n t g = false → o t = o' t) : beyTo EL n o f k = beyTo EL n o' f k := by
  induction k with
  | zero => rfl
  | succ g ih =>
    unfold beyTo
    rw [ih (by omega)]
    by_cases hp : partB EL n f g = true
    · rw [if_pos hp, if_pos hp]
      refine beyRow_same (fun t ht hw => ?_)
      obtain ⟨h0, h1⟩ := hE g t ht
      exact h g t.toNat (by omega) (by omega) hp (by unfold edgeB; rw [show ((t.toNat : Nat) : Int) = t by omega]; exact ht) hw
    · rw [if_neg hp, if_neg hp]
theorem bound_stable (hE : EdgesIn EL n) (k : Nat) : ∀ f, f < n → cntOf EL n f ≤ k → boundK EL n C (k + 1) f = boundK EL n C k f := by
  induction k with
  | zero => intro f hf h; have := cnt_pos (EL := EL) hf; omega
  | succ k ih =>
    intro f hf h
    show ownTo EL n C f n + beyTo EL n (boundK EL n C (k + 1)) f n = ownTo EL n C f n + beyTo EL n (boundK EL n C k) f n
    rw [beyTo_same hE (Nat.le_refl _) (fun g t hg ht hp he hw => ih t ht (by have := cnt_lt hg ht hp he hw; omega))]
/-- What a method takes, by what those take that it comes to. -/
theorem boundF_eq (hE : EdgesIn EL n) {f : Nat} (hf : f < n) : boundF EL n C f = ownTo EL n C f n + beyTo EL n (boundF EL n C) f n := by
  have h := bound_stable (C := C) hE n f hf (cnt_le f)
  unfold boundF
  rw [← h]
  rfl
/-- One more method of a round: its number is right once those that it comes to, beyond its ring, are. -/
theorem bound_step (hE : EdgesIn EL n) {o : Nat → Int} {f r : Nat} (hf : f < n) (hc : cntOf EL n f ≤ r + 1) (h : ∀ t, t < n → cntOf EL n t ≤ r → o t = boundF EL n C t) : ownTo EL n C f n + beyTo EL n o f n = boundF EL n C f := by
  rw [boundF_eq hE hf, beyTo_same (o' := boundF EL n C) hE (Nat.le_refl _) (fun g t hg ht hp he hw => h t ht (by have := cnt_lt hg ht hp he hw; omega))]
/-- Bounds of it all. -/
theorem beyRow_low {o : Nat → Int} {g : Nat} {b : Int} {l : List Int} : b ≤ beyRow EL n o g b l := by
  induction l generalizing b with
  | nil => exact Int.le_refl _
  | cons t l ih =>
    show b ≤ beyRow EL n o g (beyOne EL n o g b t) l
    refine Int.le_trans ?_ ih
    unfold beyOne
    split
    · rename_i q; exact Int.le_of_lt q.2
    · exact Int.le_refl _
theorem beyRow_has {o : Nat → Int} {g : Nat} {b : Int} {l : List Int} {t : Int} (ht : t ∈ l) (hw : wayB EL n t.toNat g = false) : o t.toNat ≤ beyRow EL n o g b l := by
  induction l generalizing b with
  | nil => cases ht
  | cons u l ih =>
    show o t.toNat ≤ beyRow EL n o g (beyOne EL n o g b u) l
    rcases List.mem_cons.mp ht with e | e
    · subst e
      refine Int.le_trans ?_ beyRow_low
      unfold beyOne
      by_cases q : b < o t.toNat
      · rw [if_pos ⟨hw, q⟩]; exact Int.le_refl _
      · rw [if_neg (fun z => q z.2)]; omega
    · exact ih e
theorem beyRow_top {o : Nat → Int} {g : Nat} {b M : Int} {l : List Int} (hb : b ≤ M) (ho : ∀ t ∈ l, o t.toNat ≤ M) : beyRow EL n o g b l ≤ M := by
  induction l generalizing b with
  | nil => exact hb
  | cons t l ih =>
    show beyRow EL n o g (beyOne EL n o g b t) l ≤ M
    refine ih ?_ (fun u hu => ho u (List.mem_cons_of_mem _ hu))
    unfold beyOne
    split
    · exact ho t (List.mem_cons_self ..)
    · exact hb
theorem beyTo_low {o : Nat → Int} {f k : Nat} : 0 ≤ beyTo EL n o f k := by
  induction k with
  | zero => exact Int.le_refl _
  | succ g ih =>
    unfold beyTo
    split
    · exact Int.le_trans ih beyRow_low
    · exact ih
theorem beyTo_has {o : Nat → Int} {f g k : Nat} {t : Int} (hk : g < k) (hp : partB EL n f g = true) (ht : t ∈ EL[g]?.getD []) (hw : wayB EL n t.toNat g = false) : o t.toNat ≤ beyTo EL n o f k := by
  induction k with
  | zero => omega
  | succ j ih =>
    unfold beyTo
    rcases Nat.lt_or_ge g j with q | q
    · split
      · exact Int.le_trans (ih q) beyRow_low
      · exact ih q
    · obtain rfl : g = j := by omega
      rw [if_pos hp]
      exact beyRow_has ht hw
theorem beyTo_top {o : Nat → Int} {f k : Nat} {M : Int} (hE : EdgesIn EL n) (hM : 0 ≤ M) (ho : ∀ t, t < n → o t ≤ M) : beyTo EL n o f k ≤ M := by
  induction k with
  | zero => exact hM
  | succ g ih =>
    unfold beyTo
    split
    · exact beyRow_top ih (fun t ht => ho _ (by have := hE g t ht; omega))
    · exact ih
theorem ownTo_low {f k : Nat} (hC : ∀ g, 0 ≤ C g) : 0 ≤ ownTo EL n C f k := by
  induction k with
  | zero => exact Int.le_refl _
  | succ g ih =>
    unfold ownTo
    have := hC g
    split <;> omega
theorem ownTo_has {f g k : Nat} (hC : ∀ g, 0 ≤ C g) (hk : g < k) (hp : partB EL n f g = true) : C g ≤ ownTo EL n C f k := by
  induction k with
  | zero => omega
  | succ j ih =>
    unfold ownTo
    have h1 := hC j
    have h2 := ownTo_low (EL := EL) (n := n) (f := f) (k := j) hC
    rcases Nat.lt_or_ge g j with q | q
    · have := ih q
      split <;> omega
    · obtain rfl : g = j := by omega
      rw [if_pos hp]
      omega
theorem ownTo_top {f k : Nat} {M : Int} (hC : ∀ g, C g ≤ M) (hM : 0 ≤ M) : ownTo EL n C f k ≤ k * M := by
  induction k with
  | zero => simp [ownTo]
  | succ g ih =>
    unfold ownTo
    have h1 := hC g
    have h2 : ((g + 1 : Nat) : Int) * M = g * M + M := by rw [Int.natCast_add, Int.add_mul]; simp
    rw [h2]
    split <;> omega
/-- One in another's ring is of the same ring. -/
theorem part_ring {f g x : Nat} (hf : f < n) (hg : g < n) (h1 : Way EL n f g) (h2 : Way EL n g f) : partB EL n f x = partB EL n g x := by
  rw [Bool.eq_iff_iff, part_iff, part_iff]
  constructor
  · rintro (rfl | ⟨q1, q2⟩)
    · exact .inr ⟨h2, h1⟩
    · exact .inr ⟨h2.join hf q1, q2.join hf h1⟩
  · rintro (rfl | ⟨q1, q2⟩)
    · exact .inr ⟨h1, h2⟩
    · exact .inr ⟨h1.join hg q1, q2.join hg h2⟩
theorem bound_ring (hE : EdgesIn EL n) {f g : Nat} (hf : f < n) (hg : g < n) (h1 : Way EL n f g) (h2 : Way EL n g f) : boundF EL n C f = boundF EL n C g := by
  have hp : partB EL n f = partB EL n g := funext fun x => part_ring hf hg h1 h2
  have ho : ∀ k, ownTo EL n C f k = ownTo EL n C g k := fun k => by
    induction k with
    | zero => rfl
    | succ k ih => unfold ownTo; rw [hp, ih]
  have hb : ∀ k, beyTo EL n (boundF EL n C) f k = beyTo EL n (boundF EL n C) g k := fun k => by
    induction k with
    | zero => rfl
    | succ k ih => unfold beyTo; rw [hp, ih]
  rw [boundF_eq hE hf, boundF_eq hE hg, ho, hb]
theorem bound_own (hE : EdgesIn EL n) (hC : ∀ g, 0 ≤ C g) {f : Nat} (hf : f < n) : C f ≤ boundF EL n C f := by
  rw [boundF_eq hE hf]
  have h1 := ownTo_has (EL := EL) (n := n) (k := n) hC hf (part_self f)
  have h2 := beyTo_low (EL := EL) (n := n) (o := boundF EL n C) (f := f) (k := n)
  omega
/-- Beyond its ring: its own, and what the other one takes. -/
theorem bound_beyond (hE : EdgesIn EL n) (hC : ∀ g, 0 ≤ C g) {f g : Nat} (hf : f < n) (he : edgeB EL f g) (hn : ¬ Way EL n g f) : C f + boundF EL n C g ≤ boundF EL n C f := by
  rw [boundF_eq hE hf]
  have h1 := ownTo_has (EL := EL) (n := n) (k := n) hC hf (part_self f)
  have h2 := beyTo_has (EL := EL) (n := n) (o := boundF EL n C) (t := (g : Int)) hf (part_self f) he (by rw [Int.toNat_natCast]; exact way_no.mpr hn)
  rw [Int.toNat_natCast] at h2
  omega
theorem bound_edge (hE : EdgesIn EL n) (hC : ∀ g, 0 ≤ C g) {f g : Nat} (hf : f < n) (he : edgeB EL f g) : boundF EL n C g ≤ boundF EL n C f := by
  have hg : g < n := by have := hE f g he; omega
  by_cases q : Way EL n g f
  · rw [bound_ring hE hf hg (.one he) q]; exact Int.le_refl _
  · have h1 := bound_beyond (C := C) hE hC hf he q
    have h2 := hC f
    omega
theorem bound_way (hE : EdgesIn EL n) (hC : ∀ g, 0 ≤ C g) {f g : Nat} (hf : f < n) (h : Way EL n f g) : boundF EL n C g ≤ boundF EL n C f := by
  induction h with
  | one e => exact bound_edge hE hC hf e
  | snoc _ hp e ih => exact Int.le_trans (bound_edge hE hC hp e) ih
theorem bound_low (hE : EdgesIn EL n) (hC : ∀ g, 0 ≤ C g) {f : Nat} (hf : f < n) : 0 ≤ boundF EL n C f := Int.le_trans (hC f) (bound_own hE hC hf)
end
end Go.Proofs.Ytefgepppcmhphaa
