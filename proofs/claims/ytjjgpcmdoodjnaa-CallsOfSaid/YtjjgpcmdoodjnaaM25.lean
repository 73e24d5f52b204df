/-
  Rows of the call's own that are turned in place. Plain lemmas; no conditions.
  What the document's own answer for which method calls which (Edges) comes to: how many rows it has.
-/
import Derived.Test.YtjjgpcmdoodjnaaM02
import Derived.ChangeOld
import Derived.Test.YtjjgpcmdoodjnaaM24
namespace Go.Proofs.Ytjjgpcmdoodjnaa
set_option maxRecDepth 100000
set_option linter.unusedVariables false
set_option linter.unusedSimpArgs false
open Go.ChangeShapes Go.WideShapes Go.ChangeAt Go.RowKit
set_option linter.unusedVariables false

/-- A cell of a row of the call's own is turned. -/
theorem own_turn {w : World} {base e k n g c j : Nat} {xs : List Value} (h : w.ownsRow base e k (.slice (some ⟨g, 0, none⟩) n c) n xs) (u : Value) : (w.setCell ⟨g, j, none⟩ u).ownsRow base e k (.slice (some ⟨g, 0, none⟩) n c) n (xs.set j u) := by
  refine ⟨by rw [List.length_set]; exact h.1, ?_⟩
  rcases h.2 with ⟨h1, _⟩ | ⟨g', cap, cur, h1, hb, hh, h2, h3, h4, h5⟩
  · cases h1
  · injection h1 with e1 e2 e3
    simp at e1
    subst e1 e3
    refine .inr ⟨g, c, cur.setIfInBounds j u, rfl, hb, ?_, h2, h3, by simpa using h4, ?_⟩
    · have hlt := lt_of_block hh
      have h' : w.heap[g] = .cells cur e (0, 0) := by simpa [Array.getElem?_eq_getElem hlt] using hh
      show (w.heap.modify g _)[g]? = _
      rw [Array.getElem?_eq_getElem (by simpa using hlt), Array.getElem_modify_self, h']
      simp
    · rw [← h5, Array.toList_setIfInBounds, List.take_set]
theorem own_freeK {w : World} {base e k n g c : Nat} {xs : List Value} (h : w.ownsRow base e k (.slice (some ⟨g, 0, none⟩) n c) n xs) (j : Nat) : w.frozen? ⟨g, j, none⟩ = false ∧ base ≤ g ∧ g < w.heap.size := by
  rcases h.2 with ⟨h1, _⟩ | ⟨g', cap, cur, h1, hb, hh, h2, h3, h4, h5⟩
  · cases h1
  · injection h1 with e1
    simp at e1
    subst e1
    exact ⟨by simp [World.frozen?, hh], hb, lt_of_block hh⟩

theorem lies_v1 (w : World) (v : Value) (T : TypeId) : Lies (w.alloc (.cells #[v] T)) (w.alloc (.cells #[v] T)).heap.size (some ⟨w.heap.size, 0, none⟩) [v] := fun j u hj => by
  match j, hj with
  | 0, hj => simp at hj; subst hj; exact ⟨_, rfl, by simp, by simp [Addr.add]⟩
  | j + 1, hj => simp at hj
theorem one_cellv {v : Value} (h : v.oneCell' = true) : ∀ u ∈ [v], u.oneCell' = true := fun u hu => by
  rw [List.mem_singleton.mp hu]; exact h
end Go.Proofs.Ytjjgpcmdoodjnaa
namespace Go.Proofs.Ytjjgpcmdoodjnaa
set_option maxRecDepth 100000
set_option linter.unusedVariables false
set_option linter.unusedSimpArgs false
open Go.ChangeShapes Go.WideShapes Go.ChangeAt Go.RowKit

theorem info_ints : (Try.prog.info? 26).map (fun i => (i.zero, i.size, i.bytes)) = some (some (.slice none 0 0), 1, 24) := by kernel_rfl
theorem rcalls_is {m : Img} {x : Mth} {f : Nat} {g : Int} {h : Hnd} {w0 w : World} {r : Bool} (HI : Hid (ImgIn w0 w0.heap.size h m)) (HX : Hid (Below w0.heap.size w0 w)) (HG : Hid (m.methods[f]? = some x)) (hn : m.classes.length ≤ 1000) (ha : x.code.length ≤ 1048576) (HR : Hid (callsB m x g = r)) :
    Calls Try.prog 15 #[imgV h m, .int .i64 f, .int .i64 g] w fun e w' => e = .returned (.bool r) ∧ Below w.heap.size w w' := by
  have H := rcalls_any m x f g h w (HI.out.now HX.out) HG.out hn ha
  rw [HR.out] at H
  exact H

set_option maxHeartbeats 3200000 in
theorem redges_any (m : Img) (h : Hnd) (w : World) (H : ImgIn w w.heap.size h m) (hn : m.classes.length ≤ 1000) (hml : m.methods.length ≤ 1000) (hc : ∀ x ∈ m.methods, x.code.length ≤ 1048576) :
    Calls Try.prog 8 #[imgV h m] w fun e w' => ∃ v xs, e = .returned v ∧ w'.ownsRow w.heap.size 26 1 v m.methods.length xs ∧ Below w.heap.size w w' := by
  obtain ⟨i0, hi, hz0, hz1, hz2⟩ := info_partsK info_ints
  obtain ⟨i1, hi1, hz01, hz11, hz21⟩ := info_partsK info_int
  have HW := Lib.hid ((Below.refl w.heap.size w).alloc (Nat.le_refl _) (imgO h m))
  have HI := Lib.hid (H.now HW.out)
  have HBX := Lib.hid (img_box w h m)
  have HZ : Hid (w.heap.size < (w.alloc (imgO h m)).heap.size) := Lib.hid (by simp)
  have HCO := Lib.hid hc
  clear H hc
  go_enter Try.func8, Try.ntmps8
  go_upto_region 1 with fail
  generalize w.alloc (imgO h m) = w1 at *
  go_wp2_with fail
  go_loopw [3, 4] (fun v i wr => ∃ (k : Nat) (xs : List Value), k ≤ m.methods.length ∧ i = .int .i64 k ∧ Hid (wr.ownsRow w1.heap.size 26 1 v k xs) ∧ Hid (Below w1.heap.size w1 wr)) (fun _ i _ => m.methods.length - (intOf i).toNat)
  case atStart => exact ⟨0, [], by omega, rfl, Lib.hid (own_empty w1 _), Lib.hid ((Below.refl _ _).alloc (Nat.le_refl _) _)⟩
  case round =>
    obtain ⟨k, xs, hk, rfl, HO, HX⟩ := hrel
    obtain ⟨q0, q1, q2, q3, q4, q5, q6⟩ := HBX.out.keep HX.out HZ.out
    have hsz := HX.out.size
    by_cases hlt : k < m.methods.length
    · obtain ⟨x, hx⟩ : ∃ x, m.methods[k]? = some x := ⟨_, List.getElem?_eq_getElem hlt⟩
      have HG := Lib.hid hx
      have hxc := HCO.out x (List.mem_of_getElem? hx)
      clear hx
      go_wp2_with fail
      go_loopw [5, 6] (fun l j wi => ∃ (g : Nat) (ys : List Int), g ≤ m.methods.length ∧ j = .int .i64 g ∧ ys.length ≤ g ∧ Hid (wi.ownsRow wr.heap.size 3 1 l ys.length (ys.map (Value.int .i64))) ∧ Hid (Below wr.heap.size wr wi)) (fun _ j _ => m.methods.length - (intOf j).toNat)
      case atStart => exact ⟨0, [], by omega, rfl, Nat.le_refl _, Lib.hid (own_empty wr _), Lib.hid ((Below.refl _ _).alloc (Nat.le_refl _) _)⟩
      case round =>
        clear q0 q1 q2 q3 q4 q5 q6
        obtain ⟨g, ys, hg, rfl, hyl, HOi, HXi⟩ := hrel
        have HX2 := Lib.hid (HX.out.trans (HXi.out.mono hsz))
        obtain ⟨q0, q1, q2, q3, q4, q5, q6⟩ := HBX.out.keep HX2.out HZ.out
        by_cases hgl : g < m.methods.length
        · obtain ⟨r, hr⟩ : ∃ r, callsB m x (g : Int) = r := ⟨_, rfl⟩
          have HR := Lib.hid hr
          clear hr
          cases r
          · go_wp2_with (go_at_call 15; (with_reducible refine (rcalls_is HI HX2 HG hn hxc HR).mono ?_); rintro e w4 ⟨rfl, hb⟩; have HO4 := Lib.hid (own_below HOi.out hb (own_block_lt HOi.out)); have HX4 := Lib.hid (HXi.out.trans (hb.mono HXi.out.size)); clear hb)
            go_roundw
            case rel => exact ⟨g + 1, ys, by omega, by go_num, by omega, HO4, HX4⟩
            case measure => simp [intOf]; omega
          · go_wp2_with (first
              | (go_at_call 15; (with_reducible refine (rcalls_is HI HX2 HG hn hxc HR).mono ?_); rintro e w4 ⟨rfl, hb⟩; have HO4 := Lib.hid (own_below HOi.out hb (own_block_lt HOi.out)); have HX4 := Lib.hid (HXi.out.trans (hb.mono HXi.out.size)); have hsz4 := HX4.out.size; clear hb)
              | (at_builtin; refine append_liesK rfl _ _ 26 rfl _ 3 i1 (.int .i64 0) 1 8 Try.underlying26 hi1 hz01 hz11 hz21 rfl (by decide) _ ys.length (ys.map (Value.int .i64)) rfl (HO4.out.alloc _) (some ⟨w4.heap.size, 0, none⟩) 1 1 _ [.int .i64 (g : Int)] rfl rfl (lies_v1 w4 _ _) (one_cellv rfl) (by unfold maxLen; omega) (by omega) (by simp; omega) ?_; intro v6 w6 hown hgrow; have HX6 := Lib.hid (appK_more (HX4.out.alloc hsz4 _) (HO4.out.alloc _) (by simp; omega) hgrow); have HO6 := Lib.hid hown; clear hown hgrow))
            go_roundw
            case rel => exact ⟨g + 1, ys ++ [(g : Int)], by omega, by go_num, by simp; omega, Lib.hid (by simpa using HO6.out), HX6⟩
            case measure => simp [intOf]; omega
        · obtain ⟨Al, cl, rfl, hll, hl1, hl2⟩ := own_ints HOi.out
          have HOo := Lib.hid (own_below HO.out HXi.out (own_block_lt HO.out))
          have hsz2 := HX2.out.size
          go_wp2_with (at_builtin; refine append_liesK rfl _ _ 31 rfl w1.heap.size 26 i0 (.slice none 0 0) 1 24 Try.underlying31 hi hz0 hz1 hz2 rfl (by decide) _ k xs rfl (HOo.out.alloc _) (some ⟨wr.heap.size, 0, none⟩) 1 1 _ [.slice Al ys.length cl] rfl rfl (lies_v1 wr _ _) (one_cellv rfl) (by unfold maxLen; omega) (by omega) (by simp; omega) ?_; intro v6 w6 hown hgrow; have HX6 := Lib.hid (appK_more (HX2.out.alloc hsz2 _) (HOo.out.alloc _) (by simp; omega) hgrow); have HO6 := Lib.hid hown; clear hown hgrow)
          go_roundw
          case rel => exact ⟨k + 1, _, by omega, by go_num, HO6, HX6⟩
          case measure => simp [intOf]; omega
    · go_wp2_with fail
      go_ret
      exact ⟨_, xs, rfl, own_lower (by have e : k = m.methods.length := by omega
                                       rw [← e]; exact HO.out) HW.out.size, HW.out.trans (HX.out.mono HW.out.size)⟩
end Go.Proofs.Ytjjgpcmdoodjnaa
