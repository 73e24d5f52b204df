/-
  What the document's own answer for all methods' types (All) comes to, whole.
  The fixed fact of the statements on the stack (awake): it is true.
-/
import Derived.Test.YtefgepppcmhphaaM47
import Derived.Test.YtefgepppcmhphaaM49
import Derived.Test.YtefgepppcmhphaaM14
import Derived.IntWalk
import Derived.RegionTactic
import Derived.ChangeAlike
import Derived.Deep.RegionHeld3
import Derived.Deep.QuietTactic
import Derived.BigQuiet
namespace Go.Proofs.Ytefgepppcmhphaa
set_option maxRecDepth 100000
set_option linter.unusedVariables false
set_option linter.unusedSimpArgs false
open Go.ChangeShapes Go.WideShapes Go.ChangeAt Go.RowKit

/-- What All answers, whole. -/
def AllAll (m : Img) (w : World) (e : Ending) (w' : World) : Prop := ∃ (A : Option Addr) (n c : Nat) (b : Int), e = .returned (.tuple #[.slice A n c, .int .i64 b]) ∧ Below w.heap.size w w' ∧
  (b < 0 → ∃ XS, n = m.methods.length ∧ XS.length = n ∧ w'.ownsRow w.heap.size 55 1 (.slice A n c) n (allV XS) ∧ AllIn w' (.slice A n c) XS ∧ (∀ p ∈ XS, w.heap.size ≤ p.1) ∧ ∀ (i : Nat) p, XS[i]? = some p → FoundS m (i : Int) (p.2.map Shx.shp) ∧ LeastS m (i : Int) (p.2.map Shx.shp)) ∧
  (0 ≤ b → ∀ a, rightB m a = false)
theorem rshapes2_is {m : Img} {x : Mth} {f : Nat} {h : Hnd} {w0 w : World} (HI : Hid (ImgIn w0 w0.heap.size h m)) (HX : Hid (Below w0.heap.size w0 w)) (HM : Hid (SaneI m)) (HG : Hid (m.methods[f]? = some x)) :
    Calls Try.prog 18 #[imgV h m, .int .i64 f] w (ShapesAll m f w) := rshapes2_any m x f h w (HI.out.now HX.out) HM.out HG.out
set_option maxHeartbeats 3200000 in
theorem rall2_any (m : Img) (h : Hnd) (w : World) (H : ImgIn w w.heap.size h m) (hm : SaneI m) (hml : m.methods.length ≤ 1000) :
    Calls Try.prog 8 #[imgV h m] w (AllAll m w) := by
  obtain ⟨i0, hi, hz0, hz1, hz2⟩ := info_partsK info_shapes
  have HW := Lib.hid ((Below.refl w.heap.size w).alloc (Nat.le_refl _) (imgO h m))
  have HI := Lib.hid (H.now HW.out)
  have HM := Lib.hid hm
  have HBX := Lib.hid (img_box w h m)
  have HZ : Hid (w.heap.size < (w.alloc (imgO h m)).heap.size) := Lib.hid (by simp)
  clear H hm
  go_enter Try.func8, Try.ntmps8
  go_upto_region 1 with fail
  generalize w.alloc (imgO h m) = w1 at *
  go_wp2_with fail
  go_loopw [4, 5] (fun v i wr => ∃ (k : Nat) (XS : List (Nat × List Shx)), k ≤ m.methods.length ∧ i = .int .i64 k ∧ Hid (XS.length = k) ∧ Hid (wr.ownsRow w1.heap.size 55 1 v k (allV XS)) ∧ Hid (Below w1.heap.size w1 wr) ∧ Hid (AllIn wr v XS) ∧ Hid (∀ p ∈ XS, w1.heap.size ≤ p.1) ∧ Hid (∀ (i : Nat) p, XS[i]? = some p → FoundS m (i : Int) (p.2.map Shx.shp) ∧ LeastS m (i : Int) (p.2.map Shx.shp))) (fun _ i _ => m.methods.length - (intOf i).toNat)
  case atStart => exact ⟨0, [], by omega, rfl, Lib.hid rfl, Lib.hid (own_empty w1 _), Lib.hid ((Below.refl _ _).alloc (Nat.le_refl _) _), Lib.hid (AllIn.nil w1 _), Lib.hid (fun p h => by simp at h), Lib.hid (fun i p h => by simp at h)⟩
  case round =>
    obtain ⟨k, XS, hk, rfl, HL, HO, HX, HE, HP, HF⟩ := hrel
    obtain ⟨q0, q1, q2, q3, q4, q5, q6⟩ := HBX.out.keep HX.out HZ.out
    have hsz := HX.out.size
    by_cases hlt : k < m.methods.length
    · obtain ⟨x, hx⟩ : ∃ x, m.methods[k]? = some x := ⟨_, List.getElem?_eq_getElem hlt⟩
      have HG := Lib.hid hx
      clear hx
      go_upto_region 6 with (go_at_call 18; (with_reducible refine (rshapes2_is HI HX HM HG).mono ?_); rintro e w4 ⟨ok, As, cs, S, rfl, hb, hgd, hno⟩; have HO4 := Lib.hid (own_below HO.out hb (own_block_lt HO.out)); have HX4 := Lib.hid (HX.out.trans (hb.mono HX.out.size)); have HE4 := Lib.hid (HE.out.below (own_block_lt HO.out) hb); have HGD := Lib.hid hgd; have HNO := Lib.hid hno; have hsz4 := HX4.out.size; clear hb hgd hno)
      cases ok
      · have HBAD : Hid (∀ a, rightB m a = false) := Lib.hid (rightB_none hlt (HNO.out rfl))
        go_wp2_with fail
        go_ret2
        exact ⟨none, 0, 0, k, rfl, HW.out.trans (HX4.out.mono HW.out.size), (fun q => by omega), fun _ => HBAD.out⟩
      · obtain ⟨g, X, hA, hS, hc, hgb, hout, hfound, hleast⟩ := HGD.out rfl
        clear HGD HNO
        subst hA hS hc
        have HG0 : Hid (∀ p ∈ XS, p.1 < g) := Lib.hid (fun p hp => Nat.lt_of_lt_of_le (HE.out.outs p hp).blk.lt hgb)
        have HGV : Hid (∀ b, Value.ownBlock u4 = some b → b < g) := Lib.hid (fun b e => Nat.lt_of_lt_of_le (own_block_lt HO.out b e) hgb)
        have HQ := Lib.hid hout
        have HFO := Lib.hid (And.intro hfound hleast)
        have HPg : Hid (w1.heap.size ≤ g) := Lib.hid (Nat.le_trans hsz hgb)
        clear hout hfound hleast hgb
        simp only [List.length_map]
        go_wp2_with (at_builtin; refine append_dry rfl _ _ 31 rfl w1.heap.size 55 i0 24 Try.underlying31 hi hz0 hz1 hz2 _ k (allV XS) rfl (HO4.out.alloc _) (HE4.out.dry.below (own_block_lt HO4.out) ((Below.refl _ _).alloc (Nat.le_refl _) _)) ⟨w4.heap.size, 0, none⟩ _ _ _ _ rfl (cell_one_new w4 _ _ 0 _ rfl) (by unfold maxLen; omega) (by omega) (by simp; omega) _ rfl ?_; intro g9 c9 w6 hown hgrow hor hlt9 hdry; have HX6 := Lib.hid (appK_more (HX4.out.alloc hsz4 _) (HO4.out.alloc _) (by simp; omega) hgrow); have HO6 := Lib.hid hown; have HE6 := Lib.hid ((HE4.out.below (own_block_lt HO4.out) ((Below.refl _ _).alloc (Nat.le_refl _) _)).snoc (HQ.out.keep ((Below.refl _ _).alloc (Nat.le_refl _) _)) HG0.out HGV.out hgrow (hor.imp id (fun e => Nat.le_of_eq e.symm)) hdry); clear hown hgrow hor hdry)
        go_roundw
        case rel =>
          refine ⟨k + 1, XS ++ [(g, X)], by omega, by go_num, Lib.hid (by rw [List.length_append, HL.out]; rfl), Lib.hid (by unfold allV; rw [List.map_append]; exact HO6.out), HX6, HE6, Lib.hid (fun p hp => ?_), Lib.hid (fun i p hi => ?_)⟩
          · rcases List.mem_append.mp hp with q | q
            · exact HP.out p q
            · simp at q; subst q; exact HPg.out
          · rcases Nat.lt_or_ge i XS.length with q | q
            · rw [List.getElem?_append_left q] at hi
              exact HF.out i p hi
            · rw [List.getElem?_append_right q] at hi
              have hiz : i - XS.length = 0 := by
                rcases Nat.eq_zero_or_pos (i - XS.length) with z | z
                · exact z
                · rw [List.getElem?_eq_none (by simp; omega)] at hi; cases hi
              rw [hiz] at hi
              simp at hi
              subst hi
              have hik : i = k := by have := HL.out; omega
              subst hik
              exact HFO.out
        case measure => simp [intOf]; omega
    · have e : k = m.methods.length := by omega
      subst e
      obtain ⟨Ae, ce, he⟩ : ∃ A c, u4 = .slice A m.methods.length c := by
        rcases ownK_slice HO.out with ⟨e1, hz⟩ | ⟨g, c, e1, _, _⟩
        · exact ⟨none, 0, by rw [e1, hz]⟩
        · exact ⟨_, c, e1⟩
      subst he
      go_wp2_with fail
      go_ret2
      exact ⟨Ae, m.methods.length, ce, -1, rfl, HW.out.trans (HX.out.mono HW.out.size), fun _ => ⟨XS, rfl, HL.out, own_lower HO.out HW.out.size, HE.out, fun p hp => Nat.le_trans HW.out.size (HP.out p hp), HF.out⟩, fun q => by omega⟩
end Go.Proofs.Ytefgepppcmhphaa
namespace Go.Proofs.Ytefgepppcmhphaa
set_option maxRecDepth 100000
set_option linter.unusedVariables false
set_option linter.unusedSimpArgs false
open Go.ChangeShapes Go.WideShapes Go.ChangeAt Go.RowKit
set_option linter.unusedVariables false
set_option linter.unusedSimpArgs false

theorem dsane_is {m : Img} {h : Hnd} {w0 w : World} {r : Int} (HI : Hid (ImgIn w0 w0.heap.size h m)) (HX : Hid (Below w0.heap.size w0 w)) (HR : Hid (saneR m = r)) : Calls Try.prog 17 #[imgV h m] w fun e w' => e = .returned (.int .i64 r) ∧ Below w.heap.size w w' := by
  have H := rsane_any m h w (HI.out.now HX.out)
  rw [HR.out] at H
  exact H
/-- The fixed image: the first method calls the one that a tells. -/
def depM (a : Int) : Img := ⟨[], [], [], [⟨[], [], (5, 0), [(31, a, 0), (33, 0, 0)], 0, 0, [0, 0]⟩, ⟨[], [(1, 0)], (5, 0), [(33, 0, 0)], 0, 0, [0]⟩], [], 0, 0⟩
def depH (N : Nat) : Hnd := ⟨none, none, none, some ⟨N + 1 + 1 + 1 + 1 + 1, 0, none⟩, none, 0, 0, 0, 2, 0⟩
theorem dep_yes1 : saneR (depM 1) = 0 := sane_yes (by decide) (by
  simp [okB, depM, goodsB, clsOk, methodB, codesB, namedB, retB, entryB, goodB])
theorem dep_yes0 : saneR (depM 0) = 0 := sane_yes (by decide) (by
  simp [okB, depM, goodsB, clsOk, methodB, codesB, namedB, retB, entryB, goodB])
theorem dep_sane1 : saneB8 (depM 1) = true := by unfold saneB8; rw [dep_yes1]; decide
theorem dep_sane0 : saneB8 (depM 0) = true := by unfold saneB8; rw [dep_yes0]; decide
theorem dep_rings1 : ringsB (depM 1) = true := by decide
theorem dep_rings0 : ringsB (depM 0) = false := by decide
theorem dep_right : rightB (depM 1) [[⟨true, []⟩, ⟨true, []⟩], [⟨true, []⟩]] = true := by decide
theorem dep_step : stepOf (depM 1) 0 0 [] = ⟨[], [1], 0⟩ := by decide
/-- Its types: of three instructions, none of which has an operand. -/
structure DepIn (w : World) (B gO c : Nat) (p0 p1 : Nat × List Shx) : Prop where
  bO : B ≤ gO
  b0 : B ≤ p0.1
  b1 : B ≤ p1.1
  lt : gO < w.heap.size
  cap : 2 ≤ c ∧ c ≤ 9223372036854775807
  c0 : w.cell? ⟨gO, 0, none⟩ = some (.slice (some ⟨p0.1, 0, none⟩) p0.2.length p0.2.length)
  c1 : w.cell? ⟨gO, 1, none⟩ = some (.slice (some ⟨p1.1, 0, none⟩) p1.2.length p1.2.length)
  o0 : OutIn w p0.1 p0.2
  o1 : OutIn w p1.1 p1.2
  n0 : ∀ x ∈ p0.2, x.stack = []
  n1 : ∀ x ∈ p1.2, x.stack = []
  l0 : p0.2.length = 2
  l1 : p1.2.length = 1
section
variable {w w' : World} {B gO c : Nat} {p0 p1 : Nat × List Shx}
theorem DepIn.keep (h : DepIn w B gO c p0 p1) (hb : Below w.heap.size w w') : DepIn w' B gO c p0 p1 :=
  ⟨h.bO, h.b0, h.b1, Nat.lt_of_lt_of_le h.lt hb.size, h.cap, (hb.cell (p := ⟨gO, 0, none⟩) h.lt).trans h.c0, (hb.cell (p := ⟨gO, 1, none⟩) h.lt).trans h.c1, h.o0.keep hb, h.o1.keep hb, h.n0, h.n1, h.l0, h.l1⟩
theorem out_nil {g N i : Nat} {X : List Shx} (h : OutIn w g X) (hn : ∀ x ∈ X, x.stack = []) (hg : ¬ N = g) (v : Value) : OutIn (w.setCell ⟨N, i, none⟩ v) g X :=
  ⟨h.blk.other v hg, fun x hx => by
    have hr := h.row x hx
    rw [hn x hx] at hr ⊢
    exact ⟨hr.le, hr.cap, fun i t hi => by simp at hi⟩⟩
theorem DepIn.set (h : DepIn w B gO c p0 p1) {N : Nat} (hN : N < B) (i : Nat) (v : Value) : DepIn (w.setCell ⟨N, i, none⟩ v) B gO c p0 p1 := by
  have e0 : ∀ j : Nat, (w.setCell ⟨N, i, none⟩ v).cell? ⟨gO, j, none⟩ = w.cell? ⟨gO, j, none⟩ := fun j => by
    have hb := h.bO
    exact World.cell?_of_block (Below.heap_setCell w ⟨N, i, none⟩ v gO (by show gO ≠ N; omega))
  exact ⟨h.bO, h.b0, h.b1, by have := h.lt; simpa using this, h.cap, (e0 0).trans h.c0, (e0 1).trans h.c1, out_nil h.o0 h.n0 (by have := h.b0; omega) v, out_nil h.o1 h.n1 (by have := h.b1; omega) v, h.n0, h.n1, h.l0, h.l1⟩
def depL (p0 p1 : Nat × List Shx) : List (List Shp) := [p0.2.map Shx.shp, p1.2.map Shx.shp]
theorem DepIn.maps (h : DepIn w B gO c p0 p1) (a : Int) : MapsOk (depM a) w (some ⟨gO, 0, none⟩) c (depL p0 p1) := by
  have r0 := out_row h.o0 (by rw [h.l0]; omega)
  have r1 := out_row h.o1 (by rw [h.l1]; omega)
  refine ⟨⟨h.cap.1, h.cap.2, fun i S hi => ?_⟩, fun S hS => ?_, rfl⟩
  · match i, hi with
    | 0, hi =>
      simp [depL] at hi
      subst hi
      exact ⟨_, rfl, h.lt, some ⟨p0.1, 0, none⟩, p0.2.length, by rw [List.length_map]; exact h.c0, r0⟩
    | 1, hi =>
      simp [depL] at hi
      subst hi
      refine ⟨_, rfl, h.lt, some ⟨p1.1, 0, none⟩, p1.2.length, ?_, r1⟩
      rw [List.length_map, show (⟨gO, 0, none⟩ : Addr).add (1 * 1) = ⟨gO, 1, none⟩ by simp [Addr.add]]
      exact h.c1
    | i + 2, hi => simp [depL] at hi
  · have hz : ∀ (X : List Shx), (∀ x ∈ X, x.stack = []) → ∀ s ∈ X.map Shx.shp, s.stack.length ≤ 4000 := fun X hX s hs => by
      obtain ⟨x, hx, rfl⟩ := List.mem_map.mp hs
      show x.stack.length ≤ 4000
      rw [hX x hx]
      exact Nat.zero_le _
    unfold depL at hS
    rcases List.mem_cons.mp hS with q | q
    · rw [q]
      exact ⟨by rw [List.length_map, h.l0]; decide, hz _ h.n0⟩
    · rw [List.mem_singleton.mp q]
      exact ⟨by rw [List.length_map, h.l1]; decide, hz _ h.n1⟩
theorem deep_nil {X : List Shx} (h : ∀ x ∈ X, x.stack = []) : deepOf (X.map Shx.shp) = 0 := Nat.le_zero.mp (deep_le (fun s hs => by
  obtain ⟨x, hx, rfl⟩ := List.mem_map.mp hs
  show x.stack.length ≤ 0
  rw [h x hx]
  exact Nat.le_refl _))
theorem DepIn.frame0 (h : DepIn w B gO c p0 p1) (a : Int) : frameOf (depM a) (depL p0 p1) 0 = 3 := by
  have e : frameOf (depM a) (depL p0 p1) 0 = 3 + 0 + 0 + (deepOf (p0.2.map Shx.shp) : Nat) := rfl
  rw [e, deep_nil h.n0]
  rfl
theorem DepIn.frame1 (h : DepIn w B gO c p0 p1) (a : Int) : frameOf (depM a) (depL p0 p1) 1 = 4 := by
  have e : frameOf (depM a) (depL p0 p1) 1 = 3 + 0 + 1 + (deepOf (p1.2.map Shx.shp) : Nat) := rfl
  rw [e, deep_nil h.n1]
  rfl
theorem DepIn.bounds (h : DepIn w B gO c p0 p1) : boundsOf (depM 1) (depL p0 p1) = [7, 4] := by
  have hc : costOf (depM 1) (depL p0 p1) = fun g => if g = 0 then 3 else if g = 1 then 4 else 0 := funext fun g => by
    unfold costOf
    match g with
    | 0 => rw [show ((0 : Nat) : Int) = 0 from rfl, h.frame0 1]; decide
    | 1 => rw [show ((1 : Nat) : Int) = 1 from rfl, h.frame1 1]; decide
    | g + 2 =>
      have hf : frameOf (depM 1) (depL p0 p1) ((g + 2 : Nat) : Int) = 0 := by
        unfold frameOf
        rw [if_neg (by have : (depM 1).methods.length = 2 := rfl; omega)]
      rw [hf, Int.mul_zero, if_neg (by omega), if_neg (by omega)]
  unfold boundsOf
  rw [hc]
  decide
end
/-- The world in which it stands. -/
abbrev depW (w : World) : World :=
  ((((((w.alloc (.cells #[.int .i64 31, .int .i64 1, .int .i64 0, .int .i64 33, .int .i64 0, .int .i64 0] 51)).alloc (.cells #[.int .i64 0, .int .i64 0] 3)).alloc (.cells #[.int .i64 1, .int .i64 0] 49)).alloc (.cells #[.int .i64 33, .int .i64 0, .int .i64 0] 51)).alloc (.cells #[.int .i64 0] 3)).alloc
    (.cells #[.slice none 0 0, .slice none 0 0, .int .i64 5, .int .i64 0, .slice (some ⟨w.heap.size, 0, none⟩) 2 2, .int .i64 0, .int .i64 0, .slice (some ⟨w.heap.size + 1, 0, none⟩) 2 2, .slice none 0 0, .slice (some ⟨w.heap.size + 1 + 1, 0, none⟩) 1 1, .int .i64 5, .int .i64 0, .slice (some ⟨w.heap.size + 1 + 1 + 1, 0, none⟩) 1 1, .int .i64 0, .int .i64 0, .slice (some ⟨w.heap.size + 1 + 1 + 1 + 1, 0, none⟩) 1 1] 54)).alloc
    (.cells #[.slice none 0 0, .slice none 0 0, .slice none 0 0, .slice (some ⟨w.heap.size + 1 + 1 + 1 + 1 + 1, 0, none⟩) 2 2, .slice none 0 0, .int .i64 0, .int .i64 0] 28)
/-- Its cells. -/
structure DepBox (w : World) (N : Nat) (a : Int) : Prop where
  code : Whole w N [.int .i64 31, .int .i64 a, .int .i64 0, .int .i64 33, .int .i64 0, .int .i64 0] 51
  phi : Cells w (N + 1) [.int .i64 0, .int .i64 0]
  loc : Cells w (N + 1 + 1) [.int .i64 1, .int .i64 0]
  code2 : Cells w (N + 1 + 1 + 1) [.int .i64 33, .int .i64 0, .int .i64 0]
  phi2 : Cells w (N + 1 + 1 + 1 + 1) [.int .i64 0]
  mth : Cells w (N + 1 + 1 + 1 + 1 + 1) [.slice none 0 0, .slice none 0 0, .int .i64 5, .int .i64 0, .slice (some ⟨N, 0, none⟩) 2 2, .int .i64 0, .int .i64 0, .slice (some ⟨N + 1, 0, none⟩) 2 2, .slice none 0 0, .slice (some ⟨N + 1 + 1, 0, none⟩) 1 1, .int .i64 5, .int .i64 0, .slice (some ⟨N + 1 + 1 + 1, 0, none⟩) 1 1, .int .i64 0, .int .i64 0, .slice (some ⟨N + 1 + 1 + 1 + 1, 0, none⟩) 1 1]
  img : Cells w (N + 1 + 1 + 1 + 1 + 1 + 1) [.slice none 0 0, .slice none 0 0, .slice none 0 0, .slice (some ⟨N + 1 + 1 + 1 + 1 + 1, 0, none⟩) 2 2, .slice none 0 0, .int .i64 0, .int .i64 0]
  lt : N + 1 + 1 + 1 + 1 + 1 + 1 < w.heap.size
theorem DepBox.keep {w w' : World} {N : Nat} {a : Int} (h : DepBox w N a) (hb : Below w.heap.size w w') : DepBox w' N a := by
  have hl := h.lt
  exact ⟨h.code.keep hb (by omega), h.phi.keep hb (by omega), h.loc.keep hb (by omega), h.code2.keep hb (by omega), h.phi2.keep hb (by omega), h.mth.keep hb (by omega), h.img.keep hb (by omega), Nat.lt_of_lt_of_le hl hb.size⟩
theorem DepBox.set {w : World} {N : Nat} (h : DepBox w N 1) : DepBox (w.setCell ⟨N, 1, none⟩ (.int .i64 0)) N 0 := by
  have hk : ∀ {g : Nat} {vs : List Value}, Cells w g vs → ¬ N = g → Cells (w.setCell ⟨N, 1, none⟩ (.int .i64 0)) g vs := fun {g} {vs} hc hg i v hi => by
    rw [World.cell?_of_block (Below.heap_setCell w ⟨N, 1, none⟩ (.int .i64 0) g (by show g ≠ N; omega))]
    exact hc i v hi
  have hl := h.lt
  exact ⟨h.code.set 1 (.int .i64 0), hk h.phi (by omega), hk h.loc (by omega), hk h.code2 (by omega), hk h.phi2 (by omega), hk h.mth (by omega), hk h.img (by omega), by simpa using hl⟩
theorem dep_two {w : World} {g : Nat} {p q : Int} (hg : g < w.heap.size) (h0 : w.cell? ⟨g, 0, none⟩ = some (.int .i64 p)) (h1 : w.cell? ⟨g, 1, none⟩ = some (.int .i64 q)) : SlcIs IntAt 1 w w.heap.size (some ⟨g, 0, none⟩) 2 [p, q] :=
  ⟨Nat.le_refl _, by omega, fun i t hi => by
    match i, hi with
    | 0, hi => simp at hi; subst hi; exact ⟨_, rfl, hg, h0⟩
    | 1, hi => simp at hi; subst hi; exact ⟨_, rfl, hg, by rw [show (⟨g, 0, none⟩ : Addr).add (1 * 1) = ⟨g, 1, none⟩ by simp [Addr.add]]; exact h1⟩
    | i + 2, hi => simp at hi⟩
theorem DepBox.image {w : World} {N : Nat} {a : Int} (h : DepBox w N a) : ImgIn w w.heap.size (depH N) (depM a) ∧ ImgBox w (N + 1 + 1 + 1 + 1 + 1 + 1) (depH N) (depM a) := by
  have hl := h.lt
  have c0 := h.code.cells
  have hC : SlcIs CodeAt 3 w w.heap.size (some ⟨N, 0, none⟩) 2 [(31, a, 0), (33, 0, 0)] := ⟨Nat.le_refl _, by show 2 ≤ 9223372036854775807; decide, fun i t hi => by
    match i, hi with
    | 0, hi => simp at hi; subst hi; exact ⟨_, rfl, (by show N < _; omega), c0 0 _ rfl, c0 1 _ rfl, c0 2 _ rfl⟩
    | 1, hi => simp at hi; subst hi; exact ⟨_, rfl, (by show N < _; omega), by rw [show (⟨N, 0, none⟩ : Addr).add (1 * 3) = ⟨N, 3, none⟩ by simp [Addr.add]]; exact ⟨c0 3 _ rfl, c0 4 _ rfl, c0 5 _ rfl⟩⟩
    | i + 2, hi => simp at hi⟩
  have hP : SlcIs IntAt 1 w w.heap.size (some ⟨N + 1, 0, none⟩) 2 [0, 0] := dep_two (by omega) (h.phi 0 _ rfl) (h.phi 1 _ rfl)
  have hT : SlcIs TyAt 2 w w.heap.size (some ⟨N + 1 + 1, 0, none⟩) 1 [(1, 0)] := ⟨Nat.le_refl _, by show 1 ≤ 9223372036854775807; decide, fun i t hi => by
    match i, hi with
    | 0, hi => simp at hi; subst hi; exact ⟨_, rfl, (by show N + 1 + 1 < _; omega), h.loc 0 _ rfl, h.loc 1 _ rfl⟩
    | i + 1, hi => simp at hi⟩
  have hD : SlcIs CodeAt 3 w w.heap.size (some ⟨N + 1 + 1 + 1, 0, none⟩) 1 [(33, 0, 0)] := ⟨Nat.le_refl _, by show 1 ≤ 9223372036854775807; decide, fun i t hi => by
    match i, hi with
    | 0, hi => simp at hi; subst hi; exact ⟨_, rfl, (by show N + 1 + 1 + 1 < _; omega), h.code2 0 _ rfl, h.code2 1 _ rfl, h.code2 2 _ rfl⟩
    | i + 1, hi => simp at hi⟩
  have hQ : SlcIs IntAt 1 w w.heap.size (some ⟨N + 1 + 1 + 1 + 1, 0, none⟩) 1 [0] := int_one (by omega) (h.phi2 0 _ rfl)
  have c4 := h.mth
  have hM : MthAt w w.heap.size ⟨N + 1 + 1 + 1 + 1 + 1, 0, none⟩ ⟨[], [], (5, 0), [(31, a, 0), (33, 0, 0)], 0, 0, [0, 0]⟩ :=
    ⟨⟨none, 0, c4 0 _ rfl, slc_none⟩, ⟨none, 0, c4 1 _ rfl, slc_none⟩, c4 2 _ rfl, c4 3 _ rfl, ⟨_, 2, c4 4 _ rfl, hC⟩, c4 5 _ rfl, c4 6 _ rfl, ⟨_, 2, c4 7 _ rfl, hP⟩⟩
  have hN : MthAt w w.heap.size ⟨N + 1 + 1 + 1 + 1 + 1, 8, none⟩ ⟨[], [(1, 0)], (5, 0), [(33, 0, 0)], 0, 0, [0]⟩ :=
    ⟨⟨none, 0, c4 8 _ rfl, slc_none⟩, ⟨_, 1, c4 9 _ rfl, hT⟩, c4 10 _ rfl, c4 11 _ rfl, ⟨_, 1, c4 12 _ rfl, hD⟩, c4 13 _ rfl, c4 14 _ rfl, ⟨_, 1, c4 15 _ rfl, hQ⟩⟩
  have hMM : SlcIs MthAt 8 w w.heap.size (some ⟨N + 1 + 1 + 1 + 1 + 1, 0, none⟩) 2 [⟨[], [], (5, 0), [(31, a, 0), (33, 0, 0)], 0, 0, [0, 0]⟩, ⟨[], [(1, 0)], (5, 0), [(33, 0, 0)], 0, 0, [0]⟩] := ⟨Nat.le_refl _, by show 2 ≤ 9223372036854775807; decide, fun i t hi => by
    match i, hi with
    | 0, hi => simp at hi; subst hi; exact ⟨_, rfl, (by show N + 1 + 1 + 1 + 1 + 1 < _; omega), hM⟩
    | 1, hi => simp at hi; subst hi; exact ⟨_, rfl, (by show N + 1 + 1 + 1 + 1 + 1 < _; omega), by rw [show (⟨N + 1 + 1 + 1 + 1 + 1, 0, none⟩ : Addr).add (1 * 8) = ⟨N + 1 + 1 + 1 + 1 + 1, 8, none⟩ by simp [Addr.add]]; exact hN⟩
    | i + 2, hi => simp at hi⟩
  exact ⟨⟨slc_none, slc_none, slc_none, hMM, slc_none⟩, ⟨h.img 0 _ rfl, h.img 1 _ rfl, h.img 2 _ rfl, h.img 3 _ rfl, h.img 4 _ rfl, h.img 5 _ rfl, h.img 6 _ rfl⟩⟩
theorem dep_parts (w : World) : Below w.heap.size w (depW w) ∧ DepBox (depW w) w.heap.size 1 := by
  obtain ⟨c0, z0, b0⟩ := cells_step (w := w) rfl [.int .i64 31, .int .i64 1, .int .i64 0, .int .i64 33, .int .i64 0, .int .i64 0] 51
  have hw0 := Whole.new w [.int .i64 31, .int .i64 1, .int .i64 0, .int .i64 33, .int .i64 0, .int .i64 0] 51
  obtain ⟨c1, z1, b1⟩ := cells_step z0 [.int .i64 0, .int .i64 0] 3
  obtain ⟨c2, z2, b2⟩ := cells_step z1 [.int .i64 1, .int .i64 0] 49
  obtain ⟨c3, z3, b3⟩ := cells_step z2 [.int .i64 33, .int .i64 0, .int .i64 0] 51
  obtain ⟨c4, z4, b4⟩ := cells_step z3 [.int .i64 0] 3
  obtain ⟨c5, z5, b5⟩ := cells_step z4 [.slice none 0 0, .slice none 0 0, .int .i64 5, .int .i64 0, .slice (some ⟨w.heap.size, 0, none⟩) 2 2, .int .i64 0, .int .i64 0, .slice (some ⟨w.heap.size + 1, 0, none⟩) 2 2, .slice none 0 0, .slice (some ⟨w.heap.size + 1 + 1, 0, none⟩) 1 1, .int .i64 5, .int .i64 0, .slice (some ⟨w.heap.size + 1 + 1 + 1, 0, none⟩) 1 1, .int .i64 0, .int .i64 0, .slice (some ⟨w.heap.size + 1 + 1 + 1 + 1, 0, none⟩) 1 1] 54
  obtain ⟨c6, z6, b6⟩ := cells_step z5 [.slice none 0 0, .slice none 0 0, .slice none 0 0, .slice (some ⟨w.heap.size + 1 + 1 + 1 + 1 + 1, 0, none⟩) 2 2, .slice none 0 0, .int .i64 0, .int .i64 0] 28
  have b5' := b5.trans (b6.mono (by omega))
  have b4' := b4.trans (b5'.mono (by omega))
  have b3' := b3.trans (b4'.mono (by omega))
  have b2' := b2.trans (b3'.mono (by omega))
  have b1' := b1.trans (b2'.mono (by omega))
  exact ⟨b0.trans (b1'.mono (by omega)), hw0.keep b1' (by omega), c1.keep b2' (by omega), c2.keep b3' (by omega), c3.keep b4' (by omega), c4.keep b5' (by omega), c5.keep b6 (by omega), c6, by have : (depW w).heap.size = w.heap.size + 1 + 1 + 1 + 1 + 1 + 1 + 1 := z6; omega⟩
theorem dep_all {N : Nat} {w0 w : World} (HI : Hid (ImgIn w0 w0.heap.size (depH N) (depM 1))) (HX : Hid (Below w0.heap.size w0 w)) :
    Calls Try.prog 8 #[imgV (depH N) (depM 1)] w fun e w' => ∃ (gO c : Nat) (b : Int) (p0 p1 : Nat × List Shx), e = .returned (.tuple #[.slice (some ⟨gO, 0, none⟩) 2 c, .int .i64 b]) ∧ Below w.heap.size w w' ∧ b < 0 ∧ DepIn w' w.heap.size gO c p0 p1 := by
  refine (rall2_any (depM 1) (depH N) w (HI.out.now HX.out) (saneI dep_yes1) (by decide)).mono fun e w' ⟨A, n, c, b, he, hb, hyes, hno⟩ => ?_
  have hb0 : b < 0 := by
    rcases Int.lt_or_le b 0 with q | q
    · exact q
    · exfalso
      have := hno q [[⟨true, []⟩, ⟨true, []⟩], [⟨true, []⟩]]
      rw [dep_right] at this
      cases this
  obtain ⟨XS, hn, hlen, hown, hall, hge, hf⟩ := hyes hb0
  have hn2 : n = 2 := hn
  subst hn2
  match XS, hlen with
  | [p0, p1], _ =>
    rcases ownK_slice hown with ⟨_, hz⟩ | ⟨gO, c', e1, h1, h2⟩
    · cases hz
    · injection e1 with e1 e2 e3
      subst e1 e3
      obtain ⟨hbO, hcell⟩ := ownK_cell hown
      obtain ⟨k0, hlt⟩ := hcell 0 _ rfl
      obtain ⟨k1, _⟩ := hcell 1 _ rfl
      have f0 := (hf 0 p0 rfl).2.right
      have f1 := (hf 1 p1 rfl).2.right
      obtain ⟨⟨_, l0, s0, t0⟩, g0⟩ := rightS_iff.mp f0
      obtain ⟨⟨_, l1, s1, t1⟩, g1⟩ := rightS_iff.mp f1
      rw [List.length_map] at l0 l1
      have l0 : p0.2.length = 2 := l0
      have l1 : p1.2.length = 1 := l1
      have hp := (place_iff.mp (g0 0 (by rw [List.length_map]; omega))) s0
      have t0' : (shpN (p0.2.map Shx.shp) ((0 : Nat) : Int)).stack = [] := t0
      rw [t0'] at hp
      have e0 : stepOf (depM 1) ((0 : Nat) : Int) ((0 : Nat) : Int) [] = ⟨[], [1], 0⟩ := dep_step
      rw [e0] at hp
      have hq := (hp.2 1 (by simp)).2.1
      have hz0 : ∀ x ∈ p0.2, x.stack = [] := fun x hx => by
        obtain ⟨i, hi, rfl⟩ := List.getElem_of_mem hx
        have hi2 : i < 2 := by omega
        match i, hi2 with
        | 0, _ =>
          have : (shpN (p0.2.map Shx.shp) ((0 : Nat) : Int)) = p0.2[0].shp := shpN_map (by omega)
          rw [this] at t0'
          exact t0'
        | 1, _ =>
          have : (shpN (p0.2.map Shx.shp) ((1 : Nat) : Int)) = p0.2[1].shp := shpN_map (by omega)
          have hq : ([] : List (Int × Int)).length = (shpN (p0.2.map Shx.shp) ((1 : Nat) : Int)).stack.length := hq
          rw [this] at hq
          exact List.eq_nil_of_length_eq_zero hq.symm
      have hz1 : ∀ x ∈ p1.2, x.stack = [] := fun x hx => by
        obtain ⟨i, hi, rfl⟩ := List.getElem_of_mem hx
        have hi2 : i < 1 := by omega
        match i, hi2 with
        | 0, _ =>
          have t1' : (shpN (p1.2.map Shx.shp) ((0 : Nat) : Int)).stack = [] := t1
          have : (shpN (p1.2.map Shx.shp) ((0 : Nat) : Int)) = p1.2[0].shp := shpN_map (by omega)
          rw [this] at t1'
          exact t1'
      exact ⟨gO, c, b, p0, p1, he, hb, hb0, ⟨hbO, hge p0 (by simp), hge p1 (by simp), hlt, ⟨h1, h2⟩, k0, k1, hall.outs p0 (by simp), hall.outs p1 (by simp), hz0, hz1, l0, l1⟩⟩
theorem dep_ints {w : World} {A : Option Addr} {c : Nat} (HS : Hid (SlcIs IntAt 1 w w.heap.size A c [7, 4])) : Calls Try.prog 13 #[.slice A 2 c, .slice (some ⟨w.heap.size, 0, none⟩) 2 2] (w.alloc (.cells #[.int .i64 7, .int .i64 4] 3)) fun e w' => e = .returned (.bool true) ∧ Below w.heap.size w w' := by
  have hA : Below w.heap.size w (w.alloc (.cells #[.int .i64 7, .int .i64 4] 3)) := (Below.refl _ _).alloc (Nat.le_refl _) _
  refine (rsameInts_any [7, 4] [7, 4] A (some ⟨w.heap.size, 0, none⟩) c 2 _ (w.alloc (.cells #[.int .i64 7, .int .i64 4] 3)) (Nat.le_refl _) (cslcUp IntAt.keeps HS.out hA) (dep_two (by simp) (by go_simp) (by go_simp))).mono ?_
  rintro e w' ⟨rfl, hb⟩
  exact ⟨rfl, hA.trans (hb.mono hA.size)⟩
theorem dep_yes {N : Nat} {l : List (List Shp)} {A : Option Addr} {c : Nat} {w0 w : World} (HI : Hid (ImgIn w0 w0.heap.size (depH N) (depM 1))) (HX : Hid (Below w0.heap.size w0 w)) (HL : Hid (MapsOk (depM 1) w A c l)) (HB : Hid (boundsOf (depM 1) l = [7, 4])) :
    Calls Try.prog 9 #[imgV (depH N) (depM 1), .slice A 2 c] w fun e w' => ∃ A c, e = .returned (.tuple #[.slice A 2 c, .int .i64 0]) ∧ Below w.heap.size w w' ∧ SlcIs IntAt 1 w' w'.heap.size A c [7, 4] ∧ ∀ ad, A = some ad → w.heap.size ≤ ad.block :=
  (dbound_new HI HX (Lib.hid dep_sane1) HL (Lib.hid dep_rings1) HB).mono fun _ _ h => h
theorem dep_no {N : Nat} {l : List (List Shp)} {A : Option Addr} {c : Nat} {w0 w : World} (HI : Hid (ImgIn w0 w0.heap.size (depH N) (depM 0))) (HX : Hid (Below w0.heap.size w0 w)) (HL : Hid (MapsOk (depM 0) w A c l)) :
    Calls Try.prog 9 #[imgV (depH N) (depM 0), .slice A 2 c] w fun e w' => ∃ A c, e = .returned (.tuple #[.slice A 0 c, .int .i64 5]) ∧ Below w.heap.size w w' :=
  (dbound_no HI HX (Lib.hid dep_sane0) HL (Lib.hid dep_rings0)).mono fun _ _ h => h
theorem dep_frame {N : Nat} {l : List (List Shp)} {A : Option Addr} {c : Nat} {w0 w : World} (HI : Hid (ImgIn w0 w0.heap.size (depH N) (depM 0))) (HX : Hid (Below w0.heap.size w0 w)) (HL : Hid (MapsOk (depM 0) w A c l)) (HF : Hid (frameOf (depM 0) l 1 = 4)) :
    Calls Try.prog 11 #[imgV (depH N) (depM 0), .slice A 2 c, .int .i64 1] w fun e w' => e = .returned (.int .i64 4) ∧ Below w.heap.size w w' :=
  (dframe_is HI HX (Lib.hid dep_sane0) HL HF).mono fun _ _ h => h
set_option maxHeartbeats 6400000 in
theorem depthAwake_any (w : World) : Calls Try.prog 7 #[] w fun e w' => e = .returned (.bool true) ∧ Below w.heap.size w w' := by
  obtain ⟨hb, hx⟩ := dep_parts w
  have HW := Lib.hid hb
  have HBX := Lib.hid hx
  clear hb hx
  go_enter Try.func7, Try.ntmps7
  go_upto_region 2 with fail
  change Code.wp _ _ _ _ (depW w)
  generalize depW w = w1 at *
  obtain ⟨N, hN⟩ : ∃ N, w.heap.size = N := ⟨_, rfl⟩
  have HNN := Lib.hid hN
  simp only [hN] at HBX ⊢
  clear hN
  have HX : Hid (Below w1.heap.size w1 w1) := Lib.hid (Below.refl _ _)
  have HI := Lib.hid HBX.out.image.1
  obtain ⟨q0, q1, q2, q3, q4, q5, q6⟩ := HBX.out.image.2
  go_upto_region 3 with (go_at_call 8; (with_reducible refine (dep_all HI HX).mono ?_); rintro e w2 ⟨gO, c, bd, p0, p1, rfl, hb, hbd, hd⟩; have HX := Lib.hid hb; have HB2 := Lib.hid (HBX.out.keep hb); have HD2 := Lib.hid hd; clear hb hd; obtain ⟨q0, q1, q2, q3, q4, q5, q6⟩ := HB2.out.image.2)
  have HL2 := Lib.hid (HD2.out.maps 1)
  have HBO := Lib.hid HD2.out.bounds
  go_upto_region 4 with (go_at_call 9; (with_reducible refine (dep_yes HI HX HL2 HBO).mono ?_); rintro e w3 ⟨A3, c3, rfl, hb, hs, hn⟩; have HN3 := Lib.hid hn; have HB3 := Lib.hid (HB2.out.keep hb); have HD3 := Lib.hid (HD2.out.keep hb); have HS3 := Lib.hid hs; have HX3 := Lib.hid (HX.out.trans (hb.mono HX.out.size)); clear hb hs hn)
  clear q0 q1 q2 q3 q4 q5 q6
  have q3 := HB3.out.img 3 _ rfl
  have m4 := HB3.out.mth 4 _ rfl
  have c1 := HB3.out.code.cells 1 _ rfl
  have f1 := HB3.out.code.free 1
  go_upto_region 5 with fail
  have hlt := HBX.out.lt
  have HB4 := Lib.hid HB3.out.set
  have HD4 := Lib.hid (HD3.out.set (N := N) (by omega) 1 (.int .i64 0))
  have HS4 : Hid (SlcIs IntAt 1 (w3.setCell ⟨N, 1, none⟩ (.int .i64 0)) (w3.setCell ⟨N, 1, none⟩ (.int .i64 0)).heap.size A3 c3 [7, 4]) := Lib.hid (slc_ints_at HS3.out (by simp) (fun ad e q hq => World.cell?_of_block (Below.heap_setCell w3 ⟨N, 1, none⟩ (.int .i64 0) q.block (by
    have h1 := HN3.out ad e
    have h2 := HX.out.size
    show q.block ≠ N
    omega))))
  have HW4 : Hid (Below w.heap.size w (w3.setCell ⟨N, 1, none⟩ (.int .i64 0))) := Lib.hid ((HW.out.trans (HX3.out.mono HW.out.size)).setCell (p := ⟨N, 1, none⟩) (by rw [HNN.out]; exact Nat.le_refl _) _)
  clear q3 m4 c1 f1
  generalize w3.setCell ⟨N, 1, none⟩ (.int .i64 0) = w4 at *
  have HI := Lib.hid HB4.out.image.1
  have HX : Hid (Below w4.heap.size w4 w4) := Lib.hid (Below.refl _ _)
  have HL4 := Lib.hid (HD4.out.maps 0)
  have HF4 := Lib.hid (HD4.out.frame1 0)
  obtain ⟨q0, q1, q2, q3, q4, q5, q6⟩ := HB4.out.image.2
  go_upto_region 6 with (go_at_call 9; (with_reducible refine (dep_no HI HX HL4).mono ?_); rintro e w5 ⟨A5, c5, rfl, hb⟩; have HX := Lib.hid hb; have HS := Lib.hid (cslcUp IntAt.keeps HS4.out hb); have HL := Lib.hid (HL4.out.up hb); have HBB := Lib.hid (HB4.out.keep hb); clear hb; obtain ⟨q0, q1, q2, q3, q4, q5, q6⟩ := HBB.out.image.2)
  have HSN := Lib.hid dep_yes0
  have hbdd : decide (bd < 0) = true := decide_eq_true hbd
  go_wp2_with (first
    | (go_at_call 13; (with_reducible refine (dep_ints HS).mono ?_); rintro e w6 ⟨rfl, hb⟩; have HX := Lib.hid (HX.out.trans (hb.mono HX.out.size)); have HL := Lib.hid (HL.out.up hb); have HBB := Lib.hid (HBB.out.keep hb); clear hb; obtain ⟨q0, q1, q2, q3, q4, q5, q6⟩ := HBB.out.image.2)
    | (go_at_call 11; (with_reducible refine (dep_frame HI HX HL HF4).mono ?_); rintro e w7 ⟨rfl, hb⟩; have HX := Lib.hid (HX.out.trans (hb.mono HX.out.size)); have HBB := Lib.hid (HBB.out.keep hb); clear hb; obtain ⟨q0, q1, q2, q3, q4, q5, q6⟩ := HBB.out.image.2)
    | (go_at_call 17; (with_reducible refine (dsane_is HI HX HSN).mono ?_); rintro e w8 ⟨rfl, hb⟩; have HX := Lib.hid (HX.out.trans (hb.mono HX.out.size)); clear hb))
  go_ret
  exact ⟨by first | rfl | simp, HW4.out.trans (HX.out.mono HW4.out.size)⟩
end Go.Proofs.Ytefgepppcmhphaa
