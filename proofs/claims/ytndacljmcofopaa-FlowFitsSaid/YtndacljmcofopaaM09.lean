/-
  What flow's own maker of types (maker, and what it makes) comes to.
-/
import Derived.Test.YtndacljmcofopaaM08
namespace Go.Proofs.Ytndacljmcofopaa
set_option maxRecDepth 100000
set_option linter.unusedVariables false
set_option linter.unusedSimpArgs false
open Go.ChangeShapes Go.WideShapes Go.ChangeAt Go.RowKit

/-- Types of kinds, each Ref being of one class. -/
def mkOne (a k : Int) : Int × Int := (k, if k = 3 then a else 0)
def mkOf (a : Int) (ks : List Int) : List (Int × Int) := ks.map (mkOne a)
abbrev mkF (N : Nat) : Value := .func (.func 63) #[] #[.pointer (some ⟨N, 0, none⟩)]
theorem fmaker_any (op a b : Int) (w : World) :
    Calls Try.prog 41 #[insV op a b] w fun e w' => e = .returned (mkF w.heap.size) ∧ w' = w.alloc (.cells #[.int .i64 op, .int .i64 a, .int .i64 b] 44) := by
  go_enter Try.func41, Try.ntmps41
  go_wp2
  go_ret
  exact ⟨rfl, rfl⟩
theorem lies_t1 {w : World} {g : Nat} {x y : Int} (hg : g < w.heap.size) (h0 : w.cell? ⟨g, 0, none⟩ = some (.int .i64 x)) (h1 : w.cell? ⟨g, 1, none⟩ = some (.int .i64 y)) : Lies w w.heap.size (some ⟨g, 0, none⟩) (tysV [(x, y)]) := tys_lie (new_t1 hg h0 h1).row
theorem fmk_any (ks : List Int) (op a b : Int) (N : Nat) (A : Option Addr) (c : Nat) (w : World) (hN : N < w.heap.size) (hc : Cells w N [.int .i64 op, .int .i64 a, .int .i64 b]) (h : SlcIs IntAt 1 w w.heap.size A c ks) (hl : ks.length ≤ 1000) :
    Calls Try.prog 63 #[.slice A ks.length c, .pointer (some ⟨N, 0, none⟩)] w (OwnTypes (mkOf a ks) w) := by
  obtain ⟨i0, hi, hz0, hz1, hz2⟩ := info_partsK info_type
  have HN := Lib.hid hN
  have HC := Lib.hid hc
  have HS := Lib.hid h
  have hle := h.le
  have hcap := h.cap
  clear hN hc h
  go_enter Try.func63, Try.ntmps63
  go_wp2_with fail
  go_loopw [4, 10] (fun v i wr => ∃ k : Nat, k ≤ ks.length ∧ i = .int .i64 k ∧ Hid (wr.ownsRow w.heap.size 38 2 v k (tysV (mkOf a (ks.take k)))) ∧ Hid (Below w.heap.size w wr)) (fun _ i _ => ks.length - (intOf i).toNat)
  case atStart => exact ⟨0, by omega, rfl, Lib.hid (World.ownsRow_nil _ _ _ _), Lib.hid (Below.refl _ _)⟩
  case round =>
    obtain ⟨k, hk, rfl, HO, HX⟩ := hrel
    by_cases hlt : k < ks.length
    · obtain ⟨ad, rfl, hab, hcz⟩ := (HS.out.below_to IntAt.keeps HX.out (Nat.le_refl _)).row.at_ hlt
      have HT : Hid (mkOf a (ks.take (k + 1)) = mkOf a (ks.take k) ++ [mkOne a ks[k]]) := Lib.hid (by unfold mkOf; rw [List.take_succ_eq_append_getElem hlt, List.map_append]; rfl)
      obtain ⟨L, hL⟩ : ∃ L, mkOf a (ks.take k) = L := ⟨_, rfl⟩
      have hLl : L.length = k := by rw [← hL]; unfold mkOf; rw [List.length_map, List.length_take]; omega
      rw [hL] at HT HO
      generalize ks[k] = z at *
      have hcz : wr.cell? (ad.add k) = some (.int .i64 z) := by have := hcz; rw [Nat.mul_one] at this; exact this
      have o1 := (HC.out.keep HX.out HN.out) 1 _ rfl
      have hsz := HX.out.size
      have hNw : N < wr.heap.size := Nat.lt_of_lt_of_le HN.out hsz
      clear hL
      by_cases hz3 : z = 3
      · subst hz3
        go_wp2_with (at_builtin; refine append_liesK rfl _ _ 23 rfl w.heap.size 38 i0 (.agg #[.int .i64 0, .int .i64 0]) 2 16 Try.underlying23 hi hz0 hz1 hz2 rfl (by decide) _ k (tysV L) rfl ((HO.out.alloc _).alloc _) (some ⟨wr.heap.size + 1, 0, none⟩) 1 1 _ (tysV [(3, a)]) rfl rfl (lies_t1 (by simp) (by go_simp) (by go_simp)) (tysV_one _) (by unfold maxLen; omega) (by omega) (by simp; omega) ?_; intro v6 w6 hown hgrow; have HX6 := Lib.hid (appK_more ((HX.out.alloc hsz _).alloc (by simp; omega) _) ((HO.out.alloc _).alloc _) (by simp; omega) hgrow); have HO6 := Lib.hid hown; clear hown hgrow)
        go_roundw
        case rel => exact ⟨k + 1, by omega, by go_num, Lib.hid (by rw [HT.out]; show World.ownsRow _ _ _ _ _ _ ((L ++ [(3, a)]).flatMap tyC); rw [List.flatMap_append]; exact HO6.out), HX6⟩
        case measure => simp [intOf]; omega
      · have HM : Hid (mkOne a z = (z, 0)) := Lib.hid (by unfold mkOne; rw [if_neg hz3])
        go_wp2_with (at_builtin; refine append_liesK rfl _ _ 23 rfl w.heap.size 38 i0 (.agg #[.int .i64 0, .int .i64 0]) 2 16 Try.underlying23 hi hz0 hz1 hz2 rfl (by decide) _ k (tysV L) rfl ((HO.out.alloc _).alloc _) (some ⟨wr.heap.size + 1, 0, none⟩) 1 1 _ (tysV [(z, 0)]) rfl rfl (lies_t1 (by simp) (by go_simp) (by go_simp)) (tysV_one _) (by unfold maxLen; omega) (by omega) (by simp; omega) ?_; intro v6 w6 hown hgrow; have HX6 := Lib.hid (appK_more ((HX.out.alloc hsz _).alloc (by simp; omega) _) ((HO.out.alloc _).alloc _) (by simp; omega) hgrow); have HO6 := Lib.hid hown; clear hown hgrow)
        go_roundw
        case rel => exact ⟨k + 1, by omega, by go_num, Lib.hid (by rw [HT.out, HM.out]; show World.ownsRow _ _ _ _ _ _ ((L ++ [(z, 0)]).flatMap tyC); rw [List.flatMap_append]; exact HO6.out), HX6⟩
        case measure => simp [intOf]; omega
    · obtain rfl : k = ks.length := by omega
      have HT : Hid (mkOf a (ks.take ks.length) = mkOf a ks) := Lib.hid (by rw [List.take_length])
      have HLN : Hid ((mkOf a ks).length = ks.length) := Lib.hid (by unfold mkOf; rw [List.length_map])
      go_wp2_with fail
      go_ret
      refine ⟨_, rfl, ?_, HX.out⟩
      rw [HLN.out, ← HT.out]
      exact HO.out
theorem fmk_is {ks : List Int} {op a b : Int} {N : Nat} {A : Option Addr} {c : Nat} {w : World} {L : List (Int × Int)} (HL : Hid (mkOf a ks = L)) (HN : N < w.heap.size) (HC : Cells w N [.int .i64 op, .int .i64 a, .int .i64 b]) (HS : SlcIs IntAt 1 w w.heap.size A c ks) (hl : ks.length ≤ 1000) :
    Calls Try.prog 63 #[.slice A ks.length c, .pointer (some ⟨N, 0, none⟩)] w (OwnTypes L w) := by
  have H := fmk_any ks op a b N A c w HN HC HS hl
  rw [HL.out] at H
  exact H
end Go.Proofs.Ytndacljmcofopaa
