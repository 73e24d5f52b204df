/-
  A region more: the least number that none has (free), and its cells (Give).
-/
import Derived.Test.YtmjoollhkjgohaaMemAt
import Derived.Test.YtmjoollhkjgohaaMemNew
import Derived.LoopTactic
import Derived.Lib.SliceRun
import Derived.WalkSmall
namespace Go.Proofs.Ytmjoollhkjgohaa
set_option maxRecDepth 100000
set_option linter.unusedVariables false
set_option linter.unusedSimpArgs false
open Go.ChangeShapes Go.WideShapes Go.ChangeAt Go.RowKit
set_option linter.unusedVariables false
set_option linter.unusedSimpArgs false

theorem info_rgnM : (Try.prog.info? 49).map (fun i => (i.zero, i.size, i.bytes)) = some (some (.agg #[.bool false, .int .i64 0, .int .i64 0]), 3, 24) := by kernel_rfl
section
variable {w : World} {B g gs gh cr : Nat} {S : Ara} {Ar : Option Addr} {ρ : Nat → Nat}
theorem below_drewM (n : Nat) : Below w.heap.size w (w.drewN n) := below_drewN (Below.refl _ _) n
/-- What is there of a region's number. -/
theorem rgn_cells (h : MemIn w B g gs gh S Ar cr ρ) {k : Nat} {r : Rgn} (hr : S.rg[k]? = some r) : ∃ gr, Ar = some ⟨gr, 0, none⟩ ∧ ρ gr = 4 ∧ gr < w.heap.size ∧ w.cell? ⟨gr, k * 3, none⟩ = some (.bool r.there) ∧ w.cell? ⟨gr, k * 3 + 1, none⟩ = some (.int .i64 (r.place : Int)) ∧ w.cell? ⟨gr, k * 3 + 2, none⟩ = some (.int .i64 (r.cells : Int)) := by
  have hk := (List.getElem?_eq_some_iff.mp hr).1
  obtain ⟨gr, rfl, _, _, h4, hgr⟩ := h.row (by omega)
  obtain ⟨_, hcl⟩ := ownK_cell h.rgs
  obtain ⟨e0, e1, e2⟩ := rgnsV_at hr
  exact ⟨gr, rfl, h4, hgr, (hcl _ _ e0).1, (hcl _ _ e1).1, (hcl _ _ e2).1⟩
/-- The least number from one on that is not there. -/
def gapR (l : List Rgn) (k : Nat) : Prop := (∀ r, l[k]? = some r → r.there = false) ∧ k ≤ l.length
set_option maxHeartbeats 1600000 in
theorem mfree_any (h : MemIn w B g gs gh S Ar cr ρ) (hle : S.least ≤ S.rg.length) (hn : S.rg.length ≤ 1000000) :
    Calls Try.prog 19 #[.pointer (some ⟨g, 0, none⟩)] w fun e w' => ∃ k : Nat, e = .returned (.int .i64 (k : Int)) ∧ S.least ≤ k ∧ gapR S.rg k ∧ (∀ m, S.least ≤ m → m < k → ∃ r, S.rg[m]? = some r ∧ r.there = true) ∧ MemIn w' B g gs gh { S with least := k } Ar cr ρ ∧ MemStay w w' ρ ρ := by
  obtain ⟨st, hp, rg, used, least⟩ := S
  dsimp only at hle hn
  have HR : Hid (∃ k : Nat, k + (rg.length - least) = rg.length ∧ least ≤ k ∧ (∀ m, least ≤ m → m < k → ∃ r, rg[m]? = some r ∧ r.there = true) ∧ MemIn w B g gs gh ⟨st, hp, rg, used, k⟩ Ar cr ρ ∧ MemStay w w ρ ρ) := Lib.hid ⟨least, by omega, Nat.le_refl _, fun m h1 h2 => by omega, h, MemStay.refl⟩
  obtain ⟨len, hlen⟩ : ∃ len, rg.length = len := ⟨_, rfl⟩
  have hlt := h.lt.1
  have hcr := h.rcap
  dsimp only at hcr
  rw [hlen] at HR hle hn hcr
  have HLE := Lib.hid hlen
  clear h hlen
  go_enter Try.func19, Try.ntmps19
  go_wp2_with fail
  generalize len - least = G0 at *
  go_loopg [] G0 (fun gk wr => Hid (∃ k : Nat, k + gk = len ∧ least ≤ k ∧ (∀ m, least ≤ m → m < k → ∃ r, rg[m]? = some r ∧ r.there = true) ∧ MemIn wr B g gs gh ⟨st, hp, rg, used, k⟩ Ar cr ρ ∧ MemStay w wr ρ ρ))
  case atStart => exact HR
  case round =>
    clear HR
    obtain ⟨k, hk, hlk, hall, hW, hS⟩ := hrel.out
    clear hrel
    have q2 := hW.blk.cells 2 _ rfl
    have q4 := hW.blk.cells 4 _ rfl
    dsimp only at q2 q4
    rw [HLE.out] at q2
    have hg0 := hW.lt.1
    have HW := Lib.hid hW
    have HA := Lib.hid hall
    have HS := Lib.hid hS
    have f4 := hW.blk.free 4
    clear hall hS
    rcases Nat.eq_zero_or_pos gk with rfl | hpos
    · have hkl : decide (k < len) = false := decide_eq_false (by omega)
      clear hW
      go_wp2_with fail
      go_quiet (fail)
      go_wp2_with fail
      go_ret
      exact ⟨k, rfl, hlk, ⟨fun r hr => by have := (List.getElem?_eq_some_iff.mp hr).1; have := HLE.out; omega, by show k ≤ rg.length; rw [HLE.out]; omega⟩, HA.out, HW.out.keep (below_drewM _), HS.out.trans (MemStay.below (below_drewM _))⟩
    · have hkl : decide (k < len) = true := decide_eq_true (by omega)
      obtain ⟨r, hr⟩ : ∃ r, rg[k]? = some r := ⟨_, List.getElem?_eq_getElem (by rw [HLE.out]; omega)⟩
      obtain ⟨gr, rfl, h4, hgr, d0, _, _⟩ := rgn_cells hW hr
      have HRK := Lib.hid hr
      obtain ⟨there, place, cells⟩ := r
      dsimp only at d0
      clear hW hr h4
      obtain ⟨gk, rfl⟩ : ∃ z, gk = z + 1 := ⟨gk - 1, by omega⟩
      cases there
      · go_wp2_with fail
        go_quiet (fail)
        go_wp2_with fail
        go_ret
        exact ⟨k, rfl, hlk, ⟨fun r hr => by rw [HRK.out] at hr; injection hr with hr; subst hr; rfl, by show k ≤ rg.length; rw [HLE.out]; omega⟩, HA.out, HW.out.keep (below_drewM _), HS.out.trans (MemStay.below (below_drewM _))⟩
      · go_wp2_with fail
        go_quiet (fail)
        go_wp2_with fail
        go_roundg gk
        case rel =>
          have h1 := (HW.out.keep (below_drewM nq)).least (k := k + 1) (z := (k : Int) + 1) (by omega)
          refine Lib.hid ⟨k + 1, by omega, by omega, fun m h2 h3 => ?_, h1, HS.out.trans ((MemStay.below (below_drewM nq)).trans (MemStay.only (Only.cell (a := ⟨g, 4, none⟩) HW.out.r1 _) (by decide)))⟩
          rcases Nat.lt_or_ge m k with q | q
          · exact HA.out m h2 q
          · obtain rfl : m = k := by omega
            exact ⟨_, HRK.out, rfl⟩
        case measure => omega
/-- Arenas with these regions in this order; c is no less than how many numbers there have been. -/
def MemIs (w : World) (B g gs gh : Nat) (ρ : Nat → Nat) (st : List Int) (nh : Nat) (L : List (Nat × List Int)) (c : Nat) : Prop := ∃ S Ar cr, MemIn w B g gs gh S Ar cr ρ ∧ OrdM S L ∧ S.st = st ∧ S.hp.length = nh ∧ S.rg.length ≤ c
/-- What giving does. -/
def GiveOut (B g gs gh : Nat) (ρ : Nat → Nat) (st : List Int) (nh : Nat) (L : List (Nat × List Int)) (c : Nat) (n : Int) (w : World) (e : Ending) (w' : World) : Prop :=
  (¬ (0 ≤ n ∧ n ≤ (nh : Int) - ((flatR L).length : Int)) ∧ e = .returned (.tuple #[.int .i64 0, .bool false]) ∧ Below w.heap.size w w') ∨
  (0 ≤ n ∧ n ≤ (nh : Int) - ((flatR L).length : Int) ∧ ∃ id : Nat, e = .returned (.tuple #[.int .i64 (id : Int), .bool true]) ∧ ¬ hasR L id ∧ (∀ m, m < id → hasR L m) ∧ ∃ ρ', MemIs w' B g gs gh ρ' st nh (L ++ [(id, zerosM n.toNat)]) (c + 1) ∧ MemStay w w' ρ ρ')
/-- Cells are cleared. -/
theorem mclear {hp : List Int} {o m off : Nat} (hw : Whole w gh (i32V hp) 21) (hf : o + m ≤ hp.length) (ho : (if m = 0 then 0 else o) = off) (ty : TypeId) :
    (Builtin.clear_ #[29] ty #[.slice (some ⟨gh, off, none⟩) m m]).run Try.prog w = .ok (.tuple #[]) (w.setCells gh o (i32V (zerosM m))) := by
  rcases Nat.eq_zero_or_pos m with rfl | hm
  · simp [Builtin.clear_, run_underlying Try.underlying29, zerosM, i32V, World.setCells]
  · rw [if_neg (by omega)] at ho
    subst ho
    have e : i32V (zerosM m) = List.replicate m (.int .i32 0) := by unfold i32V zerosM; rw [List.map_replicate]
    rw [e]
    refine Lib.run_clear_slice w 29 21 ty (.int .i32 0) Try.underlying29 (fun w => by kernel_rfl) rfl rfl gh o m m hm (fun j hj => ?_) (fun j hj => hw.free _)
    have hx : hp[o + j]? = some hp[o + j] := List.getElem?_eq_getElem (by omega)
    rw [hw.cells (o + j) _ (i32V_at hx)]
    rfl
theorem give_pack {st hp : List Int} {rg rg1 : List Rgn} {used least k m c : Nat} {L : List (Nat × List Int)} {w' : World} {ρ' : Nat → Nat} (hO : OrdM ⟨st, hp, rg, used, least⟩ L) (hm : used + m ≤ hp.length) (hG : gapR rg k) (hA : ∀ m, least ≤ m → m < k → ∃ r, rg[m]? = some r ∧ r.there = true)
    (h1 : rg1[k]? = some ⟨true, used, m⟩) (h2 : ∀ i, i ≠ k → rg1[i]? = rg[i]?) (hc : rg1.length ≤ c + 1) (hM : MemIn w' B g gs gh ⟨st, hp.take used ++ (zerosM m ++ hp.drop (used + m)), rg1, used + m, k⟩ Ar cr ρ') (hS : MemStay w w' ρ ρ') :
    GiveOut B g gs gh ρ st hp.length L c (m : Int) w (.returned (.tuple #[.int .i64 (k : Int), .bool true])) w' := by
  have hu := hO.used
  dsimp only at hu
  have hk : ¬ hasR L k := fun ⟨i, d, hi⟩ => by
    have := hG.1 _ (hO.at_ i k d hi)
    cases this
  have hlow : ∀ i, i < k → hasR L i := fun i hi => by
    rcases Nat.lt_or_ge i least with q | q
    · exact hO.least i q
    · obtain ⟨r, hr, ht⟩ := hA i q hi
      exact hO.there i r hr ht
  refine .inr ⟨by omega, by omega, k, rfl, hk, hlow, ρ', ⟨_, _, _, hM, ?_, rfl, ?_, hc⟩, hS⟩
  · rw [Int.toNat_natCast]
    exact hO.give (n := m) hk hlow hm h1 h2
  · dsimp only
    rw [List.length_append, List.length_append, List.length_take, List.length_drop, zerosM_len]
    omega
set_option maxHeartbeats 1600000 in
theorem mgive_any {st : List Int} {nh c : Nat} {L : List (Nat × List Int)} (n : Int) (h : MemIs w B g gs gh ρ st nh L c) (hl : nh ≤ 65536) (hc : c ≤ 999999) :
    Calls Try.prog 9 #[.pointer (some ⟨g, 0, none⟩), .int .i64 n] w (GiveOut B g gs gh ρ st nh L c n w) := by
  obtain ⟨S, Ar, cr, hM, hO, rfl, rfl, hrg⟩ := h
  have hu := hO.used_le
  have HU := Lib.hid hO.used
  have HRm := Lib.hid (mroom_any hM hu hl)
  have HFr := Lib.hid (mfree_any hM hO.least_le (by omega))
  by_cases h0 : n < 0
  · go_enter Try.func9, Try.ntmps9
    go_wp2_with fail
    go_ret2
    exact .inl ⟨by omega, rfl, Below.refl _ _⟩
  · by_cases h1 : n ≤ (S.hp.length : Int) - (S.used : Int)
    · obtain ⟨m, rfl⟩ := Int.eq_ofNat_of_zero_le (show 0 ≤ n by omega)
      obtain ⟨st, hp, rg, used, least⟩ := S
      dsimp only at hu hl hrg HU HRm h1
      have h1' : ¬ (hp.length : Int) - (used : Int) < (m : Int) := by omega
      have hm0 : ¬ (m : Int) < 0 := by omega
      have HLE := Lib.hid hO.least_le
      have HO := Lib.hid hO
      have HM := Lib.hid hM
      dsimp only at HLE
      obtain ⟨i0, hi, hz0, hz1, hz2⟩ := info_parts info_rgnM
      clear hM hO h1 HFr h0
      go_enter Try.func9, Try.ntmps9
      go_upto_region 3 with (go_at_call 14; (with_reducible refine HRm.out.mono ?_); rintro e w1 ⟨rfl, hb⟩; have HB := Lib.hid hb; have HM1 := Lib.hid (HM.out.keep hb); clear hb)
      have HFr := Lib.hid (mfree_any HM1.out HLE.out (by show rg.length ≤ 1000000; omega))
      clear HM HRm
      go_upto_region 4 with (go_at_call 19; (with_reducible refine HFr.out.mono ?_); rintro e w2 ⟨k, rfl, hk1, hk2, hk3, hk4, hk5⟩; have HK := Lib.hid hk1; have HG := Lib.hid hk2; have HA := Lib.hid hk3; have HM2 := Lib.hid hk4; have HS2 := Lib.hid ((MemStay.below HB.out).trans hk5); have q2 := hk4.blk.cells 2 _ rfl; have f2 := hk4.blk.free 2; have hg2 := hk4.lt.1; have hcr2 := hk4.rcap; dsimp only at q2 hcr2; clear hk1 hk2 hk3 hk4 hk5)
      clear HM1 HFr HB
      have hkl := HG.out.2
      by_cases hkn : rg.length = k
      · rw [hkn] at q2 hcr2
        have HKN := Lib.hid hkn
        have hz2' := HM2.out.size
        have HY : Hid (w2.ownsRow B 49 3 (.slice Ar k cr) k (rgnsV rg)) := Lib.hid (by have := HM2.out.rgs; dsimp only at this; rw [hkn] at this; exact this)
        have hk9 : k ≤ 999999 := by omega
        clear hkl hkn
        go_upto_region 6 with (at_builtin; go_loud (refine wpList_append_lies _ rfl _ _ 45 rfl B 49 i0 (.agg #[.bool false, .int .i64 0, .int .i64 0]) 3 24 Try.underlying45 hi hz0 hz1 hz2 rfl (by decide) _ k _ rfl (HY.out.alloc _) ⟨_, 0, none⟩ 1 1 [.bool false, .int .i64 0, .int .i64 0] rfl rfl (World.news_of_block (heap_alloc_new w2 _)) (by simp [Value.oneCell']) (by decide) (by unfold maxLen; omega) (by omega) (by simp; omega) _ rfl ?_); intro g9 c9 w9 hown hgrow hor hlt9; have HOW := Lib.hid hown; have HGR := Lib.hid hgrow; have HOR := Lib.hid hor; have hb9 := whole_only HM2.out.blk (app_only HM2.out.r4 (by dsimp only; rw [HKN.out]; exact hgrow)) (by rw [HM2.out.r1]; decide); have q2' := hb9.cells 2 _ rfl; have f2' := hb9.free 2; have HAP := Lib.hid (HM2.out.app' (r := ⟨false, 0, 0⟩) HKN.out hown hgrow hor hlt9); clear hown hgrow hor hb9 HOW HGR HOR; dsimp only at q2'; rw [HKN.out] at q2')
        have HM3 := Lib.hid HAP.out.1
        have HS3 := Lib.hid (HS2.out.trans HAP.out.2)
        have hk3 : (rg ++ [(⟨false, 0, 0⟩ : Rgn)]).length = k + 1 := by rw [List.length_append, HKN.out]; rfl
        clear q2 f2 q2' f2' HAP HM2 HS2 HY hlt9 hg2
        generalize w9.setCell ⟨g, 2, none⟩ (.slice (some ⟨g9, 0, none⟩) (k + 1) c9) = w3 at *
        dsimp only at HM3
        have h1r : ∀ r : Rgn, ((rg ++ [(⟨false, 0, 0⟩ : Rgn)]).set k r)[k]? = some r := fun r => List.getElem?_set_self (by omega)
        have h2r : ∀ (r : Rgn) (i : Nat), i ≠ k → ((rg ++ [(⟨false, 0, 0⟩ : Rgn)]).set k r)[i]? = rg[i]? := fun r i hi => by
          have hkn := HKN.out
          rw [List.getElem?_set, if_neg (fun e => hi e.symm)]
          rcases Nat.lt_or_ge i k with q | q
          · rw [List.getElem?_append_left (by omega)]
          · rw [List.getElem?_eq_none (by rw [hk3]; omega), List.getElem?_eq_none (by omega)]
        have H1R := Lib.hid h1r
        have H2R := Lib.hid h2r
        have HK3 := Lib.hid hk3
        generalize rg ++ [(⟨false, 0, 0⟩ : Rgn)] = rg1 at *
        clear h1r h2r hk3
        obtain ⟨n1, hn1⟩ : ∃ n1, k + 1 = n1 := ⟨_, rfl⟩
        have hc1 : n1 ≤ c + 1 := by have := HKN.out; omega
        rw [hn1] at HK3
        generalize upd ρ g9 4 = ρ1 at *
        obtain ⟨gr, hgr⟩ : ∃ gr, g9 = gr := ⟨_, rfl⟩
        subst hgr
        obtain ⟨gr, hgr⟩ : ∃ gr, gr = g9 := ⟨_, rfl⟩
        subst hgr
        have hk1 : k < n1 := by omega
        have hg3 := HM3.out.lt.1
        have q2 := HM3.out.blk.cells 2 _ rfl
        have q3 := HM3.out.blk.cells 3 _ rfl
        have hcr3 := HM3.out.rcap
        dsimp only at q2 q3 hcr3
        rw [HK3.out] at q2 hcr3
        obtain ⟨r0, hr0⟩ : ∃ r, rg1[k]? = some r := ⟨_, List.getElem?_eq_getElem (by rw [HK3.out]; exact hk1)⟩
        obtain ⟨gr', e', _, hgr3, d0, d1, d2⟩ := rgn_cells HM3.out hr0
        injection e' with e'
        injection e' with e'
        subst e'
        have f0 := (own_freeK HM3.out.rgs (k * 3)).1
        have f1 := (own_freeK HM3.out.rgs (k * 3 + 1)).1
        have f2 := (own_freeK HM3.out.rgs (k * 3 + 2)).1
        have HM4 := Lib.hid (HM3.out.set (n := k) (by rw [HK3.out]; exact hk1) ⟨true, used, m⟩ rfl rfl)
        have HS4 : Hid (MemStay w (((w3.setCell ⟨gr, k * 3, none⟩ (.bool true)).setCell ⟨gr, k * 3 + 1, none⟩ (.int .i64 (used : Int))).setCell ⟨gr, k * 3 + 2, none⟩ (.int .i64 (m : Int))) ρ ρ1) := Lib.hid (HS3.out.trans (MemStay.only (((Only.cell (a := ⟨gr, k * 3, none⟩) (HM3.out.r4 gr rfl) _).trans (Only.cell (a := ⟨gr, k * 3 + 1, none⟩) (HM3.out.r4 gr rfl) _)).trans (Only.cell (a := ⟨gr, k * 3 + 2, none⟩) (HM3.out.r4 gr rfl) _)) (by decide)))
        have hkn : (k : Int) < (n1 : Int) := by omega
        clear hr0
        go_region
        have HM5 := Lib.hid (HM4.out.keep (Below.refl _ _).drew)
        have HS5 := Lib.hid (HS4.out.trans (MemStay.below (Below.refl _ _).drew))
        clear q2 q3 d0 d1 d2 f0 f1 f2 HM3 HS3 HM4 HS4 hg3 hgr3
        generalize (((w3.setCell ⟨gr, k * 3, none⟩ (.bool true)).setCell ⟨gr, k * 3 + 1, none⟩ (.int .i64 (used : Int))).setCell ⟨gr, k * 3 + 2, none⟩ (.int .i64 (m : Int))).drew = w5 at *
        have hg5 := HM5.out.lt.1
        have q3 := HM5.out.blk.cells 3 _ rfl
        have f3 := HM5.out.blk.free 3
        dsimp only at q3
        have HM6 := Lib.hid (HM5.out.used (k := used + m) (z := (used : Int) + (m : Int)) (by omega))
        have HS6 : Hid (MemStay w (w5.setCell ⟨g, 3, none⟩ (.int .i64 ((used : Int) + (m : Int)))) ρ ρ1) := Lib.hid (HS5.out.trans (MemStay.only (Only.cell (a := ⟨g, 3, none⟩) HM5.out.r1 _) (by decide)))
        dsimp only at HM6
        go_upto_region 8 with fail
        clear q3 f3 hg5 HM5 HS5
        generalize w5.setCell ⟨g, 3, none⟩ (.int .i64 ((used : Int) + (m : Int))) = w6 at *
        obtain ⟨off, hoff⟩ : ∃ off, (if m = 0 then 0 else used) = off := ⟨_, rfl⟩
        have HOF := Lib.hid hoff
        have HRE := mregion_any (k : Int) HM6.out (by rw [atR_some (H1R.out _)]; show used + m ≤ hp.length; omega) hl
        dsimp only at HRE
        rw [atR_some (H1R.out _)] at HRE
        have erv : regV gh ⟨true, used, m⟩ = .slice (some ⟨gh, off, none⟩) m m := by unfold regV; rw [if_pos rfl]; dsimp only; rw [hoff]
        rw [erv] at HRE
        have HRE := Lib.hid HRE
        clear hoff erv
        go_wp2_with (first
          | (go_at_call 11; (with_reducible refine HRE.out.mono ?_); rintro e w7 ⟨rfl, hb⟩; have HM7 := Lib.hid (HM6.out.keep hb); have HS7 := Lib.hid (HS6.out.trans (MemStay.below hb)); clear hb; have hcl := mclear (o := used) (m := m) HM7.out.hpw (by show used + m ≤ hp.length; omega) HOF.out)
          | (simp only [hcl]))
        go_ret2
        have hx8 := setCells_only HM7.out.r3 (i32V (zerosM m)) used w7
        have hw8 := setCells_whole (i32V (zerosM m)) used w7 (i32V hp) HM7.out.hpw (by rw [i32V_len, i32V_len, zerosM_len]; omega)
        rw [i32V_lay, zerosM_len] at hw8
        have HM8 := HM7.out.heaps (hp := hp.take used ++ (zerosM m ++ hp.drop (used + m))) hx8 (by dsimp only; rw [List.length_append, List.length_append, List.length_take, List.length_drop, zerosM_len]; omega) hw8
        exact give_pack HO.out (by omega) HG.out HA.out (H1R.out _) (H2R.out _) (by rw [List.length_set, HK3.out]; exact hc1) HM8 (HS7.out.trans (MemStay.only hx8 (by decide)))
      · have hk1' : k < rg.length := by omega
        have hk9 : k ≤ 999999 := by omega
        have hneq : ((k : Int) == (rg.length : Int)) = false := by simp; omega
        have HQ := HM2.out.row (by show 0 < rg.length; omega)
        obtain ⟨gr, rfl, _, _, _, hgr⟩ := HQ
        have H1R0 : Hid (∀ r : Rgn, (rg.set k r)[k]? = some r) := Lib.hid (fun r => List.getElem?_set_self hk1')
        have H2R0 : Hid (∀ (r : Rgn) (i : Nat), i ≠ k → (rg.set k r)[i]? = rg[i]?) := Lib.hid (fun r i hi => by rw [List.getElem?_set, if_neg (fun e => hi e.symm)])
        obtain ⟨n1, hn1⟩ : ∃ n1, rg.length = n1 := ⟨_, rfl⟩
        have HK3 := Lib.hid hn1
        rw [hn1] at q2 hcr2 hk1' hrg hneq
        have hc1 : n1 ≤ c + 1 := by omega
        clear hkn hkl hn1
        go_upto_region 6 with fail
        clear q2 f2 hneq
        obtain ⟨w3, hw3⟩ : ∃ w3, w3 = w2 := ⟨_, rfl⟩
        subst hw3
        obtain ⟨ρ1, hr1⟩ : ∃ ρ1, ρ1 = ρ := ⟨_, rfl⟩
        have HM3 : Hid (MemIn w3 B g gs gh ⟨st, hp, rg, used, k⟩ (some ⟨gr, 0, none⟩) cr ρ1) := Lib.hid (by rw [hr1]; exact HM2.out)
        have HS3 : Hid (MemStay w w3 ρ ρ1) := Lib.hid (by rw [hr1]; exact HS2.out)
        clear hr1 HM2 HS2
        obtain ⟨rg1, hg1⟩ : ∃ rg1, rg1 = rg := ⟨_, rfl⟩
        rw [← hg1] at HM3 HK3
        have H1R : Hid (∀ r : Rgn, (rg1.set k r)[k]? = some r) := Lib.hid (by rw [hg1]; exact H1R0.out)
        have H2R : Hid (∀ (r : Rgn) (i : Nat), i ≠ k → (rg1.set k r)[i]? = rg[i]?) := Lib.hid (by rw [hg1]; exact H2R0.out)
        clear H1R0 H2R0 hg1
        have hk1 : k < n1 := by omega
        have hg3 := HM3.out.lt.1
        have q2 := HM3.out.blk.cells 2 _ rfl
        have q3 := HM3.out.blk.cells 3 _ rfl
        have hcr3 := HM3.out.rcap
        dsimp only at q2 q3 hcr3
        rw [HK3.out] at q2 hcr3
        obtain ⟨r0, hr0⟩ : ∃ r, rg1[k]? = some r := ⟨_, List.getElem?_eq_getElem (by rw [HK3.out]; exact hk1)⟩
        obtain ⟨gr', e', _, hgr3, d0, d1, d2⟩ := rgn_cells HM3.out hr0
        injection e' with e'
        injection e' with e'
        subst e'
        have f0 := (own_freeK HM3.out.rgs (k * 3)).1
        have f1 := (own_freeK HM3.out.rgs (k * 3 + 1)).1
        have f2 := (own_freeK HM3.out.rgs (k * 3 + 2)).1
        have HM4 := Lib.hid (HM3.out.set (n := k) (by rw [HK3.out]; exact hk1) ⟨true, used, m⟩ rfl rfl)
        have HS4 : Hid (MemStay w (((w3.setCell ⟨gr, k * 3, none⟩ (.bool true)).setCell ⟨gr, k * 3 + 1, none⟩ (.int .i64 (used : Int))).setCell ⟨gr, k * 3 + 2, none⟩ (.int .i64 (m : Int))) ρ ρ1) := Lib.hid (HS3.out.trans (MemStay.only (((Only.cell (a := ⟨gr, k * 3, none⟩) (HM3.out.r4 gr rfl) _).trans (Only.cell (a := ⟨gr, k * 3 + 1, none⟩) (HM3.out.r4 gr rfl) _)).trans (Only.cell (a := ⟨gr, k * 3 + 2, none⟩) (HM3.out.r4 gr rfl) _)) (by decide)))
        have hkn : (k : Int) < (n1 : Int) := by omega
        clear hr0
        go_region
        have HM5 := Lib.hid (HM4.out.keep (Below.refl _ _).drew)
        have HS5 := Lib.hid (HS4.out.trans (MemStay.below (Below.refl _ _).drew))
        clear q2 q3 d0 d1 d2 f0 f1 f2 HM3 HS3 HM4 HS4 hg3 hgr3
        generalize (((w3.setCell ⟨gr, k * 3, none⟩ (.bool true)).setCell ⟨gr, k * 3 + 1, none⟩ (.int .i64 (used : Int))).setCell ⟨gr, k * 3 + 2, none⟩ (.int .i64 (m : Int))).drew = w5 at *
        have hg5 := HM5.out.lt.1
        have q3 := HM5.out.blk.cells 3 _ rfl
        have f3 := HM5.out.blk.free 3
        dsimp only at q3
        have HM6 := Lib.hid (HM5.out.used (k := used + m) (z := (used : Int) + (m : Int)) (by omega))
        have HS6 : Hid (MemStay w (w5.setCell ⟨g, 3, none⟩ (.int .i64 ((used : Int) + (m : Int)))) ρ ρ1) := Lib.hid (HS5.out.trans (MemStay.only (Only.cell (a := ⟨g, 3, none⟩) HM5.out.r1 _) (by decide)))
        dsimp only at HM6
        go_upto_region 8 with fail
        clear q3 f3 hg5 HM5 HS5
        generalize w5.setCell ⟨g, 3, none⟩ (.int .i64 ((used : Int) + (m : Int))) = w6 at *
        obtain ⟨off, hoff⟩ : ∃ off, (if m = 0 then 0 else used) = off := ⟨_, rfl⟩
        have HOF := Lib.hid hoff
        have HRE := mregion_any (k : Int) HM6.out (by rw [atR_some (H1R.out _)]; show used + m ≤ hp.length; omega) hl
        dsimp only at HRE
        rw [atR_some (H1R.out _)] at HRE
        have erv : regV gh ⟨true, used, m⟩ = .slice (some ⟨gh, off, none⟩) m m := by unfold regV; rw [if_pos rfl]; dsimp only; rw [hoff]
        rw [erv] at HRE
        have HRE := Lib.hid HRE
        clear hoff erv
        go_wp2_with (first
          | (go_at_call 11; (with_reducible refine HRE.out.mono ?_); rintro e w7 ⟨rfl, hb⟩; have HM7 := Lib.hid (HM6.out.keep hb); have HS7 := Lib.hid (HS6.out.trans (MemStay.below hb)); clear hb; have hcl := mclear (o := used) (m := m) HM7.out.hpw (by show used + m ≤ hp.length; omega) HOF.out)
          | (simp only [hcl]))
        go_ret2
        have hx8 := setCells_only HM7.out.r3 (i32V (zerosM m)) used w7
        have hw8 := setCells_whole (i32V (zerosM m)) used w7 (i32V hp) HM7.out.hpw (by rw [i32V_len, i32V_len, zerosM_len]; omega)
        rw [i32V_lay, zerosM_len] at hw8
        have HM8 := HM7.out.heaps (hp := hp.take used ++ (zerosM m ++ hp.drop (used + m))) hx8 (by dsimp only; rw [List.length_append, List.length_append, List.length_take, List.length_drop, zerosM_len]; omega) hw8
        exact give_pack HO.out (by omega) HG.out HA.out (H1R.out _) (H2R.out _) (by rw [List.length_set, HK3.out]; exact hc1) HM8 (HS7.out.trans (MemStay.only hx8 (by decide)))
    · have h1' : (S.hp.length : Int) - (S.used : Int) < n := by omega
      have HN1 := Lib.hid h1
      clear hM h1
      go_enter Try.func9, Try.ntmps9
      go_wp2_with (go_at_call 14; (with_reducible refine HRm.out.mono ?_); rintro e w1 ⟨rfl, hb⟩; have HB := Lib.hid hb; clear hb)
      go_ret2
      exact .inl ⟨by have := HU.out; have := HN1.out; omega, rfl, HB.out⟩
end
end Go.Proofs.Ytmjoollhkjgohaa
