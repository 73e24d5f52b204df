/-
  A region goes: what stands behind it moves to the front (Drop).
-/
import Derived.Test.YtmjoollhkjgohaaMemGive
import Derived.Laws.CopyOwn
import Derived.Deep.RegionHeldLaw
namespace Go.Proofs.Ytmjoollhkjgohaa
set_option maxRecDepth 100000
set_option linter.unusedVariables false
set_option linter.unusedSimpArgs false
open Go.ChangeShapes Go.WideShapes Go.ChangeAt Go.RowKit
set_option linter.unusedVariables false
set_option linter.unusedSimpArgs false

/-- copy into a row that is known whole, as one step of a region: no other block changes. -/
theorem step_copy_only {P : Program} {ops : Array Oper} {o : Oper} {a : Act} {w : World} {K : Act → World → Prop} {Q : Exit → Act → World → Prop} {E : Prop} (hgd : o.guard = none) (d s : Operand) (dT sT : TypeId)
    (ho : o.op = .call { callee := .builtin .copy, args := #[d, s], argTypes := #[dT, sT] }) (elem : TypeId) (hu : P.underlying dT = some (.slice elem)) (hsz : (P.info? elem).map (·.size) = some 1)
    (dp sp : Option Addr) (dLen dCap sLen sCap : Nat) (hd : a.eval d = .slice dp dLen dCap) (hs : a.eval s = .slice sp sLen sCap)
    (g off : Nat) (cur : List Value) (t : TypeId) (hg : Whole w g cur t) (cs : List Value) (hn : cs.length = Nat.min sLen dLen)
    (hpos : 0 < cs.length → dp = some ⟨g, off, none⟩ ∧ ∃ ad, sp = some ad ∧ ∀ j v, cs[j]? = some v → w.cell? (ad.add j) = some v)
    (hfit : off + cs.length ≤ cur.length) (h1 : ∀ v ∈ cs, v.oneCell' = true) (ρ : Nat → Nat) (r : Nat) (hr : ρ g = r)
    (h : ∀ w', RowKit.Hid (Whole w' g (cur.take off ++ (cs ++ cur.drop (off + cs.length))) t) → RowKit.Hid (Only w w' ρ r) → K (a.put o.dst (goInt cs.length)) w') :
    if Region.wanted o (yielded ops a.tmps) = true then Oper.wp P o a w K Q else E := by
  have hw : Region.wanted o (yielded ops a.tmps) = true := by simp [Region.wanted, hgd]
  rw [if_pos hw]
  by_cases h0 : cs.length = 0
  · obtain rfl : cs = [] := List.eq_nil_of_length_eq_zero h0
    have hrun := run_copy_none (P := P) w dT sT o.type elem dp sp dLen dCap sLen sCap hu hsz (by simpa using hn.symm)
    unfold Oper.wp
    simp [execOp, ho, resolve, invoke, builtin, hd, hs, hrun, Result.andThen]
    exact h w (show Whole _ _ _ _ by simpa using hg) (show Only _ _ _ _ from Only.refl)
  · obtain ⟨rfl, ad, rfl, hsrc⟩ := hpos (by omega)
    have hrun := run_copy_row (P := P) w dT sT o.type elem g off dLen dCap ad sLen sCap cur.toArray t cs hu hsz hg hn hsrc (by simpa using hfit) h1
    unfold Oper.wp
    simp [execOp, ho, resolve, invoke, builtin, hd, hs, hrun, Result.andThen]
    exact h _ (show Whole _ _ _ _ by unfold Whole; simpa using setRow_heap w g _ _ t _ hg) (show Only _ _ _ _ from ⟨rfl, rfl, rfl, by simp [World.setRow], fun b hb hne => setRow_other w g b _ (fun e => hne (by rw [e]; exact hr))⟩)
theorem OrdM.atR_has {S : Ara} {L : List (Nat × List Int)} (h : OrdM S L) {k n : Nat} {c : List Int} (hk : L[k]? = some (n, c)) : atR S.rg (n : Int) = ⟨true, posR L k, c.length⟩ := atR_some (h.at_ k n c hk)
theorem OrdM.atR_not {S : Ara} {L : List (Nat × List Int)} (h : OrdM S L) {n : Int} (hn : ¬ ∃ i : Nat, n = (i : Int) ∧ hasR L i) : atR S.rg n = ⟨false, 0, 0⟩ := by
  by_cases h0 : n < 0 ∨ (S.rg.length : Int) ≤ n
  · exact atR_none h0
  · obtain ⟨i, rfl⟩ := Int.eq_ofNat_of_zero_le (show 0 ≤ n by omega)
    exact atR_some (h.none_ (fun q => hn ⟨i, rfl, q⟩) (by omega))
theorem Only.look {w w' : World} {ρ : Nat → Nat} {r : Nat} (h : Only w w' ρ r) {p : Addr} (hr : ρ p.block ≠ r) (hlt : p.block < w.heap.size) : w'.cell? p = w.cell? p := by
  have e := h.block p.block hlt hr
  simp [World.cell?, e]
theorem Only.undrew {w w' : World} {ρ : Nat → Nat} {r : Nat} (h : Only w.drew w' ρ r) : Only w w' ρ r := ⟨h.os, h.tape, h.output, h.size, h.block⟩
theorem hO_at {S : Ara} {L : List (Nat × List Int)} (h : OrdM S L) {k n : Nat} {c : List Int} (hk : L[k]? = some (n, c)) : S.rg[n]? = some ⟨true, posR L k, c.length⟩ := h.at_ k n c hk
theorem copy_src {w : World} {gh o k : Nat} {hp : List Int} {T : TypeId} (h : Whole w gh (i32V hp) T) : ∀ (j : Nat) (v : Value), (i32V ((hp.drop o).take k))[j]? = some v → w.cell? ((⟨gh, o, none⟩ : Addr).add j) = some v := fun j v hj => by
  have e : (⟨gh, o, none⟩ : Addr).add j = ⟨gh, o + j, none⟩ := by unfold Addr.add; split <;> simp_all
  rw [e]
  refine h.cells (o + j) v ?_
  unfold i32V at hj ⊢
  rw [List.map_take, List.map_drop, List.getElem?_take] at hj
  split at hj
  · rw [List.getElem?_drop] at hj
    exact hj
  · cases hj
section
variable {w : World} {B g gs gh cr : Nat} {S : Ara} {Ar : Option Addr} {ρ : Nat → Nat}
/-- What dropping does. -/
def DropOut (B g gs gh : Nat) (ρ : Nat → Nat) (st : List Int) (nh : Nat) (L : List (Nat × List Int)) (c : Nat) (n : Int) (w : World) (e : Ending) (w' : World) : Prop :=
  ((¬ ∃ i : Nat, n = (i : Int) ∧ hasR L i) ∧ e = .returned (.bool false) ∧ Below w.heap.size w w') ∨
  ∃ (k i : Nat) (d : List Int), n = (i : Int) ∧ L[k]? = some (i, d) ∧ e = .returned (.bool true) ∧ MemIs w' B g gs gh ρ st nh (L.eraseIdx k) c ∧ MemStay w w' ρ ρ
theorem mdrop_nil (n : Int) (w : World) : Calls Try.prog 10 #[.pointer none, .int .i64 n] w fun e w' => e = .returned (.bool false) ∧ Below w.heap.size w w' := by
  have HAt := Lib.hid (mat_nil n w)
  go_enter Try.func10, Try.ntmps10
  go_wp2_with (go_at_call 20; (with_reducible refine HAt.out.mono ?_); rintro e w1 ⟨rfl, hb⟩; have HB1 := Lib.hid hb; clear hb)
  go_ret
  exact ⟨rfl, HB1.out.alloc HB1.out.size _⟩
theorem mgive_nil (n : Int) (w : World) : Calls Try.prog 9 #[.pointer none, .int .i64 n] w fun e w' => e = .returned (.tuple #[.int .i64 0, .bool false]) ∧ Below w.heap.size w w' := by
  go_enter Try.func9, Try.ntmps9
  go_wp2_with fail
  go_ret2
  exact ⟨rfl, Below.refl _ _⟩
set_option maxHeartbeats 3200000 in
theorem mdrop_any {st : List Int} {nh c : Nat} {L : List (Nat × List Int)} (n : Int) (h : MemIs w B g gs gh ρ st nh L c) (hl : nh ≤ 65536) (hc : c ≤ 999999) :
    Calls Try.prog 10 #[.pointer (some ⟨g, 0, none⟩), .int .i64 n] w (DropOut B g gs gh ρ st nh L c n w) := by
  obtain ⟨S, Ar, cr, hM, hO, rfl, rfl, hrg⟩ := h
  by_cases hh : ∃ i : Nat, n = (i : Int) ∧ hasR L i
  · obtain ⟨i, rfl, k, d, hk⟩ := hh
    have hu := hO.used_le
    have HAt := mat_any (i : Int) hM
    rw [hO.atR_has hk] at HAt
    have HAt := Lib.hid HAt
    have hple := posR_le hk
    rw [← hO.used] at hple
    have hil := hO.id_lt ⟨k, d, hk⟩
    have hll := hO.least_le
    have HO := Lib.hid hO
    have HKD := Lib.hid hk
    have HM := Lib.hid hM
    obtain ⟨p, hp⟩ : ∃ p, posR L k = p := ⟨_, rfl⟩
    obtain ⟨m, hm⟩ : ∃ m, d.length = m := ⟨_, rfl⟩
    have HP := Lib.hid hp
    have HD := Lib.hid hm
    rw [hp, hm] at HAt hple
    obtain ⟨st, hp', rg, used, least⟩ := S
    dsimp only at hu hple hil hll hrg hl
    clear hM hO hk hp hm
    go_enter Try.func10, Try.ntmps10
    go_upto_region 4 with (go_at_call 20; (with_reducible refine HAt.out.mono ?_); rintro e w1 ⟨rfl, hb⟩; have HB1 := Lib.hid hb; have HM1 := Lib.hid (HM.out.keep hb); clear hb)
    have HM2 := Lib.hid (HM1.out.keep ((Below.refl _ _).alloc (Nat.le_refl _) (.cells #[.bool true, .int .i64 (p : Int), .int .i64 (m : Int)] 49)))
    have HS2 := Lib.hid (MemStay.below (ρ := ρ) (HB1.out.alloc HB1.out.size (.cells #[.bool true, .int .i64 (p : Int), .int .i64 (m : Int)] 49)))
    have HN2 : Hid (Whole (w1.alloc (.cells #[.bool true, .int .i64 (p : Int), .int .i64 (m : Int)] 49)) w1.heap.size [.bool true, .int .i64 (p : Int), .int .i64 (m : Int)] 49) := Lib.hid (Whole.new _ _ _)
    have hN0 := HM1.out.new w1.heap.size (Nat.le_refl _)
    clear HAt HM HM1 HB1
    generalize w1.alloc (.cells #[.bool true, .int .i64 (p : Int), .int .i64 (m : Int)] 49) = w2 at *
    generalize w1.heap.size = N at *
    have HN0 := Lib.hid hN0
    clear hN0
    go_cut [] from 14 (fun wx => Hid (MemIn wx B g gs gh ⟨st, hp'.take p ++ ((hp'.drop (p + m)).take (used - (p + m)) ++ hp'.drop (p + (used - (p + m)))), rg, used, least⟩ Ar cr ρ) ∧ Hid (Whole wx N [.bool true, .int .i64 (p : Int), .int .i64 (m : Int)] 49) ∧ Hid (MemStay w wx ρ ρ))
    case first =>
      have hN2 := Whole.lt HN2.out
      have hg2 := HM2.out.lt.1
      have q1 := HM2.out.blk.cells 1 _ rfl
      have q3 := HM2.out.blk.cells 3 _ rfl
      have n1 := HN2.out.cells 1 _ rfl
      have n2 := HN2.out.cells 2 _ rfl
      dsimp only at q1 q3
      have HCS : Hid (((hp'.drop (p + m)).take (used - (p + m))).length = used - (p + m)) := Lib.hid (by rw [List.length_take, List.length_drop]; omega)
      have HLN := Lib.hid (show hp'.length = hp'.length from rfl)
      obtain ⟨nh, hnh⟩ : ∃ nh, hp'.length = nh := ⟨_, rfl⟩
      have HNH := Lib.hid hnh
      rw [hnh] at q1 hl hu
      clear hnh HLN
      have hpn : p ≤ nh := by omega
      have hpmn : p + m ≤ nh := by omega
      obtain ⟨pm, hpm⟩ : ∃ pm, p + m = pm := ⟨_, rfl⟩
      have hwr : IntKind.i64.wrap ((p : Int) + (m : Int)) = (pm : Int) := by rw [IntWalk.i64_in _ ⟨by omega, by omega⟩]; omega
      have HPM := Lib.hid hpm
      rw [hpm] at hple hpmn HCS
      have HN1 : Hid ((i32V ((hp'.drop pm).take (used - pm))).length = Nat.min (used - pm) (nh - p)) := Lib.hid (by rw [i32V_len, HCS.out]; show used - pm = min (used - pm) (nh - p); omega)
      have HFT : Hid (p + (i32V ((hp'.drop pm).take (used - pm))).length ≤ (i32V hp').length) := Lib.hid (by rw [i32V_len, i32V_len, HCS.out, HNH.out]; omega)
      clear hpm
      have R1 : Hid (ρ g ≠ 3) := Lib.hid (by rw [HM2.out.r1]; decide)
      have RN : Hid (ρ N ≠ 3) := Lib.hid (by rw [HN0.out]; decide)
      have HEND : Hid (∀ w4, Whole w4 gh ((i32V hp').take p ++ (i32V ((hp'.drop pm).take (used - pm)) ++ (i32V hp').drop (p + (i32V ((hp'.drop pm).take (used - pm))).length))) 21 → Only w2 w4 ρ 3 → Hid (MemIn w4 B g gs gh ⟨st, hp'.take p ++ ((hp'.drop (p + m)).take (used - (p + m)) ++ hp'.drop (p + (used - (p + m)))), rg, used, least⟩ Ar cr ρ) ∧ Hid (Whole w4 N [.bool true, .int .i64 (p : Int), .int .i64 (m : Int)] 49) ∧ Hid (MemStay w w4 ρ ρ)) := Lib.hid (fun w4 hw ho => by
        have e := HCS.out
        have hpm := HPM.out
        rw [i32V_lay, e] at hw
        refine ⟨Lib.hid ?_, Lib.hid (whole_only HN2.out ho RN.out), Lib.hid (HS2.out.trans (MemStay.only ho (by decide)))⟩
        rw [HPM.out]
        exact HM2.out.heaps ho (by dsimp only; rw [List.length_append, List.length_append, List.length_take, List.length_drop, e, HNH.out]; omega) hw)
      by_cases h1 : nh = p
      · have hpm := HPM.out
        have h6 : used = nh := by omega
        have h7 : pm = nh := by omega
        clear hpm
        have HL0 : Hid ((i32V ((hp'.drop pm).take (used - pm))).length = 0) := Lib.hid (by rw [i32V_len, HCS.out]; omega)
        have HL1 : Hid (∀ a b : Nat, a = 0 → (i32V ((hp'.drop pm).take (used - pm))).length = Nat.min a b) := Lib.hid (fun a b h => by rw [HL0.out, h]; exact (Nat.zero_min b).symm)
        have h5 : nh - p = 0 := by omega
        have h8 : used - pm = 0 := by omega
        go_region_held_law (fun w' => w'.cell? ⟨g, 1, none⟩ = some (.slice (some ⟨gh, 0, none⟩) nh nh) ∧ w'.cell? ⟨g, 3, none⟩ = some (.int .i64 (used : Int)) ∧ w'.cell? ⟨N, 1, none⟩ = some (.int .i64 (p : Int)) ∧ w'.cell? ⟨N, 2, none⟩ = some (.int .i64 (m : Int))) (first | exact ⟨q1, q3, n1, n2⟩ | exact ⟨(ho4.out.look R1.out hg2).trans q1, (ho4.out.look R1.out hg2).trans q3, (ho4.out.look RN.out hN2).trans n1, (ho4.out.look RN.out hN2).trans n2⟩) (first | (refine step_copy_only rfl (.tmp 22) (.tmp 36) 29 29 rfl 21 Try.underlying29 (by kernel_rfl) _ _ _ _ _ _ rfl rfl gh p (i32V hp') 21 HM2.out.hpw (i32V ((hp'.drop pm).take (used - pm))) (HL1.out _ _ (by first | rfl | omega | simp)) (fun h0 => absurd h0 (by rw [HL0.out]; omega)) HFT.out (i32V_one _) ρ 3 HM2.out.r3 ?_; intro w4 hw4 ho4))
        all_goals
          go_wp2_with fail
          go_meet
          exact HEND.out w4 hw4.out ho4.out.undrew
      · by_cases h2 : nh = pm
        · have h5 : ¬ p = nh := by omega
          have h8 : used - pm = 0 := by omega
          have HL0 : Hid ((i32V ((hp'.drop pm).take (used - pm))).length = 0) := Lib.hid (by rw [i32V_len, HCS.out]; omega)
          have HL1 : Hid (∀ a b : Nat, a = 0 → (i32V ((hp'.drop pm).take (used - pm))).length = Nat.min a b) := Lib.hid (fun a b h => by rw [HL0.out, h]; exact (Nat.zero_min b).symm)
          go_region_held_law (fun w' => w'.cell? ⟨g, 1, none⟩ = some (.slice (some ⟨gh, 0, none⟩) nh nh) ∧ w'.cell? ⟨g, 3, none⟩ = some (.int .i64 (used : Int)) ∧ w'.cell? ⟨N, 1, none⟩ = some (.int .i64 (p : Int)) ∧ w'.cell? ⟨N, 2, none⟩ = some (.int .i64 (m : Int))) (first | exact ⟨q1, q3, n1, n2⟩ | exact ⟨(ho4.out.look R1.out hg2).trans q1, (ho4.out.look R1.out hg2).trans q3, (ho4.out.look RN.out hN2).trans n1, (ho4.out.look RN.out hN2).trans n2⟩) (first | (refine step_copy_only rfl (.tmp 22) (.tmp 36) 29 29 rfl 21 Try.underlying29 (by kernel_rfl) _ _ _ _ _ _ rfl rfl gh p (i32V hp') 21 HM2.out.hpw (i32V ((hp'.drop pm).take (used - pm))) (HL1.out _ _ (by first | rfl | omega | simp)) (fun h0 => absurd h0 (by rw [HL0.out]; omega)) HFT.out (i32V_one _) ρ 3 HM2.out.r3 ?_; intro w4 hw4 ho4))
          all_goals
            go_wp2_with fail
            go_meet
            exact HEND.out w4 hw4.out ho4.out.undrew
        · have h3 : pm < nh := by omega
          have h4 : ¬ pm = nh := by omega
          have h5 : ¬ p = nh := by omega
          go_region_held_law (fun w' => w'.cell? ⟨g, 1, none⟩ = some (.slice (some ⟨gh, 0, none⟩) nh nh) ∧ w'.cell? ⟨g, 3, none⟩ = some (.int .i64 (used : Int)) ∧ w'.cell? ⟨N, 1, none⟩ = some (.int .i64 (p : Int)) ∧ w'.cell? ⟨N, 2, none⟩ = some (.int .i64 (m : Int))) (first | exact ⟨q1, q3, n1, n2⟩ | exact ⟨(ho4.out.look R1.out hg2).trans q1, (ho4.out.look R1.out hg2).trans q3, (ho4.out.look RN.out hN2).trans n1, (ho4.out.look RN.out hN2).trans n2⟩) (first | (refine step_copy_only rfl (.tmp 22) (.tmp 36) 29 29 rfl 21 Try.underlying29 (by kernel_rfl) _ _ _ _ _ _ rfl rfl gh p (i32V hp') 21 HM2.out.hpw (i32V ((hp'.drop pm).take (used - pm))) HN1.out (fun _ => ⟨rfl, _, rfl, copy_src HM2.out.hpw⟩) HFT.out (i32V_one _) ρ 3 HM2.out.r3 ?_; intro w4 hw4 ho4))
          all_goals
            go_wp2_with fail
            go_meet
            exact HEND.out w4 hw4.out ho4.out.undrew
    case rest =>
      clear HM2 HN2 HS2
      obtain ⟨HM4, HN4, HS4⟩ := hcut
      obtain ⟨hq, hhq⟩ : ∃ hq, hp'.take p ++ ((hp'.drop (p + m)).take (used - (p + m)) ++ hp'.drop (p + (used - (p + m)))) = hq := ⟨_, rfl⟩
      rw [hhq] at HM4
      have HQL : Hid (hq.length = hp'.length) := Lib.hid (by rw [← hhq, List.length_append, List.length_append, List.length_take, List.length_take, List.length_drop, List.length_drop]; omega)
      have HQE := Lib.hid hhq
      clear hhq
      have q3 := HM4.out.blk.cells 3 _ rfl
      have f3 := HM4.out.blk.free 3
      have n2 := HN4.out.cells 2 _ rfl
      have hg4 := HM4.out.lt.1
      have hN4 := Whole.lt HN4.out
      dsimp only at q3
      have hum : m ≤ used := by omega
      have HM5 := Lib.hid ((HM4.out.used (k := used - m) (z := (used : Int) - (m : Int)) (by omega)).keep (Below.refl _ _).drew)
      have hX5 : Only wc (wc.setCell ⟨g, 3, none⟩ (.int .i64 ((used : Int) - (m : Int)))) ρ 1 := Only.cell (a := ⟨g, 3, none⟩) HM4.out.r1 _
      have HS5 := Lib.hid ((HS4.out.trans (MemStay.only hX5 (by decide))).trans (MemStay.below (ρ := ρ) (Below.refl _ _).drew))
      have HN5 : Hid (Whole (wc.setCell ⟨g, 3, none⟩ (.int .i64 ((used : Int) - (m : Int)))).drew N [.bool true, .int .i64 (p : Int), .int .i64 (m : Int)] 49) := Lib.hid (by have := whole_only HN4.out hX5 (by rw [HN0.out]; decide); exact this)
      dsimp only at HM5
      go_wp2_with fail
      go_region
      clear q3 f3 n2 hg4 hN4 HM4 HN4 HS4 hX5
      generalize (wc.setCell ⟨g, 3, none⟩ (.int .i64 ((used : Int) - (m : Int)))).drew = w5 at *
      obtain ⟨gr, rfl, _, _, h4r, hgr⟩ := HM5.out.row (by show 0 < rg.length; omega)
      have hg5 := HM5.out.lt.1
      have q2 := HM5.out.blk.cells 2 _ rfl
      have hcr5 := HM5.out.rcap
      dsimp only at q2 hcr5
      obtain ⟨len, hlen⟩ : ∃ len, rg.length = len := ⟨_, rfl⟩
      have HLE := Lib.hid hlen
      obtain ⟨gr', e', _, _, d0, d1, d2⟩ := rgn_cells HM5.out (hO_at HO.out HKD.out)
      injection e' with e'
      injection e' with e'
      subst e'
      have f0 := (own_freeK HM5.out.rgs (i * 3)).1
      have f1 := (own_freeK HM5.out.rgs (i * 3 + 1)).1
      have f2 := (own_freeK HM5.out.rgs (i * 3 + 2)).1
      rw [hlen] at q2 hcr5 hil hll hrg
      clear hlen
      have hil' : (i : Int) < (len : Int) := by omega
      go_upto_region 7 with fail
      have HM6 := Lib.hid (HM5.out.set (n := i) (by show i < rg.length; rw [HLE.out]; exact hil) ⟨false, 0, 0⟩ (zp := 0) (zc := 0) rfl rfl)
      have hX6 : Only w5 (((w5.setCell ⟨gr, i * 3, none⟩ (.bool false)).setCell ⟨gr, i * 3 + 1, none⟩ (.int .i64 0)).setCell ⟨gr, i * 3 + 2, none⟩ (.int .i64 0)) ρ 4 := ((Only.cell (a := ⟨gr, i * 3, none⟩) h4r _).trans (Only.cell (a := ⟨gr, i * 3 + 1, none⟩) h4r _)).trans (Only.cell (a := ⟨gr, i * 3 + 2, none⟩) h4r _)
      have HS6 := Lib.hid (HS5.out.trans (MemStay.only hX6 (by decide)))
      have HN6 := Lib.hid (whole_only HN5.out hX6 (by rw [HN0.out]; decide))
      dsimp only at HM6
      clear q2 d0 d1 d2 f0 f1 f2 HM5 HS5 HN5 hX6 hg5 hgr
      generalize ((w5.setCell ⟨gr, i * 3, none⟩ (.bool false)).setCell ⟨gr, i * 3 + 1, none⟩ (.int .i64 0)).setCell ⟨gr, i * 3 + 2, none⟩ (.int .i64 0) = w6 at *
      have hg6 := HM6.out.lt.1
      have q4 := HM6.out.blk.cells 4 _ rfl
      have f4 := HM6.out.blk.free 4
      dsimp only at q4
      go_cut [] from 14 (fun wx => Hid (MemIn wx B g gs gh ⟨st, hq, rg.set i ⟨false, 0, 0⟩, used - m, min least i⟩ (some ⟨gr, 0, none⟩) cr ρ) ∧ Hid (Whole wx N [.bool true, .int .i64 (p : Int), .int .i64 (m : Int)] 49) ∧ Hid (MemStay w wx ρ ρ))
      case first =>
        have HE : Hid (∀ z : Int, z = ((min least i : Nat) : Int) → Hid (MemIn (w6.setCell ⟨g, 4, none⟩ (.int .i64 z)) B g gs gh ⟨st, hq, rg.set i ⟨false, 0, 0⟩, used - m, min least i⟩ (some ⟨gr, 0, none⟩) cr ρ) ∧ Hid (Whole (w6.setCell ⟨g, 4, none⟩ (.int .i64 z)) N [.bool true, .int .i64 (p : Int), .int .i64 (m : Int)] 49) ∧ Hid (MemStay w (w6.setCell ⟨g, 4, none⟩ (.int .i64 z)) ρ ρ)) := Lib.hid (fun z hz => by
          have hx : Only w6 (w6.setCell ⟨g, 4, none⟩ (.int .i64 z)) ρ 1 := Only.cell (a := ⟨g, 4, none⟩) HM6.out.r1 _
          exact ⟨Lib.hid (HM6.out.least hz), Lib.hid (whole_only HN6.out hx (by rw [HN0.out]; decide)), Lib.hid (HS6.out.trans (MemStay.only hx (by decide)))⟩)
        by_cases hli : i < least
        · have hli' : (i : Int) < (least : Int) := by omega
          go_wp2_with fail
          go_meet
          exact HE.out _ (by rw [Nat.min_eq_right (by omega)])
        · have hli' : ¬ (i : Int) < (least : Int) := by omega
          go_wp2_with fail
          go_meet
          exact HE.out _ (by rw [Nat.min_eq_left (by omega)])
      case rest =>
        clear HM6 HN6 HS6 q4 f4 hg6
        obtain ⟨HM7, HN7, HS7⟩ := hcut
        have q2 := HM7.out.blk.cells 2 _ rfl
        dsimp only at q2
        rw [List.length_set, HLE.out] at q2
        obtain ⟨rgs, hrgs⟩ : ∃ rgs, rg.set i ⟨false, 0, 0⟩ = rgs := ⟨_, rfl⟩
        rw [hrgs] at HM7
        have HRS := Lib.hid hrgs
        have HRL : Hid (rgs.length = len) := Lib.hid (by rw [← hrgs, List.length_set, HLE.out])
        have HFR : Hid (∀ (j : Nat) (r : Rgn), rgs[j]? = some r → r.place ≤ 65536 ∧ (p < r.place → m ≤ r.place)) := Lib.hid (fun j r hj => by
          rw [← hrgs, List.getElem?_set] at hj
          split at hj
          · split at hj
            · injection hj with hj
              subst hj
              exact ⟨Nat.zero_le _, fun q => absurd q (Nat.not_lt_zero _)⟩
            · cases hj
          · have hf := HO.out.fit hj
            have hfa := HO.out.far HKD.out hj
            rw [HP.out, HD.out] at hfa
            dsimp only at hf
            exact ⟨by omega, fun q => by have := hfa q; omega⟩)
        clear hrgs
        go_wp2_with fail
        clear q2
        have HST : Hid (∃ j, j + len = len ∧ (0 : Int) = (j : Int) ∧ MemIn wc B g gs gh ⟨st, hq, doneR p m rgs j, used - m, min least i⟩ (some ⟨gr, 0, none⟩) cr ρ ∧ Whole wc N [.bool true, .int .i64 (p : Int), .int .i64 (m : Int)] 49 ∧ MemStay w wc ρ ρ) := Lib.hid ⟨0, by omega, rfl, HM7.out, HN7.out, HS7.out⟩
        clear HM7 HN7 HS7
        go_loopg [68] len (fun gk s68 wr => ∃ j : Nat, j + gk = len ∧ s68 = .int .i64 (j : Int) ∧ Hid (MemIn wr B g gs gh ⟨st, hq, doneR p m rgs j, used - m, min least i⟩ (some ⟨gr, 0, none⟩) cr ρ) ∧ Hid (Whole wr N [.bool true, .int .i64 (p : Int), .int .i64 (m : Int)] 49) ∧ Hid (MemStay w wr ρ ρ))
        case atStart =>
          obtain ⟨j, h1, h2, h3, h4, h5⟩ := HST.out
          exact ⟨j, h1, by rw [h2], Lib.hid h3, Lib.hid h4, Lib.hid h5⟩
        case round =>
          clear HST
          obtain ⟨j, hj, rfl, HM8, HN8, HS8⟩ := hrel
          rcases Nat.eq_zero_or_pos gk with rfl | hpos
          · have hjl : ¬ (j : Int) < (len : Int) := by omega
            obtain rfl : j = len := by omega
            go_wp2_with fail
            go_ret
            have hd := HO.out.drop HKD.out
            rw [HP.out, HD.out] at hd
            dsimp only at hd
            rw [HQE.out, HRS.out, ← doneR_all, HRL.out] at hd
            exact .inr ⟨k, i, d, rfl, HKD.out, rfl, ⟨_, _, _, HM8.out, hd, rfl, HQL.out, by rw [doneR_len, HRL.out]; exact hrg⟩, HS8.out⟩
          · obtain ⟨gk, rfl⟩ : ∃ z, gk = z + 1 := ⟨gk - 1, by omega⟩
            have hjl : (j : Int) < (len : Int) := by omega
            have hjl2 : j < rgs.length := by rw [HRL.out]; omega
            obtain ⟨⟨th, rp, rc⟩, hr⟩ : ∃ r, rgs[j]? = some r := ⟨_, List.getElem?_eq_getElem hjl2⟩
            obtain ⟨hr1, hr2⟩ := HFR.out j _ hr
            dsimp only at hr1 hr2
            have hg8 := HM8.out.lt.1
            have hN8 := Whole.lt HN8.out
            have q2 := HM8.out.blk.cells 2 _ rfl
            dsimp only at q2
            rw [doneR_len, HRL.out] at q2
            have hdr : (doneR p m rgs j)[j]? = some ⟨th, rp, rc⟩ := doneR_at hr
            obtain ⟨gr', e', h4r, hgr, _, d1, _⟩ := rgn_cells HM8.out hdr
            injection e' with e'
            injection e' with e'
            subst e'
            have f1 := (own_freeK HM8.out.rgs (j * 3 + 1)).1
            have n1 := HN8.out.cells 1 _ rfl
            have n2 := HN8.out.cells 2 _ rfl
            dsimp only at d1
            have HDR := Lib.hid hdr
            have HSU := Lib.hid (doneR_succ (p := p) (m := m) hr)
            clear hr hdr
            go_wp2_with fail
            go_region
            by_cases hpr : p < rp
            · have hpr' : (p : Int) < (rp : Int) := by omega
              have hmr := hr2 hpr
              have hbk : Hid (backR p m ⟨th, rp, rc⟩ = ⟨th, rp - m, rc⟩) := Lib.hid (by unfold backR; rw [if_pos hpr])
              have HM9 := HM8.out.place HDR.out (p := rp - m) (zp := (rp : Int) - (m : Int)) (by omega)
              have hX9 : Only wr (wr.setCell ⟨gr, j * 3 + 1, none⟩ (.int .i64 ((rp : Int) - (m : Int)))) ρ 4 := Only.cell (a := ⟨gr, j * 3 + 1, none⟩) h4r _
              have HN9 := whole_only HN8.out hX9 (by rw [HN0.out]; decide)
              have HS9 := HS8.out.trans (MemStay.only hX9 (by decide))
              dsimp only at HM9
              rw [← hbk.out, ← HSU.out] at HM9
              have HM9 := Lib.hid (HM9.keep (Below.refl _ _).drew.drew)
              have HN9 := Lib.hid HN9
              have HS9 := Lib.hid (HS9.trans (MemStay.below (ρ := ρ) (Below.refl _ _).drew.drew))
              clear hr2 hX9
              go_wp2_with fail
              go_region
              go_wp2_with fail
              go_roundg gk
              case rel => exact ⟨j + 1, by omega, by first | rfl | simp, HM9, Lib.hid HN9.out, HS9⟩
              case measure => omega
            · have hpr' : ¬ (p : Int) < (rp : Int) := by omega
              have hbk : backR p m ⟨th, rp, rc⟩ = ⟨th, rp, rc⟩ := by unfold backR; rw [if_neg hpr]
              have hse := HSU.out
              rw [hbk, set_self HDR.out] at hse
              clear hr2 hbk
              go_wp2_with fail
              go_roundg gk
              case rel => exact ⟨j + 1, by omega, by first | rfl | simp, Lib.hid (by rw [hse]; exact HM8.out.keep (Below.refl _ _).drew), Lib.hid HN8.out, Lib.hid (HS8.out.trans (MemStay.below (ρ := ρ) (Below.refl _ _).drew))⟩
              case measure => omega
  · have HAt := mat_any n hM
    rw [hO.atR_not hh] at HAt
    have HAt := Lib.hid HAt
    have HH := Lib.hid hh
    clear hM hO hh
    go_enter Try.func10, Try.ntmps10
    go_wp2_with (go_at_call 20; (with_reducible refine HAt.out.mono ?_); rintro e w1 ⟨rfl, hb⟩; have HB1 := Lib.hid hb; clear hb)
    go_ret
    exact .inl ⟨HH.out, rfl, HB1.out.alloc HB1.out.size _⟩
end
end Go.Proofs.Ytmjoollhkjgohaa
