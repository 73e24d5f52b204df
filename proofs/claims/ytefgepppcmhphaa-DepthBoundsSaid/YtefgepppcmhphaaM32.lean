/-
  What the document's own step (Step) comes to in range: J.
-/
import Derived.Test.YtefgepppcmhphaaM24
import Derived.Test.YtefgepppcmhphaaM13
import Derived.RegionTactic
import Derived.ChangeAlike
import Derived.Deep.RegionHeld3
import Derived.Deep.QuietTactic
import Derived.BigQuiet
import Derived.IntWalk
namespace Go.Proofs.Ytefgepppcmhphaa
set_option maxRecDepth 100000
set_option linter.unusedVariables false
set_option linter.unusedSimpArgs false
open Go.ChangeShapes Go.WideShapes Go.ChangeAt Go.RowKit

set_option maxHeartbeats 3200000 in
theorem rstep_J (m : Img) (x : Mth) (f pc : Nat) (op a b : Int) (st : List (Int × Int)) (A : Option Addr) (cap : Nat) (h : Hnd) (w : World) (H : ImgIn w w.heap.size h m) (hm : SaneI m)
    (hg : m.methods[f]? = some x) (hi : instrB op a b = true) (hn : namedB m x op a b = true) (hpc : x.code[pc]? = some (op, a, b)) (hst : SlcIs TyAt 2 w w.heap.size A cap st) (hs : st.length ≤ 4000) (H18 : Hid (op = 18)) :
    Calls Try.prog 31 #[imgV h m, .int .i64 f, .int .i64 pc, .slice A st.length cap] w (StepNew (stepIn m x pc op a b st) w) := by
  have hk : f < m.methods.length := (List.getElem?_eq_some_iff.mp hg).1
  have hx : m.methods[f] = x := (List.getElem?_eq_some_iff.mp hg).2
  have hpl : pc < x.code.length := (List.getElem?_eq_some_iff.mp hpc).1
  have hpi : x.code[pc] = (op, a, b) := (List.getElem?_eq_some_iff.mp hpc).2
  have hle := H.methods.le
  have hcap := H.methods.cap
  have slen := hst.le
  have scap := hst.cap
  have HRU := Lib.hid (fun W hW => rule_any m x f op a b h W hW hm hg hi hn)
  obtain ⟨o0, o1, a0, a1, b0, b1⟩ := instr_bounds hi
  have HW := Lib.hid (((Below.refl w.heap.size w).alloc (Nat.le_refl _) (imgO h m)))
  have HIM := Lib.hid (H.now HW.out)
  have HBX := Lib.hid (img_box w h m)
  have HZ : Hid (w.heap.size < (w.alloc (imgO h m)).heap.size) := Lib.hid (by simp)
  have HST := Lib.hid ((hst.below_to TyAt.keeps HW.out (Nat.le_refl _)).keep' TyAt.keeps HW.out.size (fun _ _ => rfl))
  have HCL : Hid (m.classes.length ≤ 1000) := Lib.hid (by have := hm.fits.cl; omega)
  have HCO : Hid (x.code.length ≤ 1048576) := Lib.hid (by have := (hm.method (List.mem_of_getElem? hg)).fits.cl; omega)
  clear H hg hi hn hst hm hpc
  go_enter Try.func31, Try.ntmps31
  go_upto_region 1 with fail
  generalize w.alloc (imgO h m) = w1 at *
  obtain ⟨q0, q1, q2, q3, q4, q5, q6⟩ := HBX.out
  obtain ⟨ad, hx', eA, hab, hin, hc⟩ := img_mth HIM.out hk
  rw [hx] at hin hc
  have ccap := hin.code.cap
  have cle := hin.code.le
  have hco := HCO.out
  obtain ⟨ac, eC, hac, i0, i1, i2⟩ := hin.code.row.at_ hpl
  rw [hpi] at i0 i1 i2
  dsimp only at i0 i1 i2
  have HMC := Lib.hid hc
  have HAB := Lib.hid (show (ad.add (f * 8)).block < w1.heap.size by rw [addr_add_block]; exact hab)
  have c4 := hc.c4
  have HEA := Lib.hid eA
  have HEC := Lib.hid eC
  rw [eA] at q3
  rw [eC] at c4
  clear hin hc eA eC hab
  have g0 : ¬ (f : Int) < 0 := by omega
  have g1 : ¬ (m.methods.length : Int) ≤ f := by omega
  have g2 : ¬ (pc : Int) < 0 := by omega
  have g3 : ¬ (x.code.length : Int) ≤ pc := by omega
  have hw1 : IntKind.i64.wrap ((pc : Int) + 1) = (pc : Int) + 1 := IntWalk.i64_in _ (by omega)
  go_upto_region 4 with fail
  have HINS := Lib.hid (cells_new w1 [.int .i64 op, .int .i64 a, .int .i64 b] 51)
  have HX := Lib.hid ((Below.refl w1.heap.size w1).alloc (Nat.le_refl _) (.cells #[.int .i64 op, .int .i64 a, .int .i64 b] 51))
  have HZ2 : Hid (w1.heap.size < (w1.alloc (.cells #[.int .i64 op, .int .i64 a, .int .i64 b] 51)).heap.size) := Lib.hid (by simp)
  clear q0 q1 q2 q3 q4 q5 q6 c4 i0 i1 i2
  change Code.wp _ _ _ _ (w1.alloc (.cells [Value.int .i64 op, .int .i64 a, .int .i64 b].toArray 51))
  generalize w1.alloc (.cells [Value.int .i64 op, .int .i64 a, .int .i64 b].toArray 51) = w2 at *
  have hs2 := HX.out.size
  have HW2 := Lib.hid (HW.out.trans (HX.out.mono HW.out.size))
  have HBX2 := Lib.hid (HBX.out.keep HX.out HZ.out)
  have HZB : Hid (w.heap.size < w2.heap.size) := Lib.hid (Nat.lt_of_lt_of_le HZ.out hs2)
  have HIM2 := Lib.hid (HIM.out.now HX.out)
  have HST2 := Lib.hid ((HST.out.below_to TyAt.keeps HX.out (Nat.le_refl _)).keep' TyAt.keeps HX.out.size (fun _ _ => rfl))
  have HMC2 := Lib.hid (HMC.out.keep HX.out HAB.out)
  have HAB2 : Hid ((ad.add (f * 8)).block < w2.heap.size) := Lib.hid (Nat.lt_of_lt_of_le HAB.out hs2)
  have HLT : Hid (w1.heap.size < w2.heap.size) := Lib.hid HZ2.out
  clear HBX HIM HST HMC HAB HZ hs2
  go_upto_region 5 with fail
  have HN3 := Lib.hid (cells_new w2 [.int .i64 ((pc : Int) + 1)] 3)
  have HY := Lib.hid ((Below.refl w2.heap.size w2).alloc (Nat.le_refl _) (.cells #[.int .i64 ((pc : Int) + 1)] 3))
  have HZ3 : Hid (w2.heap.size < (w2.alloc (.cells #[.int .i64 ((pc : Int) + 1)] 3)).heap.size) := Lib.hid (by simp)
  change Code.wp _ _ _ _ (w2.alloc (.cells [Value.int .i64 ((pc : Int) + 1)].toArray 3))
  have HZ2B : Hid (w2.heap.size ≤ (w2.alloc (.cells [Value.int .i64 ((pc : Int) + 1)].toArray 3)).heap.size) := Lib.hid (by simp)
  generalize w2.alloc (.cells [Value.int .i64 ((pc : Int) + 1)].toArray 3) = w2b at *
  have n0 := HN3.out 0 _ rfl
  have HNX : Hid (SlcIs IntAt 1 w2b w2b.heap.size (some ⟨w2.heap.size, 0, none⟩) 1 [(pc : Int) + 1]) := Lib.hid (int_one HZ3.out n0)
  obtain ⟨q0, q1, q2, q3, q4, q5, q6⟩ := HBX2.out.keep HY.out HZB.out
  rw [HEA.out] at q3
  have c4 := (HMC2.out.keep HY.out HAB2.out).c4
  rw [HEC.out] at c4
  have j0 := (HINS.out.keep HY.out HLT.out) 0 _ rfl
  have j1 := (HINS.out.keep HY.out HLT.out) 1 _ rfl
  have j2 := (HINS.out.keep HY.out HLT.out) 2 _ rfl
  have n6 : ¬ op = 6 := by rw [H18.out]; decide
  have b18 : (op == 18) = true := beq_iff_eq.mpr H18.out
  have en : nextOfOp pc op a = [a] := by rw [H18.out]; rfl
  have n19 : ¬ op = 19 := by rw [H18.out]; decide
  have n33 : ¬ op = 33 := by rw [H18.out]; decide
  go_upto_region 7 with fail
  clear HN3 HZ3 HNX
  have HN3 := Lib.hid (cells_new w2b [.int .i64 a] 3)
  have HY := Lib.hid (HY.out.alloc HY.out.size (.cells #[.int .i64 a] 3))
  have HZ3 : Hid (w2b.heap.size < (w2b.alloc (.cells #[.int .i64 a] 3)).heap.size) := Lib.hid (by simp)
  have h23 := HY.out.size
  change Code.wp _ _ _ _ (w2b.alloc (.cells [Value.int .i64 a].toArray 3))
  generalize w2b.alloc (.cells [Value.int .i64 a].toArray 3) = w3 at *
  have n0 := HN3.out 0 _ rfl
  have HNX : Hid (SlcIs IntAt 1 w3 w3.heap.size (some ⟨w2b.heap.size, 0, none⟩) 1 [a]) := Lib.hid (int_one HZ3.out n0)
  obtain ⟨q0, q1, q2, q3, q4, q5, q6⟩ := HBX2.out.keep HY.out HZB.out
  rw [HEA.out] at q3
  have c4 := (HMC2.out.keep HY.out HAB2.out).c4
  rw [HEC.out] at c4
  have j0 := (HINS.out.keep HY.out HLT.out) 0 _ rfl
  have j1 := (HINS.out.keep HY.out HLT.out) 1 _ rfl
  have j2 := (HINS.out.keep HY.out HLT.out) 2 _ rfl
  go_upto_region 11 with fail
  by_cases hov : (x.code.length : Int) ≤ a
  · have E0 := Lib.hid (step_over (m := m) (x := x) (b := b) (st := st) en hov)
    go_region_held3 (fun w' => w'.cell? ⟨w.heap.size, 3, none⟩ = some (.slice (some ad) m.methods.length h.c3) ∧ w'.cell? ⟨(ad.add (f * 8)).block, (ad.add (f * 8)).off + 4, none⟩ = some (.slice (some ac) x.code.length hx'.k4) ∧ w'.cell? ⟨w2b.heap.size, 0, none⟩ = some (.int .i64 (a))) (first | exact ⟨q3, c4, n0⟩) (first | fail)
    all_goals
      go_wp2_with fail
      go_ret3
      rw [E0.out]
      exact step_badN 4 (HW2.out.trans (HY.out.drew.mono HW2.out.size))
  have E0 := Lib.hid (step_tail (m := m) (x := x) (b := b) (st := st) (pc := (pc : Int)) (op := op) (a := a) (by rw [en]; simpa using hov) (fun q => n6 q.1))
  rw [show takes m x op a b st = takeOf m x op a b by unfold takes; rw [if_neg (fun q => n6 q.1)], show gives m x op a b st = giveOf m x op a b by unfold gives; rw [if_neg (fun q => n6 q.1)], en] at E0
  obtain ⟨nl, hnl⟩ : ∃ nl, [a] = nl := ⟨_, rfl⟩
  have hnll : nl.length = 1 := by rw [← hnl]; rfl
  have HNL := Lib.hid hnll
  go_region_held3 (fun w' => w'.cell? ⟨w.heap.size, 3, none⟩ = some (.slice (some ad) m.methods.length h.c3) ∧ w'.cell? ⟨(ad.add (f * 8)).block, (ad.add (f * 8)).off + 4, none⟩ = some (.slice (some ac) x.code.length hx'.k4) ∧ w'.cell? ⟨w2b.heap.size, 0, none⟩ = some (.int .i64 (a))) (first | exact ⟨q3, c4, n0⟩) (first | fail)
  rename_i hHeld
  clear hHeld
  have HY := Lib.hid HY.out.drew
  have HNX : Hid (SlcIs IntAt 1 w3.drew w3.drew.heap.size (some ⟨w2b.heap.size, 0, none⟩) 1 nl) := Lib.hid (hnl ▸ HNX.out.keep' IntAt.keeps (Nat.le_refl _) (fun _ _ => rfl))
  rw [hnl] at E0
  clear hnl
  generalize w3.drew = w4 at *
  clear q0 q1 q2 q3 q4 q5 q6 c4 j0 j1 j2 n0 HN3 HZ3
  obtain ⟨TK, hTK⟩ : ∃ TK, takeOf m x op a b = TK := ⟨_, rfl⟩
  obtain ⟨GV, hGV⟩ : ∃ GV, giveOf m x op a b = GV := ⟨_, rfl⟩
  have HGL : Hid (GV.length ≤ 2) := Lib.hid (by rw [← hGV]; exact giveOf_len m x op a b)
  rw [hTK, hGV] at HRU E0
  clear hTK hGV
  obtain ⟨q0, q1, q2, q3, q4, q5, q6⟩ := HBX2.out.keep HY.out HZB.out
  have j0 := (HINS.out.keep HY.out HLT.out) 0 _ rfl
  have j1 := (HINS.out.keep HY.out HLT.out) 1 _ rfl
  have j2 := (HINS.out.keep HY.out HLT.out) 2 _ rfl
  go_upto_region 14 with (first | (go_at_call 52; go_loud ((with_reducible refine (HRU.out _ (HIM2.out.now HY.out)).mono ?_); rintro e w5 ⟨At, ct, Ag, cg, rfl, hT, hG, hb⟩; have HT := Lib.hid hT; have HG := Lib.hid hG; have HNX := Lib.hid (HNX.out.keep' IntAt.keeps hb.size (fun _ hq => hb.cell hq)); have HY := Lib.hid (HY.out.trans (hb.mono HY.out.size)); clear hT hG hb; obtain ⟨q0, q1, q2, q3, q4, q5, q6⟩ := HBX2.out.keep HY.out HZB.out; have j0 := (HINS.out.keep HY.out HLT.out) 0 _ rfl; have j1 := (HINS.out.keep HY.out HLT.out) 1 _ rfl; have j2 := (HINS.out.keep HY.out HLT.out) 2 _ rfl)))
  have htl := HT.out.le
  have htc := HT.out.cap
  have hgl := HGL.out
  by_cases hs1 : st.length < TK.length
  · have E2 := Lib.hid (E0.out.trans (tail_short hs1))
    go_wp2_with fail
    go_ret3
    rw [E2.out]
    exact step_badN 4 (HW2.out.trans (HY.out.mono HW2.out.size))
  have hw2 : IntKind.i64.wrap ((st.length : Int) - (TK.length : Int)) = ((st.length - TK.length : Nat) : Int) := by rw [IntWalk.i64_in _ (by omega)]; omega
  obtain ⟨d, hd⟩ : ∃ d, st.length - TK.length = d := ⟨_, rfl⟩
  rw [hd] at hw2
  have hw3 : IntKind.i64.wrap ((d : Int) + (GV.length : Int)) = (d : Int) + (GV.length : Int) := IntWalk.i64_in _ (by omega)
  by_cases hs2 : 8 < d + GV.length
  · have E2 := Lib.hid (E0.out.trans (tail_high hd hs2))
    go_wp2_with fail
    go_ret3
    rw [E2.out]
    exact step_badN 4 (HW2.out.trans (HY.out.mono HW2.out.size))
  have E1 := Lib.hid (E0.out.trans (tail_on hd hs1 hs2))
  obtain ⟨Z, hZ⟩ : ∃ Z, (st.drop d).zip TK = Z := ⟨_, rfl⟩
  have hZl : Z.length = TK.length := by rw [← hZ, List.length_zip, List.length_drop]; omega
  have HZK : Hid (∀ k (h1 : d + k < st.length) (h2 : k < TK.length) (h3 : k < Z.length), Z[k] = (st[d + k], TK[k])) := Lib.hid (by subst hZ; intro k h1 h2 h3; simp)
  rw [hZ] at E1
  have HZl := Lib.hid hZl
  clear E0 hZ hZl
  have hdl : d + TK.length = st.length := by omega
  have hs8 : d ≤ 8 := by omega
  go_wp2_with fail
  go_loopw [17] (fun i wr => ∃ k : Nat, k ≤ TK.length ∧ i = .int .i64 k ∧ Hid (∀ p ∈ Z.take k, doesB (supsOf m.classes) op p.1 p.2 = true) ∧ Hid (Below w5.heap.size w5 wr)) (fun i _ => TK.length - (intOf i).toNat)
  case atStart => exact ⟨0, by omega, rfl, Lib.hid (by simp), Lib.hid (Below.refl _ _)⟩
  case round =>
    clear q0 q1 q2 q3 q4 q5 q6 j0 j1 j2
    obtain ⟨k, hk, rfl, HN, HX⟩ := hrel
    by_cases hlt : k < TK.length
    · have hkZ : k < Z.length := by rw [HZl.out]; exact hlt
      obtain ⟨j, hj⟩ : ∃ j, d + k = j := ⟨_, rfl⟩
      have hdk : j < st.length := by omega
      have hZk := HZK.out k (by omega) hlt hkZ
      simp only [hj] at hZk
      obtain ⟨ad1, rfl, hb1, s0, s1⟩ := HST2.out.row.at_ hdk
      obtain ⟨ad2, rfl, hb2, v0, v1⟩ := HT.out.row.at_ hlt
      have HXT := Lib.hid (HY.out.trans (HX.out.mono HY.out.size))
      have p0 := (HXT.out.cell (p := ad1.add (j * 2)) (by rw [addr_add_block]; exact hb1)).trans s0
      have p1 := (HXT.out.cell (p := off_ (ad1.add (j * 2)) 1) (by show (ad1.add (j * 2)).block < _; rw [addr_add_block]; exact hb1)).trans s1
      have r0 := (HX.out.cell (p := ad2.add (k * 2)) (by rw [addr_add_block]; exact hb2)).trans v0
      have r1 := (HX.out.cell (p := off_ (ad2.add (k * 2)) 1) (by show (ad2.add (k * 2)).block < _; rw [addr_add_block]; exact hb2)).trans v1
      have HNO := Lib.hid (fun g : (fun p : (Int × Int) × (Int × Int) => doesB (supsOf m.classes) op p.1 p.2) Z[k] = false => all_not (f := (fun p : (Int × Int) × (Int × Int) => doesB (supsOf m.classes) op p.1 p.2)) hkZ g)
      have HYE := Lib.hid (fun g : (fun p : (Int × Int) × (Int × Int) => doesB (supsOf m.classes) op p.1 p.2) Z[k] = true => all_take (f := (fun p : (Int × Int) × (Int × Int) => doesB (supsOf m.classes) op p.1 p.2)) hkZ HN.out g)
      rw [hZk] at HNO HYE
      clear hZk
      generalize st[j] = t at *
      generalize TK[k] = u at *
      obtain ⟨t0, t1⟩ := t
      obtain ⟨u0, u1⟩ := u
      dsimp only at p0 p1 r0 r1
      have hw4 : IntKind.i64.wrap ((d : Int) + (k : Int)) = (j : Int) := by rw [IntWalk.i64_in _ (by omega)]; omega
      clear s0 s1 v0 v1 hb1 hb2
      go_upto_region 23 with fail
      go_cut [18, 19] (fun s18 s19 wx => ∃ g g' : Nat, s18 = .pointer (some ⟨g, 0, none⟩) ∧ s19 = .pointer (some ⟨g', 0, none⟩) ∧ Hid (Cells wx g [.int .i64 t0, .int .i64 t1]) ∧ Hid (Cells wx g' [.int .i64 u0, .int .i64 u1]) ∧ Hid (Below wr.heap.size wr wx) ∧ Hid (g < wx.heap.size) ∧ Hid (g' < wx.heap.size))
      case first =>
        have e1 := World.new_ne wr _ p0
        have e2 := World.new_ne wr _ r0
        go_region_held3 (fun w' => w'.cell? (ad1.add (j * 2)) = some (.int .i64 t0) ∧ w'.cell? (off_ (ad1.add (j * 2)) 1) = some (.int .i64 t1) ∧ w'.cell? (ad2.add (k * 2)) = some (.int .i64 u0) ∧ w'.cell? (off_ (ad2.add (k * 2)) 1) = some (.int .i64 u1)) (go_keep) (first | fail)
        all_goals
          go_wp2_with fail
          go_meet
          first
            | exact ⟨_, _, rfl, rfl, Lib.hid (two_types wr 49 [.int .i64 t0, .int .i64 t1] [.int .i64 u0, .int .i64 u1]).1, Lib.hid (two_types wr 49 [.int .i64 t0, .int .i64 t1] [.int .i64 u0, .int .i64 u1]).2.1, Lib.hid (two_types wr 49 [.int .i64 t0, .int .i64 t1] [.int .i64 u0, .int .i64 u1]).2.2.1, Lib.hid (two_types wr 49 [.int .i64 t0, .int .i64 t1] [.int .i64 u0, .int .i64 u1]).2.2.2.1, Lib.hid (two_types wr 49 [.int .i64 t0, .int .i64 t1] [.int .i64 u0, .int .i64 u1]).2.2.2.2⟩
            | exact ⟨_, _, rfl, rfl, Lib.hid (two_types wr 49 [.int .i64 u0, .int .i64 u1] [.int .i64 t0, .int .i64 t1]).2.1, Lib.hid (two_types wr 49 [.int .i64 u0, .int .i64 u1] [.int .i64 t0, .int .i64 t1]).1, Lib.hid (two_types wr 49 [.int .i64 u0, .int .i64 u1] [.int .i64 t0, .int .i64 t1]).2.2.1, Lib.hid (two_types wr 49 [.int .i64 u0, .int .i64 u1] [.int .i64 t0, .int .i64 t1]).2.2.2.2, Lib.hid (two_types wr 49 [.int .i64 u0, .int .i64 u1] [.int .i64 t0, .int .i64 t1]).2.2.2.1⟩
      case rest =>
        obtain ⟨g, g', rfl, rfl, HCg, HCh, HXk, HGg, HGh⟩ := hcut
        have HX := Lib.hid (HX.out.trans (HXk.out.mono HX.out.size))
        have HXT := Lib.hid (HXT.out.trans (HXk.out.mono HXT.out.size))
        have HXc := Lib.hid (Below.refl wc.heap.size wc)
        clear HXk p0 p1 r0 r1
        have ku0 := HCg.out 0 _ rfl
        have ku1 := HCg.out 1 _ rfl
        have kv0 := HCh.out 0 _ rfl
        have kv1 := HCh.out 1 _ rfl
        obtain ⟨q0, q1, q2, q3, q4, q5, q6⟩ := HBX2.out.keep HXT.out HZB.out
        have j0 := (HINS.out.keep HXT.out HLT.out) 0 _ rfl
        by_cases hu0 : u0 = 0
        · subst hu0
          have HR2 := Lib.hid (HYE.out does_any)
          go_wp2_with fail
          go_roundw
          case rel => exact ⟨k + 1, by omega, by go_num, HR2, HX⟩
          case measure => simp [intOf]; omega
        have bu0 : (u0 == 0) = false := beq_eq_false_iff_ne.mpr hu0
        obtain ⟨r, hr⟩ : ∃ r, doesB (supsOf m.classes) op (t0, t1) (u0, u1) = r := ⟨_, rfl⟩
        by_cases hu4 : u0 = 4
        · subst hu4
          have HD := Lib.hid (does_ref.symm.trans hr)
          obtain ⟨z, hz⟩ : ∃ z, isRefB t0 = z := ⟨_, rfl⟩
          have HZR := Lib.hid hz
          cases z
          · have E2 := Lib.hid (E1.out.trans (if_neg (by rw [HNO.out (does_ref.trans (by rw [hz]; rfl))]; decide)))
            clear hz hr HD
            go_wp2_with (first | (go_at_call 53; (with_reducible refine (ref_is HZR).mono ?_); rintro e w' ⟨rfl, hb⟩; have HX := Lib.hid (HX.out.trans (hb.mono HX.out.size)); have HXT := Lib.hid (HXT.out.trans (hb.mono HXT.out.size)); have ku0 := (HCg.out.keep hb HGg.out) 0 _ rfl; have j0 := (HINS.out.keep HXT.out HLT.out) 0 _ rfl; clear hb))
            go_ret3
            rw [E2.out]
            exact step_badN 4 (HW2.out.trans ((HY.out.trans (HX.out.mono HY.out.size)).mono HW2.out.size))
          · by_cases h34 : op = 34
            · by_cases ht2 : t0 = 2
              · have E2 := Lib.hid (E1.out.trans (if_neg (by rw [HNO.out (does_ref.trans (by rw [h34, ht2]; rfl))]; decide)))
                clear hz hr HD
                have b34 : (op == 34) = true := beq_iff_eq.mpr h34
                have bt2 : (t0 == 2) = true := beq_iff_eq.mpr ht2
                clear h34 ht2
                go_wp2_with (first | (go_at_call 53; (with_reducible refine (ref_is HZR).mono ?_); rintro e w' ⟨rfl, hb⟩; have HX := Lib.hid (HX.out.trans (hb.mono HX.out.size)); have HXT := Lib.hid (HXT.out.trans (hb.mono HXT.out.size)); have ku0 := (HCg.out.keep hb HGg.out) 0 _ rfl; have j0 := (HINS.out.keep HXT.out HLT.out) 0 _ rfl; clear hb))
                go_ret3
                rw [E2.out]
                exact step_badN 4 (HW2.out.trans ((HY.out.trans (HX.out.mono HY.out.size)).mono HW2.out.size))
              · have HR2 := Lib.hid (HYE.out (does_ref.trans (by rw [hz, decide_eq_false ht2, Bool.and_false]; rfl)))
                clear hz hr HD
                have b34 : (op == 34) = true := beq_iff_eq.mpr h34
                have bt2 : (t0 == 2) = false := beq_eq_false_iff_ne.mpr ht2
                clear h34
                go_wp2_with (first | (go_at_call 53; (with_reducible refine (ref_is HZR).mono ?_); rintro e w' ⟨rfl, hb⟩; have HX := Lib.hid (HX.out.trans (hb.mono HX.out.size)); have HXT := Lib.hid (HXT.out.trans (hb.mono HXT.out.size)); have ku0 := (HCg.out.keep hb HGg.out) 0 _ rfl; have j0 := (HINS.out.keep HXT.out HLT.out) 0 _ rfl; clear hb))
                go_roundw
                case rel => exact ⟨k + 1, by omega, by go_num, HR2, HX⟩
                case measure => simp [intOf]; omega
            · have HR2 := Lib.hid (HYE.out (does_ref.trans (by rw [hz, decide_eq_false h34, Bool.false_and]; rfl)))
              clear hz hr HD
              have b34 : (op == 34) = false := beq_eq_false_iff_ne.mpr h34
              go_wp2_with (first | (go_at_call 53; (with_reducible refine (ref_is HZR).mono ?_); rintro e w' ⟨rfl, hb⟩; have HX := Lib.hid (HX.out.trans (hb.mono HX.out.size)); have HXT := Lib.hid (HXT.out.trans (hb.mono HXT.out.size)); have ku0 := (HCg.out.keep hb HGg.out) 0 _ rfl; have j0 := (HINS.out.keep HXT.out HLT.out) 0 _ rfl; clear hb))
              go_roundw
              case rel => exact ⟨k + 1, by omega, by go_num, HR2, HX⟩
              case measure => simp [intOf]; omega
        · have bu4 : (u0 == 4) = false := beq_eq_false_iff_ne.mpr hu4
          have HD := Lib.hid ((does_sub hu0 hu4).symm.trans hr)
          cases r
          · have E2 := Lib.hid (E1.out.trans (if_neg (by rw [HNO.out hr]; decide)))
            clear hr
            go_wp2_with (first | (go_at_call 50; (with_reducible refine (sub_any_is HIM2 HXT HCL HD).mono ?_); rintro e w' ⟨rfl, hb⟩; have HX := Lib.hid (HX.out.trans (hb.mono HX.out.size)); clear hb))
            go_ret3
            rw [E2.out]
            exact step_badN 4 (HW2.out.trans ((HY.out.trans (HX.out.mono HY.out.size)).mono HW2.out.size))
          · have HR2 := Lib.hid (HYE.out hr)
            clear hr
            go_wp2_with (first | (go_at_call 50; (with_reducible refine (sub_any_is HIM2 HXT HCL HD).mono ?_); rintro e w' ⟨rfl, hb⟩; have HX := Lib.hid (HX.out.trans (hb.mono HX.out.size)); clear hb))
            go_roundw
            case rel => exact ⟨k + 1, by omega, by go_num, HR2, HX⟩
            case measure => simp [intOf]; omega
    · obtain rfl : k = TK.length := by omega
      obtain ⟨q0, q1, q2, q3, q4, q5, q6⟩ := HBX2.out.keep (HY.out.trans (HX.out.mono HY.out.size)) HZB.out
      have E2 := Lib.hid (E1.out.trans (if_pos (all_end HN.out (by rw [HZl.out]; exact Nat.le_refl _))))
      obtain ⟨i0, hi, hz0, hz1, hz2⟩ := info_partsK info_type
      have HXT := Lib.hid (HY.out.trans (HX.out.mono HY.out.size))
      have HB0 := Lib.hid ((Below.refl wr.heap.size wr).alloc (Nat.le_refl _) (.cells #[] 49))
      have HO0 := Lib.hid (own_emptyK wr 49 2)
      have HA := Lib.hid (((tys_lie (HST2.out.row.take_ d)).below_to (HXT.out.trans (HB0.out.mono HXT.out.size)) (Nat.le_refl _)) : Lies (wr.alloc (.cells #[] 49)) w2.heap.size A (tysV (st.take d)))
      have htd : (st.take d).length = d := by rw [List.length_take]; omega
      have hdc : d ≤ cap := by omega
      have HE := Lib.hid E2.out
      rcases A with _ | ad0
      · have hst0 : st.length = 0 := Nat.eq_zero_of_not_pos fun q => by obtain ⟨_, e, _⟩ := HST2.out.row.at_ q; exact absurd e (by simp)
        obtain rfl : st = [] := List.eq_nil_of_length_eq_zero hst0
        obtain rfl : d = 0 := by omega
        go_wp2_with (first
          | (at_builtin; refine append_liesK rfl _ _ 23 rfl wr.heap.size 49 i0 (.agg #[.int .i64 0, .int .i64 0]) 2 16 Try.underlying23 hi hz0 hz1 hz2 rfl (by decide) _ 0 [] rfl HO0.out none 0 _ _ (tysV (([] : List (Int × Int)).take 0)) rfl rfl HA.out (tysV_one _) (by unfold maxLen; omega) (by omega) HB0.out.size ?_; intro v6 w6 hO6 hG6; have HB6 := Lib.hid (appK_more HB0.out HO0.out HB0.out.size hG6); have HO6 := Lib.hid hO6; have HG6 := Lib.hid (((tys_lie HG.out.row).below_to (HX.out.trans (HB6.out.mono HX.out.size)) (Nat.le_refl _)) : Lies w6 w5.heap.size Ag (tysV GV)); clear hO6 hG6)
          | (at_builtin; refine append_liesK rfl _ _ 23 rfl wr.heap.size 49 i0 (.agg #[.int .i64 0, .int .i64 0]) 2 16 Try.underlying23 hi hz0 hz1 hz2 rfl (by decide) _ (0 + 0) ([] ++ tysV (([] : List (Int × Int)).take 0)) rfl HO6.out Ag GV.length cg _ (tysV GV) (tysV_len _) rfl HG6.out (tysV_one _) (by unfold maxLen; omega) (by omega) HB6.out.size ?_; intro v7 w7 hO7 hG7; have HB7 := Lib.hid (appK_more HB6.out HO6.out HB6.out.size hG7); have HO7 := Lib.hid hO7; clear hO7 hG7))
        have hO : w7.ownsRow wr.heap.size 49 2 v7 (([] : List (Int × Int)).take 0 ++ GV).length (tysV (([] : List (Int × Int)).take 0 ++ GV)) := by
          have := HO7.out
          rw [List.length_append]
          unfold tysV at this ⊢
          rw [List.flatMap_append]
          simpa using this
        obtain ⟨A7, c7, rfl, hS, _⟩ := own_types hO
        go_ret3
        rw [HE.out]
        have hB := HY.out.trans ((HX.out.trans (HB7.out.mono HX.out.size)).mono HY.out.size)
        refine ⟨A7, c7, some ⟨w2b.heap.size, 0, none⟩, 1, ?_, hS, HNX.out.keep' IntAt.keeps (Nat.le_trans HX.out.size HB7.out.size) (fun q hq => ((HX.out.trans (HB7.out.mono HX.out.size)).cell hq)), HW2.out.trans (hB.mono HW2.out.size), new_at (Nat.le_trans HW2.out.size HZ2B.out)⟩
        show _ = Ending.returned (.tuple #[.slice A7 (([] : List (Int × Int)).take 0 ++ GV).length c7, .slice (some ⟨w2b.heap.size, 0, none⟩) nl.length 1, .int .i64 0])
        rw [HNL.out]
        rfl
      · go_wp2_with (first
          | (at_builtin; refine append_liesK rfl _ _ 23 rfl wr.heap.size 49 i0 (.agg #[.int .i64 0, .int .i64 0]) 2 16 Try.underlying23 hi hz0 hz1 hz2 rfl (by decide) _ 0 [] rfl HO0.out (some ad0) d cap _ (tysV (st.take d)) (by rw [tysV_len, htd]) rfl HA.out (tysV_one _) (by unfold maxLen; omega) (by omega) HB0.out.size ?_; intro v6 w6 hO6 hG6; have HB6 := Lib.hid (appK_more HB0.out HO0.out HB0.out.size hG6); have HO6 := Lib.hid hO6; have HG6 := Lib.hid (((tys_lie HG.out.row).below_to (HX.out.trans (HB6.out.mono HX.out.size)) (Nat.le_refl _)) : Lies w6 w5.heap.size Ag (tysV GV)); clear hO6 hG6)
          | (at_builtin; refine append_liesK rfl _ _ 23 rfl wr.heap.size 49 i0 (.agg #[.int .i64 0, .int .i64 0]) 2 16 Try.underlying23 hi hz0 hz1 hz2 rfl (by decide) _ (0 + d) ([] ++ tysV (st.take d)) rfl HO6.out Ag GV.length cg _ (tysV GV) (tysV_len _) rfl HG6.out (tysV_one _) (by unfold maxLen; omega) (by omega) HB6.out.size ?_; intro v7 w7 hO7 hG7; have HB7 := Lib.hid (appK_more HB6.out HO6.out HB6.out.size hG7); have HO7 := Lib.hid hO7; clear hO7 hG7))
        have hO : w7.ownsRow wr.heap.size 49 2 v7 (st.take d ++ GV).length (tysV (st.take d ++ GV)) := by
          have := HO7.out
          rw [List.length_append, htd]
          unfold tysV at this ⊢
          rw [List.flatMap_append]
          simpa using this
        obtain ⟨A7, c7, rfl, hS, _⟩ := own_types hO
        go_ret3
        rw [HE.out]
        have hB := HY.out.trans ((HX.out.trans (HB7.out.mono HX.out.size)).mono HY.out.size)
        refine ⟨A7, c7, some ⟨w2b.heap.size, 0, none⟩, 1, ?_, hS, HNX.out.keep' IntAt.keeps (Nat.le_trans HX.out.size HB7.out.size) (fun q hq => ((HX.out.trans (HB7.out.mono HX.out.size)).cell hq)), HW2.out.trans (hB.mono HW2.out.size), new_at (Nat.le_trans HW2.out.size HZ2B.out)⟩
        show _ = Ending.returned (.tuple #[.slice A7 (st.take d ++ GV).length c7, .slice (some ⟨w2b.heap.size, 0, none⟩) nl.length 1, .int .i64 0])
        rw [HNL.out]
        rfl

end Go.Proofs.Ytefgepppcmhphaa
