/-
  The statement that what is written into one region is in no other one, nor in the stack (MemApart), walked.
-/
import Derived.Test.YtmjoollhkjgohaaMemSizesL
namespace Go.Proofs.Ytmjoollhkjgohaa
set_option maxRecDepth 100000
set_option linter.unusedVariables false
set_option linter.unusedSimpArgs false
open Go.ChangeShapes Go.WideShapes Go.ChangeAt Go.RowKit
set_option linter.unusedVariables false
set_option linter.unusedSimpArgs false

theorem info_intM : (Try.prog.info? 3).map (fun i => (i.zero, i.size, i.bytes)) = some (some (.int .i64 0), 1, 8) := by kernel_rfl
theorem mod_inM {a : Int} {n : Nat} (h0 : 0 ≤ a) (hn : 0 < n) : ∃ k, k < n ∧ a % (n : Int) = (k : Int) ∧ a.tmod (n : Int) = (k : Int) :=
  ⟨a.toNat % n, Nat.mod_lt _ hn, by rw [Int.natCast_emod, Int.toNat_of_nonneg h0], by rw [Int.tmod_eq_emod_of_nonneg h0, Int.natCast_emod, Int.toNat_of_nonneg h0]⟩
/-- How great a region is, and the first so many regions. -/
def sizeN (z : List Int) (j : Nat) : Nat := (z[j]?.getD 0).toNat
theorem sizeN_le {z : List Int} (hz : ∀ x ∈ z, 0 ≤ x ∧ x ≤ 255) (k : Nat) : sizeN z k ≤ 255 := by
  unfold sizeN
  cases e : z[k]? with
  | none => exact Nat.zero_le _
  | some x =>
    have := hz x (List.mem_of_getElem? e)
    show x.toNat ≤ 255
    omega
def sizesL (z : List Int) (k : Nat) : List (Nat × List Int) := (List.range k).map fun j => (j, zerosM (sizeN z j))
theorem sizesL_len (z : List Int) (k : Nat) : (sizesL z k).length = k := by unfold sizesL; simp
theorem sizesL_succ (z : List Int) (k : Nat) : sizesL z (k + 1) = sizesL z k ++ [(k, zerosM (sizeN z k))] := by unfold sizesL; rw [List.range_succ, List.map_append]; rfl
theorem sizesL_at {z : List Int} {k j : Nat} (h : j < k) : (sizesL z k)[j]? = some (j, zerosM (sizeN z j)) := by unfold sizesL; rw [List.getElem?_map, List.getElem?_range h]; rfl
theorem sizesL_has (z : List Int) (k m : Nat) : hasR (sizesL z k) m ↔ m < k := by
  induction k with
  | zero => exact ⟨fun q => absurd q (hasR_nil m), fun q => absurd q (Nat.not_lt_zero m)⟩
  | succ k ih =>
    rw [sizesL_succ, hasR_snoc, ih]
    omega
theorem sizesL_flat {z : List Int} (hz : ∀ x ∈ z, 0 ≤ x ∧ x ≤ 255) (k : Nat) : (flatR (sizesL z k)).length ≤ 255 * k := by
  induction k with
  | zero => exact Nat.zero_le _
  | succ k ih =>
    rw [sizesL_succ, flatR_app, flatR_one, List.length_append]
    have : (zerosM (sizeN z k)).length ≤ 255 := by rw [zerosM_len]; exact sizeN_le hz k
    dsimp only
    omega
/-- A region of which the first so many cells are written. -/
def fillM (s j : Nat) (v : Int) : List Int := List.replicate j v ++ zerosM (s - j)
theorem fillM_len {s j : Nat} (v : Int) (h : j ≤ s) : (fillM s j v).length = s := by unfold fillM; rw [List.length_append, List.length_replicate, zerosM_len]; omega
theorem fillM_zero (s : Nat) (v : Int) : fillM s 0 v = zerosM s := rfl
theorem fillM_all (s : Nat) (v : Int) : fillM s s v = List.replicate s v := by unfold fillM zerosM; rw [Nat.sub_self]; simp
theorem fillM_set {s j : Nat} (v : Int) (h : j < s) : (fillM s j v).set j v = fillM s (j + 1) v := by
  refine List.ext_getElem? fun i => ?_
  unfold fillM zerosM
  simp only [List.getElem?_set, List.getElem?_append, List.length_append, List.length_replicate, List.getElem?_replicate]
  repeat' split
  all_goals first | rfl | omega
def idV (k : Nat) : List Value := (List.range k).map fun j : Nat => Value.int .i64 (j : Int)
theorem idV_succ (k : Nat) : idV (k + 1) = idV k ++ [.int .i64 (k : Int)] := by unfold idV; rw [List.range_succ, List.map_append]; rfl
theorem idV_at {k j : Nat} (h : j < k) : (idV k)[j]? = some (.int .i64 (j : Int)) := by unfold idV; rw [List.getElem?_map, List.getElem?_range h]; rfl
theorem own_empty1 (w : World) (B : Nat) (T : TypeId) (k : Nat) (hB : B ≤ w.heap.size) : (w.alloc (.cells #[] T)).ownsRow B T k (.slice (some ⟨w.heap.size, 0, none⟩) 0 0) 0 [] :=
  ⟨by simp, .inr ⟨w.heap.size, 0, #[], rfl, hB, heap_alloc_new _ _, Nat.le_refl _, by unfold maxLen; omega, by simp, by simp⟩⟩
theorem own_role {q n c r : Nat} {ρ : Nat → Nat} (h : ρ q = r) : ∀ b, (Value.slice (some ⟨q, 0, none⟩) n c).ownBlock = some b → ρ b = r := fun b hb => by
  have : q = b := by simpa [Value.ownBlock] using hb
  rw [← this]
  exact h
set_option maxHeartbeats 6400000 in
theorem memApart_any (z : List Int) (a v : Int) (A : Option Addr) (cap : Nat) (w : World) (hz : Lies w w.heap.size A (z.map (Value.int .u8))) (hzr : ∀ x ∈ z, 0 ≤ x ∧ x ≤ 255) (hzl : z.length ≤ 9223372036854775807) (ha0 : 0 ≤ a) (ha1 : a ≤ 255) (hv0 : -2147483648 ≤ v) (hv1 : v ≤ 2147483647) :
    Calls Try.prog 6 #[.slice A z.length cap, .int .u8 a, .int .i32 v] w fun e w' => e = .returned (.bool true) ∧ Below w.heap.size w w' := by
  obtain ⟨i0, hi, hz0, hz1, hz2⟩ := info_parts info_intM
  have hN := mnew_is 20 3000 w
  rw [show manyM 20 = 20 from rfl, show manyM 3000 = 3000 from rfl] at hN
  have HN := Lib.hid hN
  have HZ := Lib.hid hz
  have HZR := Lib.hid hzr
  obtain ⟨n, hn⟩ : ∃ n, z.length = n := ⟨_, rfl⟩
  have HZN := Lib.hid hn
  rw [hn] at hzl ⊢
  clear hN hz hzr hn
  go_enter Try.func6, Try.ntmps6
  go_upto_region 2 with (go_at_call 8; (with_reducible refine HN.out.mono ?_); rintro e w1 ⟨g, gs, gh, ρ, rfl, hM, hb⟩; have HM := Lib.hid hM; have HX := Lib.hid hb; clear hM hb)
  go_upto_region 3 with fail
  have HO : Hid ((w1.alloc (.cells #[] 3)).ownsRow w.heap.size 3 1 (.slice (some ⟨w1.heap.size, 0, none⟩) 0 0) 0 (idV 0)) := Lib.hid (own_empty1 _ _ _ _ HX.out.size)
  have HM1 := Lib.hid (HM.out.keep ((Below.refl _ _).alloc (Nat.le_refl _) (.cells #[] 3)))
  have HX1 := Lib.hid (HX.out.alloc HX.out.size (.cells #[] 3))
  have HR1 : Hid (ρ w1.heap.size = 0) := Lib.hid (HM.out.low.2.1 _ (Nat.le_refl _))
  clear HN HM HX
  generalize w1.alloc (.cells #[] 3) = w2 at *
  generalize w1.heap.size = q at *
  obtain ⟨m, hm⟩ : ∃ m, min n 10 = m := ⟨_, rfl⟩
  have HST : Hid (∃ (k : Nat) (ρ' : Nat → Nat), k + m = m ∧ (0 : Int) = (k : Int) ∧ MemIs w2 w.heap.size g gs gh ρ' (zerosM 20) 3000 (sizesL z k) k ∧ w2.ownsRow w.heap.size 3 1 (.slice (some ⟨q, 0, none⟩) 0 0) k (idV k) ∧ ρ' q = 0 ∧ Below w.heap.size w w2) := Lib.hid ⟨0, ρ, by omega, rfl, HM1.out, HO.out, HR1.out, HX1.out⟩
  clear HO HM1 HX1 HR1
  iterate 7 go_step
  go_cut [8] from 20 (fun s8 wx => ∃ ρ' : Nat → Nat, Hid (MemIs wx w.heap.size g gs gh ρ' (zerosM 20) 3000 (sizesL z m) m) ∧ Hid (wx.ownsRow w.heap.size 3 1 s8 m (idV m)) ∧ Hid (∀ b, s8.ownBlock = some b → ρ' b = 0) ∧ Hid (Below w.heap.size w wx))
  case first =>
    go_wp2_with fail
    go_loopg [8, 9] m (fun gk s8 s9 wr => ∃ (k : Nat) (ρ' : Nat → Nat), k + gk = m ∧ s9 = .int .i64 (k : Int) ∧ Hid (MemIs wr w.heap.size g gs gh ρ' (zerosM 20) 3000 (sizesL z k) k) ∧ Hid (wr.ownsRow w.heap.size 3 1 s8 k (idV k)) ∧ Hid (∀ b, s8.ownBlock = some b → ρ' b = 0) ∧ Hid (Below w.heap.size w wr))
    case atStart =>
      obtain ⟨k, ρ', h1, h2, h3, h4, h5, h6⟩ := HST.out
      exact ⟨k, ρ', h1, by rw [h2], Lib.hid h3, Lib.hid h4, Lib.hid (own_role h5), Lib.hid h6⟩
    case round =>
      clear HST
      obtain ⟨k, ρ', hk, rfl, HM, HO, HR, HX⟩ := hrel
      rcases Nat.eq_zero_or_pos gk with rfl | hpos
      · obtain rfl : k = m := by omega
        by_cases hkn : k < n
        · have hkn' : (k : Int) < (n : Int) := by omega
          have hk10 : ¬ (k : Int) < 10 := by omega
          go_wp2_with fail
          go_meet
          exact ⟨ρ', HM, HO, HR, HX⟩
        · have hkn' : ¬ (k : Int) < (n : Int) := by omega
          go_wp2_with fail
          go_meet
          exact ⟨ρ', HM, HO, HR, HX⟩
      · obtain ⟨gk, rfl⟩ : ∃ y, gk = y + 1 := ⟨gk - 1, by omega⟩
        have hk1 : k < n := by omega
        have hk2 : k < 10 := by omega
        have hk1' : (k : Int) < (n : Int) := by omega
        have hk2' : (k : Int) < 10 := by omega
        obtain ⟨x, hx⟩ : ∃ x, z[k]? = some x := ⟨_, List.getElem?_eq_getElem (by rw [HZN.out]; exact hk1)⟩
        have hxr := HZR.out x (List.mem_of_getElem? hx)
        obtain ⟨s, rfl⟩ : ∃ s : Nat, x = (s : Int) := ⟨x.toNat, by omega⟩
        have hsz : sizeN z k = s := by unfold sizeN; rw [hx]; rfl
        obtain ⟨ad, rfl, hab, hc⟩ := HZ.out k (.int .u8 (s : Int)) (by rw [List.getElem?_map, hx]; rfl)
        have hc := (HX.out.cell (p := ad.add k) (by rw [addr_add_block]; exact hab)).trans hc
        have hfl := sizesL_flat HZR.out k
        have HG := mgive_next s (k := k) HM.out (by decide) (by omega) (sizesL_has z k) (by omega)
        rw [← hsz, ← sizesL_succ, hsz] at HG
        have HG := Lib.hid HG
        clear hx hfl hsz
        have hz3 := HX.out.size
        go_upto_region 9 with (go_at_call 9; (refine HG.out.mono ?_); rintro e w5 ⟨rfl, ρ5, hM, hS⟩; have HM5 := Lib.hid hM; have HX5 := Lib.hid (HX.out.trans (hS.low HM.out.low.1 HM.out.low.2.2.1)); have HO5 := Lib.hid (own_mem HO.out hS HR.out); have HR5 := Lib.hid (fun b hb => (hS.role b (own_block_lt HO.out b hb)).trans (HR.out b hb)); clear hM hS)
        have hz5 := HX5.out.size
        clear HG HM HX HO HR
        go_wp2_with (at_builtin; go_loud (refine wpList_append_lies _ rfl _ _ 42 rfl w.heap.size 3 i0 (.int .i64 0) 1 8 Try.underlying42 hi hz0 hz1 hz2 rfl (by decide) _ k _ rfl (HO5.out.alloc _) ⟨_, 0, none⟩ 1 1 [.int .i64 (k : Int)] rfl rfl (World.news_of_block (heap_alloc_new w5 _)) (one_cellv rfl) (by decide) (by unfold maxLen; omega) (by omega) (by simp; omega) _ rfl ?_); intro g9 c9 w9 hown hgrow hor hlt9; have HOW := Lib.hid hown; have hO9 := app_only HR5.out hgrow; have HM9 := Lib.hid (HM5.out.far hO9); have HX9 := Lib.hid ((HX5.out.alloc hz5 _).grown hgrow (by simp; omega) (fun b hb => (HO5.out.lt b hb).1)); have HR9 : Hid (ρ5 g9 = 0) := Lib.hid ((app_new HR5.out hor).elim id (HM5.out.low.2.1 _)); clear hown hgrow hor hO9)
        go_roundg gk
        case rel => exact ⟨k + 1, ρ5, by omega, by first | rfl | simp, HM9, Lib.hid (by rw [idV_succ]; exact HOW.out), Lib.hid (own_role HR9.out), HX9⟩
        case measure => omega
  case rest =>
    clear HST
    obtain ⟨ρ', HM, HO, HR, HX⟩ := hcut
    rcases Nat.eq_zero_or_pos m with hm0 | hmp
    · have hs := ownK_slice HO.out
      rw [hm0] at hs
      have hs : ∃ B c, u8 = .slice B 0 c := by
        rcases hs with ⟨e, _⟩ | ⟨q', c', e, _⟩
        · exact ⟨_, _, e⟩
        · exact ⟨_, _, e⟩
      obtain ⟨B8, c8, rfl⟩ := hs
      clear HO HR hm hm0
      go_wp2_with (go_at_call 7; (with_reducible refine (memAwake_is w _ HX.out).mono ?_); rintro e w3 ⟨rfl, hb, _⟩; have HX := Lib.hid hb; clear hb)
      go_ret
      exact ⟨rfl, HX.out⟩
    · obtain ⟨k, hk, e1, e2⟩ := mod_inM ha0 hmp
      obtain ⟨gi, ci, rest, e8, hBi, hWi⟩ := own_block HO.out hmp
      subst e8
      have hri : ρ' gi = 0 := HR.out gi rfl
      have HWI := Lib.hid hWi
      have HRI := Lib.hid hri
      have hmn : m ≤ n := by omega
      have hm10 : m ≤ 10 := by omega
      obtain ⟨s, hs⟩ : ∃ s, sizeN z k = s := ⟨_, rfl⟩
      obtain ⟨L, hL⟩ : ∃ L, sizesL z m = L := ⟨_, rfl⟩
      have HLI : Hid (∀ i, i < m → L[i]? = some (i, zerosM (sizeN z i))) := Lib.hid (fun i hi => by rw [← hL]; exact sizesL_at hi)
      rw [hL] at HM
      have hLk : L[k]? = some (k, zerosM s) := by rw [← hs]; exact HLI.out k hk
      obtain ⟨o, ho⟩ : ∃ o, posR L k = o := ⟨_, rfl⟩
      obtain ⟨off, hof⟩ : ∃ off, offR o s = off := ⟨_, rfl⟩
      have HRG := mregion_is HM.out (by decide) hLk
      rw [ho, zerosM_len, hof] at HRG
      have HRG := Lib.hid HRG
      have HLK := Lib.hid hLk
      have HPO := Lib.hid ho
      have HOF := Lib.hid hof
      have HSZ := Lib.hid hs
      have hs255 : s ≤ 255 := by rw [← hs]; exact sizeN_le HZR.out k
      have hci : w.heap.size ≤ gi := hBi
      have ck := HWI.out.cells k (.int .i64 (k : Int)) (by rw [List.getElem?_append_left (by unfold idV; simp; omega)]; exact idV_at hk)
      have hmz : ((m : Int) == 0) = false := by simp; omega
      have hkm : (k : Int) < (m : Int) := by omega
      clear hL hLk ho hof hs hWi hri HO HR hm hmp
      go_upto_region 14 with (go_at_call 11; (with_reducible refine HRG.out.mono ?_); rintro e w3 ⟨rfl, hb⟩; have HM3 := Lib.hid (HM.out.keep hb); have HX3 := Lib.hid (HX.out.trans (hb.mono HX.out.size)); have HW3 := Lib.hid (HWI.out.keep hb (Whole.lt HWI.out)); clear hb)
      have HST2 : Hid (∃ j : Nat, j + s = s ∧ (0 : Int) = (j : Int) ∧ MemIs w3 w.heap.size g gs gh ρ' (zerosM 20) 3000 (L.set k (k, fillM s j v)) m ∧ Whole w3 gi (idV m ++ rest) 3 ∧ Below w.heap.size w w3) := Lib.hid ⟨0, by omega, rfl, by rw [fillM_zero, set_self HLK.out]; exact HM3.out, HW3.out, HX3.out⟩
      clear HM HX HWI HRG HM3 HX3 HW3 ck hmz
      go_wp2_with fail
      go_loopg [14] s (fun gk s14 wr => ∃ j : Nat, j + gk = s ∧ s14 = .int .i64 (j : Int) ∧ Hid (MemIs wr w.heap.size g gs gh ρ' (zerosM 20) 3000 (L.set k (k, fillM s j v)) m) ∧ Hid (Whole wr gi (idV m ++ rest) 3) ∧ Hid (Below w.heap.size w wr))
      case atStart =>
        obtain ⟨j, h1, h2, h3, h4, h5⟩ := HST2.out
        exact ⟨j, h1, by rw [h2], Lib.hid h3, Lib.hid h4, Lib.hid h5⟩
      case round =>
        clear HST2
        obtain ⟨j, hj, rfl, HM, HWI, HX⟩ := hrel
        have HLn : Hid (k < L.length) := Lib.hid (List.getElem?_eq_some_iff.mp HLK.out).1
        rcases Nat.eq_zero_or_pos gk with rfl | hpos
        · obtain rfl : j = s := by omega
          have hjs : ¬ (j : Int) < (j : Int) := by omega
          go_wp2_with fail
          have HLI2 : Hid (∀ i, i < m → ∃ d : List Int, (L.set k (k, List.replicate j v))[i]? = some (i, d) ∧ d.length = sizeN z i ∧ ((i = k ∧ d = List.replicate j v) ∨ (i ≠ k ∧ d = zerosM (sizeN z i)))) := Lib.hid (fun i hi => by
            by_cases e : i = k
            · subst e
              exact ⟨_, List.getElem?_set_self HLn.out, by rw [List.length_replicate, HSZ.out], .inl ⟨rfl, rfl⟩⟩
            · exact ⟨zerosM (sizeN z i), by rw [List.getElem?_set, if_neg (fun q => e q.symm)]; exact HLI.out i hi, zerosM_len _, .inr ⟨e, rfl⟩⟩)
          rw [fillM_all] at HM
          have HST3 : Hid (∃ i : Nat, i + m = m ∧ (0 : Int) = (i : Int) ∧ MemIs wr w.heap.size g gs gh ρ' (zerosM 20) 3000 (L.set k (k, List.replicate j v)) m ∧ Whole wr gi (idV m ++ rest) 3 ∧ Below w.heap.size w wr) := Lib.hid ⟨0, by omega, rfl, HM.out, HWI.out, HX.out⟩
          clear HM HWI HX hjs
          generalize L.set k (k, List.replicate j v) = L2 at *
          go_loopg [15] m (fun g3 s15 wr => ∃ i : Nat, i + g3 = m ∧ s15 = .int .i64 (i : Int) ∧ Hid (MemIs wr w.heap.size g gs gh ρ' (zerosM 20) 3000 L2 m) ∧ Hid (Whole wr gi (idV m ++ rest) 3) ∧ Hid (Below w.heap.size w wr))
          case atStart =>
            obtain ⟨i, h1, h2, h3, h4, h5⟩ := HST3.out
            exact ⟨i, h1, by rw [h2], Lib.hid h3, Lib.hid h4, Lib.hid h5⟩
          case round =>
            clear HST3
            obtain ⟨g3, hg3⟩ : ∃ y, y = gk := ⟨_, rfl⟩
            subst hg3
            obtain ⟨i, hgi, rfl, HM, HWI, HX⟩ := hrel
            rcases Nat.eq_zero_or_pos g3 with rfl | hpos
            · obtain rfl : i = m := by omega
              have him : ¬ (i : Int) < (i : Int) := by omega
              have HSK := Lib.hid (mstack_is HM.out)
              rw [zerosM_len] at HSK
              go_wp2_with (go_at_call 13; (with_reducible refine HSK.out.mono ?_); rintro e w7 ⟨rfl, hb⟩; have HX7 := Lib.hid (HX.out.trans (hb.mono HX.out.size)); have HM7 := Lib.hid (HM.out.keep hb); clear hb)
              clear HSK HM HX
              go_loopg [19] 20 (fun gk s19 wi => ∃ t : Nat, t + gk = 20 ∧ s19 = .int .i64 (t : Int) ∧ wi = w7)
              case atStart => exact ⟨0, rfl, rfl, rfl⟩
              case round =>
                obtain ⟨t, ht, rfl, rfl⟩ := hrel
                rcases Nat.eq_zero_or_pos gk with rfl | hpos
                · obtain rfl : t = 20 := by omega
                  go_wp2_with (go_at_call 7; (with_reducible refine (memAwake_is w _ HX7.out).mono ?_); rintro e w8 ⟨rfl, hb, _⟩; have HX8 := Lib.hid hb; clear hb)
                  go_ret
                  exact ⟨by first | rfl | simp, HX8.out⟩
                · obtain ⟨gk, rfl⟩ : ∃ y, gk = y + 1 := ⟨gk - 1, by omega⟩
                  have ht2 : (t : Int) < 20 := by omega
                  have ct := HM7.out.stack.cells t _ (i32V_at (x := 0) (by unfold zerosM; rw [List.getElem?_replicate, if_pos (by omega)]))
                  go_wp2_with fail
                  go_roundg gk
                  case rel => exact ⟨t + 1, by omega, by first | rfl | simp, rfl⟩
                  case measure => omega
            · obtain ⟨g3, rfl⟩ : ∃ y, g3 = y + 1 := ⟨g3 - 1, by omega⟩
              have him : (i : Int) < (m : Int) := by omega
              have hi2 : i < m := by omega
              obtain ⟨d, hd1, hd2, hd3⟩ := HLI2.out i hi2
              have hin : (i : Int) < (n : Int) := by omega
              obtain ⟨x, hx⟩ : ∃ x, z[i]? = some x := ⟨_, List.getElem?_eq_getElem (by rw [HZN.out]; omega)⟩
              have hxr := HZR.out x (List.mem_of_getElem? hx)
              obtain ⟨si, rfl⟩ : ∃ si : Nat, x = (si : Int) := ⟨x.toNat, by omega⟩
              have hsz : sizeN z i = si := by unfold sizeN; rw [hx]; rfl
              rw [hsz] at hd2 hd3
              obtain ⟨ad, rfl, hab, hc⟩ := HZ.out i (.int .u8 (si : Int)) (by rw [List.getElem?_map, hx]; rfl)
              have HC := Lib.hid hc
              have HAB := Lib.hid (show (ad.add i).block < w.heap.size by rw [addr_add_block]; exact hab)
              have ci_ := HWI.out.cells i (.int .i64 (i : Int)) (by rw [List.getElem?_append_left (by unfold idV; simp; omega)]; exact idV_at hi2)
              obtain ⟨oi, hoi⟩ : ∃ o, posR L2 i = o := ⟨_, rfl⟩
              obtain ⟨ofi, hofi⟩ : ∃ o, offR oi si = o := ⟨_, rfl⟩
              have HRG := mregion_is HM.out (by decide) hd1
              rw [hoi, hd2, hofi] at HRG
              have HRG := Lib.hid HRG
              have HD1 := Lib.hid hd1
              have HD2 := Lib.hid hd2
              have HD3 := Lib.hid hd3
              have HOI := Lib.hid hoi
              have HOFI := Lib.hid hofi
              clear hd1 hd2 hd3 hoi hofi hx hsz hc hab
              go_upto_region 24 with (go_at_call 11; (with_reducible refine HRG.out.mono ?_); rintro e w5 ⟨rfl, hb⟩; have HM5 := Lib.hid (HM.out.keep hb); have HX5 := Lib.hid (HX.out.trans (hb.mono HX.out.size)); have HW5 := Lib.hid (HWI.out.keep hb (Whole.lt HWI.out)); have hc5 := (HX5.out.cell (p := ad.add i) HAB.out).trans HC.out; clear hb)
              clear HM HX HWI HRG ci_
              go_wp2_with fail
              have hxs : ∃ xv : Int, (∀ t, t < si → d[t]? = some xv) ∧ ((i = k ∧ xv = v) ∨ (i ≠ k ∧ xv = 0)) := by
                have hd2 := HD2.out
                rcases HD3.out with ⟨e, h⟩ | ⟨e, h⟩
                · exact ⟨v, fun t ht => by rw [h] at hd2 ⊢; rw [List.length_replicate] at hd2; rw [List.getElem?_replicate, if_pos (by omega)], .inl ⟨e, rfl⟩⟩
                · exact ⟨0, fun t ht => by rw [h]; unfold zerosM; rw [List.getElem?_replicate, if_pos ht], .inr ⟨e, rfl⟩⟩
              obtain ⟨xv, hxv, hcase⟩ := hxs
              have HXV := Lib.hid hxv
              clear hxv
              go_loopg [17] si (fun g4 s17 wi => ∃ t : Nat, t + g4 = si ∧ s17 = .int .i64 (t : Int) ∧ wi = w5)
              case atStart => exact ⟨0, by omega, rfl, rfl⟩
              case round =>
                obtain ⟨g4, hg4⟩ : ∃ y, y = gk := ⟨_, rfl⟩
                subst hg4
                obtain ⟨t, ht, rfl, rfl⟩ := hrel
                rcases Nat.eq_zero_or_pos g4 with rfl | hpos
                · obtain rfl : t = si := by omega
                  go_wp2_with fail
                  go_roundg g3
                  case rel => exact ⟨i + 1, by omega, by first | rfl | simp, HM5, HW5, HX5⟩
                  case measure => omega
                · obtain ⟨g4, rfl⟩ : ∃ y, g4 = y + 1 := ⟨g4 - 1, by omega⟩
                  have htt : (t : Int) < (si : Int) := by omega
                  have hofi : ofi = oi := by have := HOFI.out; unfold offR at this; rw [if_neg (by omega)] at this; exact this.symm
                  obtain ⟨cx, _⟩ := HM5.out.cell HD1.out (HXV.out t (by omega))
                  rw [HOI.out] at cx
                  subst hofi
                  rcases hcase with ⟨rfl, rfl⟩ | ⟨hik, rfl⟩
                  · go_wp2_with fail
                    go_roundg g4
                    case rel => exact ⟨t + 1, by omega, by first | rfl | simp, rfl⟩
                    case measure => omega
                  · have hik2 : ((i : Int) == (k : Int)) = false := by simp; omega
                    go_wp2_with fail
                    go_roundg g4
                    case rel => exact ⟨t + 1, by omega, by first | rfl | simp, rfl⟩
                    case measure => omega
        · obtain ⟨gk, rfl⟩ : ∃ y, gk = y + 1 := ⟨gk - 1, by omega⟩
          have hjs : (j : Int) < (s : Int) := by omega
          have hof : off = o := by have := HOF.out; unfold offR at this; rw [if_neg (by omega)] at this; exact this.symm
          have hLj : (L.set k (k, fillM s j v))[k]? = some (k, fillM s j v) := List.getElem?_set_self HLn.out
          have hpos2 : posR (L.set k (k, fillM s j v)) k = o := by rw [posR_set HLK.out (by rw [fillM_len v (by omega), zerosM_len]), HPO.out]
          have hjl : j < (fillM s j v).length := by rw [fillM_len v (by omega)]; omega
          obtain ⟨x0, hx0⟩ : ∃ x, (fillM s j v)[j]? = some x := ⟨_, List.getElem?_eq_getElem hjl⟩
          obtain ⟨c0, f0⟩ := HM.out.cell hLj hx0
          have hP := HM.out.put hLj hjl v
          rw [hpos2] at c0 f0 hP
          rw [fillM_set v (by omega), List.set_set] at hP
          have HMP := Lib.hid hP.1
          have HXP := Lib.hid (HX.out.trans (hP.2.low HM.out.low.1 HM.out.low.2.2.1))
          have HWP := Lib.hid (whole_mem HWI.out hP.2 HRI.out)
          clear hP hLj hpos2 hjl hx0
          subst hof
          go_wp2_with fail
          go_roundg gk
          case rel => exact ⟨j + 1, by omega, by first | rfl | simp, HMP, HWP, HXP⟩
          case measure => omega
end Go.Proofs.Ytmjoollhkjgohaa
