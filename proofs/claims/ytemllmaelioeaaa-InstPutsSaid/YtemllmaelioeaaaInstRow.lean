/-
  The statement on instructions one behind the other (InstRow), walked: it answers true at any instructions.
-/
import Derived.Test.YtemllmaelioeaaaInstLaws
import Derived.Test.YtemllmaelioeaaaRow
namespace Go.Proofs.Ytemllmaelioeaaa
open Go.ChangeShapes Go.WideShapes Go.ChangeAt Go.RowKit
set_option linter.unusedVariables false
set_option linter.unusedSimpArgs false

/-- Those that may be. -/
def goods (L : List (Int × Int × Int)) : List (Int × Int × Int) := L.filter fun x => instrB x.1 x.2.1 x.2.2
/-- Their bytes, one behind the other. -/
def encI (L : List (Int × Int × Int)) : List Int := (goods L).flatMap fun x => putI x.1 x.2.1 x.2.2
theorem goods_cons (x : Int × Int × Int) (L : List (Int × Int × Int)) : goods (x :: L) = if instrB x.1 x.2.1 x.2.2 then x :: goods L else goods L := by
  unfold goods; rw [List.filter_cons]
theorem goods_snoc (x : Int × Int × Int) (L : List (Int × Int × Int)) : goods (L ++ [x]) = if instrB x.1 x.2.1 x.2.2 then goods L ++ [x] else goods L := by
  unfold goods; rw [List.filter_append, List.filter_cons]
  split <;> simp
theorem encI_cons (x : Int × Int × Int) (L : List (Int × Int × Int)) : encI (x :: L) = if instrB x.1 x.2.1 x.2.2 then putI x.1 x.2.1 x.2.2 ++ encI L else encI L := by
  unfold encI; rw [goods_cons]
  split <;> simp
theorem encI_snoc (x : Int × Int × Int) (L : List (Int × Int × Int)) : encI (L ++ [x]) = if instrB x.1 x.2.1 x.2.2 then encI L ++ putI x.1 x.2.1 x.2.2 else encI L := by
  unfold encI; rw [goods_snoc]
  split <;> simp
theorem encI_len (L : List (Int × Int × Int)) : (goods L).length ≤ (encI L).length ∧ (encI L).length ≤ 5 * (goods L).length := by
  induction L with
  | nil => exact ⟨Nat.le_refl _, Nat.le_refl _⟩
  | cons x L ih =>
    rw [encI_cons, goods_cons]
    by_cases h : instrB x.1 x.2.1 x.2.2 = true
    · have := putI_len h
      rw [if_pos h, if_pos h, List.length_append, List.length_cons]
      omega
    · rw [if_neg h, if_neg h]
      exact ih
theorem encI_range (L : List (Int × Int × Int)) : ∀ b ∈ encI L, 0 ≤ b ∧ b ≤ 255 := by
  intro b hb
  unfold encI at hb
  obtain ⟨x, _, hx⟩ := List.mem_flatMap.mp hb
  exact putI_range _ _ _ b hx
theorem goods_le (L : List (Int × Int × Int)) : (goods L).length ≤ L.length := List.length_filter_le _ _
theorem take_snoc {α : Type} {l : List α} {k : Nat} (h : k < l.length) : l.take (k + 1) = l.take k ++ [l[k]] := by
  rw [List.take_add_one, List.getElem?_eq_getElem h]
  rfl

set_option maxRecDepth 100000 in
set_option maxHeartbeats 6400000 in
theorem instRow_walk (L : List (Int × Int × Int)) (A : Option Addr) (cap : Nat) (w : World) (hl : L.length ≤ cap) (hm : cap ≤ 9223372036854775807) (h : InsRow w w.heap.size A L)
    (hr : ∀ x ∈ L, x.1 ≤ 9223372036854775807 ∧ x.2.1 ≤ 9223372036854775807 ∧ x.2.2 ≤ 9223372036854775807) :
    Calls Try.prog 6 #[.slice A L.length cap] w fun e w' => e = .returned (.bool true) ∧ Below w.heap.size w w' := by
  have HL := Lib.hid h
  have HR := Lib.hid hr
  clear h hr
  go_enter Try.func6, Try.ntmps6
  go_wp2_with fail
  go_loopw [3, 4, 5] (fun b n i wr => ∃ (k : Nat), i = .int .i64 k ∧ k ≤ L.length ∧ k ≤ 60 ∧ n = .int .i64 (goods (L.take k)).length ∧
      Hid (wr.ownsRow w.heap.size 5 1 b (encI (L.take k)).length ((encI (L.take k)).map (Value.int .u8))) ∧ Hid (Below w.heap.size w wr)) (fun _ _ i _ => 60 - (intOf i).toNat)
  case atStart =>
    exact ⟨0, rfl, by omega, by omega, rfl, Lib.hid (own_empty w _), Lib.hid ((Below.refl _ _).alloc (Nat.le_refl _) _)⟩
  case round =>
    obtain ⟨k, rfl, hk, hk6, rfl, HO, HB⟩ := hrel
    by_cases hc : k < L.length ∧ k < 60
    · obtain ⟨hc1, hc2⟩ := hc
      obtain ⟨ad, rfl, hab, hx⟩ := HL.out k _ (List.getElem?_eq_getElem hc1)
      have T1 := Lib.hid (take_snoc hc1)
      have HX := HR.out _ (List.getElem_mem hc1)
      generalize L[k] = x at *
      obtain ⟨op, a, b⟩ := x
      dsimp only at hx HX
      have HP : Hid ((ad.add (k * 3)).block < w.heap.size) := Lib.hid (by rw [addr_add_block]; exact hab)
      have HI := Lib.hid hx
      obtain ⟨q0, q1, q2⟩ := hx.keep HB.out HP.out
      clear hx hab
      have hlen := encI_len (L.take k)
      have hgl : (goods (L.take k)).length ≤ 60 := Nat.le_trans (goods_le _) (by rw [List.length_take]; omega)
      obtain ⟨g, hg⟩ : ∃ g, instrB op a b = g := ⟨_, rfl⟩
      have G := Lib.hid hg
      clear hg
      cases g
      · have S1 := Lib.hid (show goods (L.take (k + 1)) = goods (L.take k) by rw [T1.out, goods_snoc, if_neg (by rw [G.out]; decide)])
        have S2 := Lib.hid (show encI (L.take (k + 1)) = encI (L.take k) by rw [T1.out, encI_snoc, if_neg (by rw [G.out]; decide)])
        go_wp2_with (go_at_call 10; (with_reducible refine (igood_any op a b _).mono ?_); rintro e w1 ⟨he, hc⟩; rw [G.out] at he; subst he; have HB1 := Lib.hid (HB.out.trans (hc.mono HB.out.size)); have HO1 := Lib.hid (own_below HO.out hc (own_block_lt HO.out)); clear hc)
        go_roundw
        case rel => exact ⟨k + 1, by go_num, by omega, by omega, by rw [S1.out], by rw [S2.out]; exact HO1, HB1⟩
        case measure => simp [intOf]; omega
      · have S1 := Lib.hid (show goods (L.take (k + 1)) = goods (L.take k) ++ [(op, a, b)] by rw [T1.out, goods_snoc, if_pos (by rw [G.out])])
        have S2 := Lib.hid (show encI (L.take (k + 1)) = encI (L.take k) ++ putI op a b by rw [T1.out, encI_snoc, if_pos (by rw [G.out])])
        go_wp2_with (first
          | (go_at_call 10; (with_reducible refine (igood_any op a b _).mono ?_); rintro e w1 ⟨he, hc⟩; rw [G.out] at he; subst he; have HB1 := Lib.hid (HB.out.trans (hc.mono HB.out.size)); have HO1 := Lib.hid (own_below HO.out hc (own_block_lt HO.out)); obtain ⟨q0, q1, q2⟩ := HI.out.keep HB1.out HP.out; clear hc)
          | (go_at_call 13; (with_reducible refine (iput_any _ _ op a b w.heap.size _ HX.1 HX.2.1 HX.2.2 (by omega) HB1.out.size HO1.out).mono ?_); rintro e w2 ⟨v2, rfl, ho2, hb2⟩; have HO2 := Lib.hid ho2; have HB2 := Lib.hid (HB1.out.trans hb2); clear ho2 hb2))
        go_roundw
        case rel => exact ⟨k + 1, by go_num, by omega, by omega, by rw [S1.out]; simp, by rw [S2.out]; exact HO2, HB2⟩
        case measure => simp [intOf]; omega
    · obtain ⟨M, hM⟩ : ∃ M, L.take 60 = M := ⟨_, rfl⟩
      have hkM : L.take k = M := by
        rw [← hM]
        rcases Nat.lt_or_ge k 60 with h | h
        · rw [List.take_of_length_le (show L.length ≤ k by omega), List.take_of_length_le (show L.length ≤ 60 by omega)]
        · rw [show k = 60 by omega]
      have hML : M.length ≤ 60 ∧ M.length ≤ L.length ∧ (M.length = L.length ∨ M.length = 60) := by rw [← hM, List.length_take]; omega
      have HM : Hid (∀ i, i < M.length → M[i]? = L[i]?) := Lib.hid (fun i hi => by rw [← hM, List.getElem?_take, if_pos (by omega)])
      rw [hkM] at HO
      have hlen := encI_len M
      have hgl : (goods M).length ≤ 60 := Nat.le_trans (goods_le _) hML.1
      have hgM : (goods (L.take k)).length = (goods M).length := by rw [hkM]
      clear hM hkM
      obtain ⟨A3, c3, rfl, hL3, hA3⟩ := own_slice_nil HO.out
      have HL3 := Lib.hid hL3
      have HA3 := Lib.hid hA3
      have HG := Lib.hid (encI_range M)
      clear hL3 hA3
      have hc' : L.length ≤ k ∨ (k < L.length ∧ 60 ≤ k) := by omega
      clear hc
      rcases hc' with hc' | ⟨hc', hc2⟩
      all_goals
        go_wp2_with (go_at_call 14; (with_reducible refine (bnew_any (encI M) A3 c3 _ _ (by omega) HG.out HA3.out (Nat.le_refl _) HL3.out).mono ?_); rintro e w1 ⟨N, rfl, hN, hr, hb⟩; have HRd := Lib.hid hr; have HB1 := Lib.hid (HB.out.trans (hb.mono HB.out.size)); have HN := Lib.hid (Nat.le_trans HB.out.size hN); clear hr hb hN)
        go_loopw [7] (fun i wr => ∃ (j : Nat), i = .int .i64 j ∧ j ≤ M.length ∧ Hid (Rd wr N (encI (M.drop j)) false) ∧ Hid (Below w.heap.size w wr)) (fun i _ => 60 - (intOf i).toNat)
        case atStart => exact ⟨0, rfl, by omega, HRd, HB1⟩
        case round =>
          clear HRd HB1
          obtain ⟨j, rfl, hj, HRd, HB1⟩ := hrel
          by_cases hjc : j < M.length
          · have hjL : j < L.length := by omega
            have hj6 : j < 60 := by omega
            have E1 := Lib.hid (List.drop_eq_getElem_cons hjc)
            have E2 := HM.out j hjc
            rw [List.getElem?_eq_getElem hjc] at E2
            obtain ⟨ad, rfl, hab, hx⟩ := HL.out j _ E2.symm
            clear E2
            generalize M[j] = x at *
            obtain ⟨op, a, b⟩ := x
            dsimp only at hx
            have HP : Hid ((ad.add (j * 3)).block < w.heap.size) := Lib.hid (by rw [addr_add_block]; exact hab)
            have HI := Lib.hid hx
            obtain ⟨q0, q1, q2⟩ := hx.keep HB1.out HP.out
            clear hx hab
            have HRd' : Hid (Rd wr.drew N (encI (M.drop j)) false) := HRd
            have HB1' : Hid (Below w.heap.size w wr.drew) := Lib.hid HB1.out.drew
            have hcnd : ¬ L.length ≤ j := by omega
            obtain ⟨g, hg⟩ : ∃ g, instrB op a b = g := ⟨_, rfl⟩
            have G := Lib.hid hg
            clear hg
            cases g
            · have S2 := Lib.hid (show encI (M.drop j) = encI (M.drop (j + 1)) by rw [E1.out, encI_cons, if_neg (by rw [G.out]; decide)])
              rw [S2.out] at HRd'
              go_wp2_with fail
              refine wp_region_noPanic ?_
              refine wp_region_held_drew (S := (fun w' => w'.cell? (ad.add (j * 3)) = some (.int .i64 op) ∧ w'.cell? ⟨(ad.add (j * 3)).block, (ad.add (j * 3)).off + 1, none⟩ = some (.int .i64 a) ∧ w'.cell? ⟨(ad.add (j * 3)).block, (ad.add (j * 3)).off + 2, none⟩ = some (.int .i64 b))) (by kernel_rfl) ⟨q0, q1, q2⟩ (fun hHeld => ?_)
              refine wpAnyH_take (i := 0) (oi := _) (v := ?_) rfl (by kernel_rfl) (by kernel_rfl) (by kernel_rfl) (fun _ _ _ h => h) (Or.inl ⟨by rfl, ?_⟩) (by assumption) ?_
              rotate_left
              · (intro w hSw; (try dsimp only at hSw); go_simp <;> with_reducible rfl)
              try simp only [List.getElem_toArray, List.getElem_cons_succ, List.getElem_cons_zero, Act.put, List.setIfInBounds_toArray, List.set_cons_zero, List.set_cons_succ]
              refine wpAnyH_take (i := 1) (oi := _) (v := ?_) rfl (by kernel_rfl) (by kernel_rfl) (by kernel_rfl) (fun _ _ _ h => h) (Or.inl ⟨by rfl, ?_⟩) (by assumption) ?_
              rotate_left
              · (intro w hSw; (try dsimp only at hSw); go_simp <;> with_reducible rfl)
              try simp only [List.getElem_toArray, List.getElem_cons_succ, List.getElem_cons_zero, Act.put, List.setIfInBounds_toArray, List.set_cons_zero, List.set_cons_succ]
              refine wpAnyH_take (i := 2) (oi := _) (v := ?_) rfl (by kernel_rfl) (by kernel_rfl) (by kernel_rfl) (fun _ _ _ h => h) (Or.inl ⟨by rfl, ?_⟩) (by assumption) ?_
              rotate_left
              · (intro w hSw; (try dsimp only at hSw); go_simp <;> with_reducible rfl)
              try simp only [List.getElem_toArray, List.getElem_cons_succ, List.getElem_cons_zero, Act.put, List.setIfInBounds_toArray, List.set_cons_zero, List.set_cons_succ]
              refine wpAnyH_take (i := 3) (oi := _) (v := ?_) rfl (by kernel_rfl) (by kernel_rfl) (by kernel_rfl) (fun _ _ _ h => h) (Or.inl ⟨by rfl, ?_⟩) (by assumption) ?_
              rotate_left
              · (intro w hSw; (try dsimp only at hSw); go_simp <;> with_reducible rfl)
              try simp only [List.getElem_toArray, List.getElem_cons_succ, List.getElem_cons_zero, Act.put, List.setIfInBounds_toArray, List.set_cons_zero, List.set_cons_succ]
              refine wpAnyH_ready (rs := [4]) (by kernel_rfl) (by simp) ?_
              refine AllReadyH.cons (o := _) rfl (fun K hK => ?_) AllReadyH.nil
              go_simp
              (go_at_call 10; (with_reducible refine (igood_any op a b _).mono ?_); rintro e w2 ⟨he, hc⟩; rw [G.out] at he; subst he; have HB2 := Lib.hid (HB1'.out.trans (hc.mono HB1'.out.size)); have HR2 := Lib.hid (HRd'.out.keep hc); obtain ⟨s0, s1, s2⟩ := HI.out.keep HB2.out HP.out; clear hc)
              refine hK.out _ _ ⟨s0, s1, s2⟩ (fun hHeld => ?_)
              clear hK K
              try simp only [List.getElem_toArray, List.getElem_cons_succ, List.getElem_cons_zero, Act.put, List.setIfInBounds_toArray, List.set_cons_zero, List.set_cons_succ]
              refine wpAnyH_take (i := 5) (oi := _) (v := ?_) rfl (by kernel_rfl) (by kernel_rfl) (by kernel_rfl) (fun _ _ _ h => h) (Or.inl ⟨by rfl, ?_⟩) (by assumption) ?_
              rotate_left
              · (intro w hSw; (try dsimp only at hSw); go_simp <;> with_reducible rfl)
              try simp only [List.getElem_toArray, List.getElem_cons_succ, List.getElem_cons_zero, Act.put, List.setIfInBounds_toArray, List.set_cons_zero, List.set_cons_succ]
              refine wpAnyH_take (i := 6) (oi := _) (v := undef) rfl (by kernel_rfl) (by kernel_rfl) (by kernel_rfl) (fun _ _ _ h => h) (Or.inr ⟨by rfl, rfl⟩) (by assumption) ?_
              try simp only [List.getElem_toArray, List.getElem_cons_succ, List.getElem_cons_zero, Act.put, List.setIfInBounds_toArray, List.set_cons_zero, List.set_cons_succ]
              refine wpAnyH_take (i := 7) (oi := _) (v := undef) rfl (by kernel_rfl) (by kernel_rfl) (by kernel_rfl) (fun _ _ _ h => h) (Or.inr ⟨by rfl, rfl⟩) (by assumption) ?_
              try simp only [List.getElem_toArray, List.getElem_cons_succ, List.getElem_cons_zero, Act.put, List.setIfInBounds_toArray, List.set_cons_zero, List.set_cons_succ]
              refine wpAnyH_take (i := 8) (oi := _) (v := undef) rfl (by kernel_rfl) (by kernel_rfl) (by kernel_rfl) (fun _ _ _ h => h) (Or.inr ⟨by rfl, rfl⟩) (by assumption) ?_
              try simp only [List.getElem_toArray, List.getElem_cons_succ, List.getElem_cons_zero, Act.put, List.setIfInBounds_toArray, List.set_cons_zero, List.set_cons_succ]
              refine wpAnyH_take (i := 9) (oi := _) (v := undef) rfl (by kernel_rfl) (by kernel_rfl) (by kernel_rfl) (fun _ _ _ h => h) (Or.inr ⟨by rfl, rfl⟩) (by assumption) ?_
              try simp only [List.getElem_toArray, List.getElem_cons_succ, List.getElem_cons_zero, Act.put, List.setIfInBounds_toArray, List.set_cons_zero, List.set_cons_succ]
              refine wpAnyH_take (i := 10) (oi := _) (v := undef) rfl (by kernel_rfl) (by kernel_rfl) (by kernel_rfl) (fun _ _ _ h => h) (Or.inr ⟨by rfl, rfl⟩) (by assumption) ?_
              try simp only [List.getElem_toArray, List.getElem_cons_succ, List.getElem_cons_zero, Act.put, List.setIfInBounds_toArray, List.set_cons_zero, List.set_cons_succ]
              refine wpAnyH_take (i := 11) (oi := _) (v := undef) rfl (by kernel_rfl) (by kernel_rfl) (by kernel_rfl) (fun _ _ _ h => h) (Or.inr ⟨by rfl, rfl⟩) (by assumption) ?_
              try simp only [List.getElem_toArray, List.getElem_cons_succ, List.getElem_cons_zero, Act.put, List.setIfInBounds_toArray, List.set_cons_zero, List.set_cons_succ]
              refine wpAnyH_take (i := 12) (oi := _) (v := undef) rfl (by kernel_rfl) (by kernel_rfl) (by kernel_rfl) (fun _ _ _ h => h) (Or.inr ⟨by rfl, rfl⟩) (by assumption) ?_
              try simp only [List.getElem_toArray, List.getElem_cons_succ, List.getElem_cons_zero, Act.put, List.setIfInBounds_toArray, List.set_cons_zero, List.set_cons_succ]
              refine wpAnyH_take (i := 13) (oi := _) (v := ?_) rfl (by kernel_rfl) (by kernel_rfl) (by kernel_rfl) (fun _ _ _ h => h) (Or.inl ⟨by rfl, ?_⟩) (by assumption) ?_
              rotate_left
              · (intro w hSw; (try dsimp only at hSw); go_simp <;> with_reducible rfl)
              try simp only [List.getElem_toArray, List.getElem_cons_succ, List.getElem_cons_zero, Act.put, List.setIfInBounds_toArray, List.set_cons_zero, List.set_cons_succ]
              refine wpAnyH_done (by kernel_rfl) ?_ _
              refine NoPanic.normal ?_
              go_wp2
              go_roundw
              case rel => exact ⟨j + 1, by go_num, by omega, HR2, HB2⟩
              case measure => simp [intOf]; omega
            · have S2 := Lib.hid (show encI (M.drop j) = putI op a b ++ encI (M.drop (j + 1)) by rw [E1.out, encI_cons, if_pos (by rw [G.out])])
              rw [S2.out] at HRd'
              have HGI := Lib.hid (getI_put (encI (M.drop (j + 1))) G.out)
              have HRG : Hid (∀ c ∈ putI op a b ++ encI (M.drop (j + 1)), 0 ≤ c ∧ c ≤ 255) := Lib.hid (by rw [← S2.out]; exact encI_range _)
              have hll : (putI op a b ++ encI (M.drop (j + 1))).length ≤ 1000000 := by
                rw [← S2.out]
                have := encI_len (M.drop j)
                have := goods_le (M.drop j)
                rw [List.length_drop] at this
                omega
              go_wp2_with fail
              go_region_held3 (fun w' => w'.cell? (ad.add (j * 3)) = some (.int .i64 op) ∧ w'.cell? ⟨(ad.add (j * 3)).block, (ad.add (j * 3)).off + 1, none⟩ = some (.int .i64 a) ∧ w'.cell? ⟨(ad.add (j * 3)).block, (ad.add (j * 3)).off + 2, none⟩ = some (.int .i64 b))
                (first | go_keep | exact ⟨s0, s1, s2⟩)
                (first
                  | (go_at_call 10; (with_reducible refine (igood_any op a b _).mono ?_); rintro e w2 ⟨he, hc⟩; rw [G.out] at he; subst he; have HB2 := Lib.hid (HB1'.out.trans (hc.mono HB1'.out.size)); have HR2 := Lib.hid (HRd'.out.keep hc); obtain ⟨s0, s1, s2⟩ := HI.out.keep HB2.out HP.out; clear hc)
                  | (go_at_call 15; (with_reducible refine (iget_any N w.heap.size _ false _ (by omega) HRG.out HN.out HR2.out).mono ?_); rintro e w3 ⟨op', a', b', rfl, hr, hc, hx⟩; rw [HGI.out] at hr hx; obtain ⟨rfl, rfl, rfl⟩ : op = op' ∧ a = a' ∧ b = b' := (by simpa using hx rfl); have HB3 := Lib.hid (HB2.out.trans hc); have HR3 := Lib.hid hr; obtain ⟨s0, s1, s2⟩ := HI.out.keep HB3.out HP.out; clear hc hr hx))
              go_wp2
              go_roundw
              case rel => exact ⟨j + 1, by go_num, by omega, HR3, HB3⟩
              case measure => simp [intOf]; omega
          · have E1 := Lib.hid (show encI (M.drop j) = [] by rw [List.drop_eq_nil_of_le (by omega)]; rfl)
            rw [E1.out] at HRd
            have hcj : L.length ≤ j ∨ (j < L.length ∧ 60 ≤ j) := by omega
            rcases hcj with hcj | ⟨hcj, hcj2⟩
            all_goals
              go_wp2_with (first
                | (go_at_call 7; (with_reducible refine (iawake_any _).mono ?_); rintro e w4 ⟨rfl, hc⟩; have HB4 := Lib.hid (HB1.out.trans (hc.mono HB1.out.size)); have HR4 := Lib.hid (HRd.out.keep hc); clear hc)
                | (go_at_call 16; (with_reducible refine (bend_any N [] false _ HR4.out).mono ?_); rintro e w5 ⟨rfl, hc⟩; have HB5 := Lib.hid (HB4.out.trans (hc.mono HB4.out.size)); clear hc))
              all_goals
                have hd : decide (((encI M).length : Int) ≤ 5 * ((goods M).length : Int)) = true := decide_eq_true (by omega)
                rw [hd]
                refine bodyPost_ret (v := .bool true) ?_ rfl ⟨rfl, HB5.out⟩
                simp [results, Try.results6, go_sem]
end Go.Proofs.Ytemllmaelioeaaa
