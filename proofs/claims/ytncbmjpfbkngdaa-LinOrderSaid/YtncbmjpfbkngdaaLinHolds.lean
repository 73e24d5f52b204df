/-
  What lin.Holds comes to.
-/
import Derived.Test.YtncbmjpfbkngdaaLinOf
import Derived.Test.YtncbmjpfbkngdaaLinWant
namespace Go.Proofs.Ytncbmjpfbkngdaa
set_option maxRecDepth 100000
set_option linter.unusedVariables false
set_option linter.unusedSimpArgs false
open Go.ChangeShapes Go.WideShapes Go.ChangeAt Go.RowKit
set_option linter.unusedVariables false
set_option linter.unusedSimpArgs false

set_option maxHeartbeats 6400000 in
theorem lholds_own (q : Inq) (L : List Int) (A B : Option Addr) (c d : Nat) (w : World) (hq : SlcIs IntAt 1 w w.heap.size A c q.1) (hl : SlcIs IntAt 1 w w.heap.size B d L) :
    Calls Try.prog 15 #[inqV q A c, .slice B L.length d] w (ErrOut (holdsR q L) w) := by
  show Calls Try.prog 15 #[.agg #[.slice A q.1.length c, .int .i64 q.2], .slice B L.length d] w (ErrOut (holdsR q L) w)
  have HL := Lib.hid hq
  have HM := Lib.hid hl
  have hc1 := hq.le
  have hc2 := hq.cap
  have hd1 := hl.le
  have hd2 := hl.cap
  clear hq hl
  by_cases hn : q.1.length = L.length
  rotate_left
  · have hi : ((L.length : Int) != (q.1.length : Int)) = true := by simp; omega
    have HR : Hid (holdsR q L = none) := Lib.hid (by unfold holdsR; rw [if_neg hn])
    clear hn
    go_enter Try.func15, Try.ntmps15
    go_wp2_with fail
    go_ret2
    unfold ErrOut
    rw [HR.out]
    exact ⟨rfl, (Below.refl w.heap.size w).alloc (Nat.le_refl _) _⟩
  obtain ⟨n, hnn⟩ : ∃ n, q.1.length = n := ⟨_, rfl⟩
  have HLN : Hid (q.1.length = n) := Lib.hid hnn
  have HMN : Hid (L.length = n) := Lib.hid (by omega)
  have HR : Hid (holdsR q L = (dotR q.1 L).map (fun n => decide (n ≤ q.2))) := Lib.hid (by unfold holdsR; rw [if_pos hn])
  obtain ⟨R, hR⟩ : ∃ R, holdsR q L = R := ⟨_, rfl⟩
  rw [hR] at HR
  rw [hR, show L.length = n by omega, hnn]
  rw [show L.length = n by omega] at hd1
  rw [hnn] at hc1
  have hi : ((n : Int) != (n : Int)) = false := by simp
  clear hn hnn hR
  go_enter Try.func15, Try.ntmps15
  go_upto_region 4 with fail
  have HXA : Hid (Below w.heap.size w ((w.alloc (.cells #[.slice A n c, .int .i64 q.2] 27)).alloc (.cells #[.int .i64 0, .bool false] 49))) := Lib.hid (((Below.refl w.heap.size w).alloc (Nat.le_refl _) _).alloc (by simp) _)
  have HWA : Hid (Whole ((w.alloc (.cells #[.slice A n c, .int .i64 q.2] 27)).alloc (.cells #[.int .i64 0, .bool false] 49)) w.heap.size [.slice A n c, .int .i64 q.2] 27) := Lib.hid ((Whole.new w [.slice A n c, .int .i64 q.2] 27).keep ((Below.refl (w.heap.size + 1) _).alloc (by simp) _) (Nat.lt_succ_self _))
  have HWS : Hid (Whole ((w.alloc (.cells #[.slice A n c, .int .i64 q.2] 27)).alloc (.cells #[.int .i64 0, .bool false] 49)) (w.heap.size + 1) (numC (partO q.1 L 0)) 49) := Lib.hid (Whole.at_ (by simp) [.int .i64 0, .bool false] 49)
  generalize (w.alloc (.cells #[.slice A n c, .int .i64 q.2] 27)).alloc (.cells #[.int .i64 0, .bool false] 49) = w1 at *
  have a0 := HWA.out.cells 0 _ rfl
  go_wp2_with fail
  go_loopw [18] (fun i wr => ∃ k : Nat, k ≤ n ∧ i = .int .i64 k ∧ Hid (Whole wr (w.heap.size + 1) (numC (partO q.1 L k)) 49) ∧ Hid (Below (w.heap.size + 1) w1 wr)) (fun i _ => n - (intOf i).toNat)
  case atStart => exact ⟨0, Nat.zero_le _, rfl, HWS, Lib.hid (Below.refl _ _)⟩
  case round =>
    clear HWS
    obtain ⟨k, hk, rfl, HW, HX⟩ := hrel
    by_cases hkn : k < n
    · have hkL : k < q.1.length := by rw [HLN.out]; exact hkn
      have hkM : k < L.length := by rw [HMN.out]; exact hkn
      obtain ⟨ad, rfl, hab, s0⟩ := HL.out.row.at_ hkL
      obtain ⟨ad', rfl, hab', t0⟩ := HM.out.row.at_ hkM
      replace s0 : w.cell? (ad.add k) = some (.int .i64 q.1[k]) := by have := s0; rw [Nat.mul_one] at this; exact this
      replace t0 : w.cell? (ad'.add k) = some (.int .i64 L[k]) := by have := t0; rw [Nat.mul_one] at this; exact this
      obtain ⟨x, hx⟩ : ∃ x, q.1[k] = x := ⟨_, rfl⟩
      obtain ⟨y, hy⟩ : ∃ x, L[k] = x := ⟨_, rfl⟩
      have HPS : Hid (partO q.1 L (k + 1) = addO (partO q.1 L k) (mulO (ofO x) (ofO y))) := Lib.hid (partO_succ (by rw [← hx]; exact List.getElem?_eq_getElem hkL) (by rw [← hy]; exact List.getElem?_eq_getElem hkM))
      have HFS : Hid (FineO (partO q.1 L k)) := Lib.hid (partO_fine _ _ _)
      rw [hx] at s0
      rw [hy] at t0
      have HB1 : Hid (∀ W, Below (w.heap.size + 1) w1 W → Below w.heap.size w W) := Lib.hid (fun W hW => HXA.out.trans (hW.mono (by omega)))
      have HKS : Hid (∀ W, Below (w.heap.size + 1) w1 W → (fun w' => w'.cell? (ad'.add k) = some (.int .i64 y)) W) := Lib.hid (fun W hW => ((HB1.out W hW).cell (p := ad'.add k) (by rw [addr_add_block]; exact hab')).trans t0)
      have s1 := ((HB1.out _ HX.out).cell (p := ad.add k) (by rw [addr_add_block]; exact hab)).trans s0
      obtain ⟨rx, hrx⟩ : ∃ r, ofO x = r := ⟨_, rfl⟩
      obtain ⟨ry, hry⟩ : ∃ r, ofO y = r := ⟨_, rfl⟩
      have HRX := Lib.hid hrx
      have HRY := Lib.hid hry
      have HFX : Hid (FineO rx) := Lib.hid (hrx ▸ ofO_fine x)
      have HFY : Hid (FineO ry) := Lib.hid (hry ▸ ofO_fine y)
      rw [hrx, hry] at HPS
      obtain ⟨rp, hrp⟩ : ∃ r, mulO rx ry = r := ⟨_, rfl⟩
      have HRP := Lib.hid hrp
      have HFP : Hid (FineO rp) := Lib.hid (hrp ▸ mulO_fine _ _)
      rw [hrp] at HPS
      generalize partO q.1 L k = s at *
      obtain ⟨rs, hrs⟩ : ∃ r, addO s rp = r := ⟨_, rfl⟩
      have HRS := Lib.hid hrs
      rw [hrs] at HPS
      clear hx hy t0 s0 hrx hry hrp hrs
      go_upto_region 7 with fail
      clear s1
      refine wp_region_noPanic ?_
      refine wp_region_held_drew (S := fun w' => w'.cell? (ad'.add k) = some (.int .i64 y)) (by kernel_rfl) (HKS.out _ HX.out.drew) (fun hHeld => ?_)
      replace HX := Lib.hid HX.out.drew
      replace HW := Lib.hid (HW.out.drew')
      generalize wr.drew = wd at *
      have q0 := HW.out.cells 0 _ rfl
      have q1 := HW.out.cells 1 _ rfl
      have f0 := HW.out.free 0
      have f1 := HW.out.free 1
      refine wpAnyH_take (i := 1) (oi := _) (v := ?_) rfl (by kernel_rfl) (by kernel_rfl) (by kernel_rfl) (fun _ _ _ h => h) (Or.inl ⟨by rfl, ?_⟩) (by assumption) ?_
      rotate_left
      · (intro w hSw; (try dsimp only at hSw); go_simp <;> with_reducible rfl)
      try simp only [List.getElem_toArray, List.getElem_cons_succ, List.getElem_cons_zero, Act.put, List.setIfInBounds_toArray, List.set_cons_zero, List.set_cons_succ]
      refine wpAnyH_take (i := 3) (oi := _) (v := ?_) rfl (by kernel_rfl) (by kernel_rfl) (by kernel_rfl) (fun _ _ _ h => h) (Or.inl ⟨by rfl, ?_⟩) (by assumption) ?_
      rotate_left
      · (intro w hSw; (try dsimp only at hSw); go_simp <;> with_reducible rfl)
      try simp only [List.getElem_toArray, List.getElem_cons_succ, List.getElem_cons_zero, Act.put, List.setIfInBounds_toArray, List.set_cons_zero, List.set_cons_succ]
      refine wpAnyH_take (i := 4) (oi := _) (v := ?_) rfl (by kernel_rfl) (by kernel_rfl) (by kernel_rfl) (fun _ _ _ h => h) (Or.inl ⟨by rfl, ?_⟩) (by assumption) ?_
      rotate_left
      · (intro w hSw; (try dsimp only at hSw); go_simp <;> with_reducible rfl)
      try simp only [List.getElem_toArray, List.getElem_cons_succ, List.getElem_cons_zero, Act.put, List.setIfInBounds_toArray, List.set_cons_zero, List.set_cons_succ]
      refine wpAnyH_take (i := 5) (oi := _) (v := ?_) rfl (by kernel_rfl) (by kernel_rfl) (by kernel_rfl) (fun _ _ _ h => h) (Or.inl ⟨by rfl, ?_⟩) (by assumption) ?_
      rotate_left
      · (intro w hSw; (try dsimp only at hSw); go_simp <;> with_reducible rfl)
      try simp only [List.getElem_toArray, List.getElem_cons_succ, List.getElem_cons_zero, Act.put, List.setIfInBounds_toArray, List.set_cons_zero, List.set_cons_succ]
      refine wpAnyH_take (i := 6) (oi := _) (v := ?_) rfl (by kernel_rfl) (by kernel_rfl) (by kernel_rfl) (fun _ _ _ h => h) (Or.inl ⟨by rfl, ?_⟩) (by assumption) ?_
      rotate_left
      · (intro w hSw; (try dsimp only at hSw); go_simp <;> with_reducible rfl)
      try simp only [List.getElem_toArray, List.getElem_cons_succ, List.getElem_cons_zero, Act.put, List.setIfInBounds_toArray, List.set_cons_zero, List.set_cons_succ]
      refine wpAnyH_ready (rs := [0, 2]) (by kernel_rfl) (by simp) ?_
      refine (AllReadyH.cons (o := _) rfl (fun K hK => ?_) (AllReadyH.cons (o := _) rfl (fun K hK => ?_) AllReadyH.nil))
      · go_simp
        refine hK.out _ _ hHeld (fun hHeld => ?_)
        clear hK K
        try simp only [List.getElem_toArray, List.getElem_cons_succ, List.getElem_cons_zero, Act.put, List.setIfInBounds_toArray, List.set_cons_zero, List.set_cons_succ]
        refine wpAnyH_ready (rs := [2]) (by kernel_rfl) (by simp) ?_
        refine AllReadyH.cons (o := _) rfl (fun K hK => ?_) AllReadyH.nil
        go_simp
        (go_at_call 19; (with_reducible refine (of_is HRX).mono ?_); rintro e w6 ⟨rfl, hb⟩; replace HX := Lib.hid (HX.out.trans (hb.mono (Nat.le_of_lt HW.out.lt))); replace HW := Lib.hid (HW.out.keep hb HW.out.lt); have q0 := HW.out.cells 0 _ rfl; have q1 := HW.out.cells 1 _ rfl; have f0 := HW.out.free 0; have f1 := HW.out.free 1; clear hb)
        refine hK.out _ _ (HKS.out _ HX.out) (fun hHeld => ?_)
        clear hK K
        try simp only [List.getElem_toArray, List.getElem_cons_succ, List.getElem_cons_zero, Act.put, List.setIfInBounds_toArray, List.set_cons_zero, List.set_cons_succ]
        refine wpAnyH_ready (rs := [7]) (by kernel_rfl) (by simp) ?_
        refine AllReadyH.cons (o := _) rfl (fun K hK => ?_) AllReadyH.nil
        go_simp
        (go_at_call 19; (with_reducible refine (of_is HRY).mono ?_); rintro e w6 ⟨rfl, hb⟩; replace HX := Lib.hid (HX.out.trans (hb.mono (Nat.le_of_lt HW.out.lt))); replace HW := Lib.hid (HW.out.keep hb HW.out.lt); have q0 := HW.out.cells 0 _ rfl; have q1 := HW.out.cells 1 _ rfl; have f0 := HW.out.free 0; have f1 := HW.out.free 1; clear hb)
        refine hK.out _ _ (HKS.out _ HX.out) (fun hHeld => ?_)
        clear hK K
        try simp only [List.getElem_toArray, List.getElem_cons_succ, List.getElem_cons_zero, Act.put, List.setIfInBounds_toArray, List.set_cons_zero, List.set_cons_succ]
        refine wpAnyH_ready (rs := [8]) (by kernel_rfl) (by simp) ?_
        refine AllReadyH.cons (o := _) rfl (fun K hK => ?_) AllReadyH.nil
        go_simp
        (go_at_call 23; (with_reducible refine (times_is HFX HFY HRP).mono ?_); rintro e w6 ⟨rfl, hb⟩; replace HX := Lib.hid (HX.out.trans (hb.mono (Nat.le_of_lt HW.out.lt))); replace HW := Lib.hid (HW.out.keep hb HW.out.lt); have q0 := HW.out.cells 0 _ rfl; have q1 := HW.out.cells 1 _ rfl; have f0 := HW.out.free 0; have f1 := HW.out.free 1; clear hb)
        refine hK.out _ _ (HKS.out _ HX.out) (fun hHeld => ?_)
        clear hK K
        try simp only [List.getElem_toArray, List.getElem_cons_succ, List.getElem_cons_zero, Act.put, List.setIfInBounds_toArray, List.set_cons_zero, List.set_cons_succ]
        refine wpAnyH_ready (rs := [9]) (by kernel_rfl) (by simp) ?_
        refine AllReadyH.cons (o := _) rfl (fun K hK => ?_) AllReadyH.nil
        go_simp
        (go_at_call 22; (with_reducible refine (plus_is HFS HFP HRS).mono ?_); rintro e w6 ⟨rfl, hb⟩; replace HX := Lib.hid (HX.out.trans (hb.mono (Nat.le_of_lt HW.out.lt))); replace HW := Lib.hid (HW.out.keep hb HW.out.lt); have q0 := HW.out.cells 0 _ rfl; have q1 := HW.out.cells 1 _ rfl; have f0 := HW.out.free 0; have f1 := HW.out.free 1; clear hb)
        refine hK.out _ _ (HKS.out _ HX.out) (fun hHeld => ?_)
        clear hK K
        try simp only [List.getElem_toArray, List.getElem_cons_succ, List.getElem_cons_zero, Act.put, List.setIfInBounds_toArray, List.set_cons_zero, List.set_cons_succ]
        refine wpAnyH_ready (rs := [10]) (by kernel_rfl) (by simp) ?_
        refine AllReadyH.cons (o := _) rfl (fun K hK => ?_) AllReadyH.nil
        go_simp
        refine hK.out _ _ (HKS.out _ ((HX.out.setCell (p := ⟨w.heap.size + 1, 0, none⟩) (Nat.le_refl _) _).setCell (p := ⟨w.heap.size + 1, 1, none⟩) (Nat.le_refl _) _)) (fun hHeld => ?_)
        clear hK K
        try simp only [List.getElem_toArray, List.getElem_cons_succ, List.getElem_cons_zero, Act.put, List.setIfInBounds_toArray, List.set_cons_zero, List.set_cons_succ]
        refine wpAnyH_done (by kernel_rfl) ?_ _
        refine NoPanic.normal ?_
        have HW2 := Lib.hid (nums_put1 HW.out (r := rs))
        have HX2 := Lib.hid ((HX.out.setCell (p := ⟨w.heap.size + 1, 0, none⟩) (Nat.le_refl _) (.int .i64 (rs.getD 0))).setCell (p := ⟨w.heap.size + 1, 1, none⟩) (Nat.le_refl _) (.bool rs.isNone))
        go_wp2_with fail
        go_roundw
        case rel => exact ⟨k + 1, by omega, by go_num, HPS.out ▸ HW2, HX2⟩
        case measure => simp [intOf]; omega
      · go_simp
        (go_at_call 19; (with_reducible refine (of_is HRX).mono ?_); rintro e w6 ⟨rfl, hb⟩; replace HX := Lib.hid (HX.out.trans (hb.mono (Nat.le_of_lt HW.out.lt))); replace HW := Lib.hid (HW.out.keep hb HW.out.lt); have q0 := HW.out.cells 0 _ rfl; have q1 := HW.out.cells 1 _ rfl; have f0 := HW.out.free 0; have f1 := HW.out.free 1; clear hb)
        refine hK.out _ _ (HKS.out _ HX.out) (fun hHeld => ?_)
        clear hK K
        try simp only [List.getElem_toArray, List.getElem_cons_succ, List.getElem_cons_zero, Act.put, List.setIfInBounds_toArray, List.set_cons_zero, List.set_cons_succ]
        refine wpAnyH_ready (rs := [0, 7]) (by kernel_rfl) (by simp) ?_
        refine (AllReadyH.cons (o := _) rfl (fun K hK => ?_) (AllReadyH.cons (o := _) rfl (fun K hK => ?_) AllReadyH.nil))
        · go_simp
          refine hK.out _ _ hHeld (fun hHeld => ?_)
          clear hK K
          try simp only [List.getElem_toArray, List.getElem_cons_succ, List.getElem_cons_zero, Act.put, List.setIfInBounds_toArray, List.set_cons_zero, List.set_cons_succ]
          refine wpAnyH_ready (rs := [7]) (by kernel_rfl) (by simp) ?_
          refine AllReadyH.cons (o := _) rfl (fun K hK => ?_) AllReadyH.nil
          go_simp
          (go_at_call 19; (with_reducible refine (of_is HRY).mono ?_); rintro e w6 ⟨rfl, hb⟩; replace HX := Lib.hid (HX.out.trans (hb.mono (Nat.le_of_lt HW.out.lt))); replace HW := Lib.hid (HW.out.keep hb HW.out.lt); have q0 := HW.out.cells 0 _ rfl; have q1 := HW.out.cells 1 _ rfl; have f0 := HW.out.free 0; have f1 := HW.out.free 1; clear hb)
          refine hK.out _ _ (HKS.out _ HX.out) (fun hHeld => ?_)
          clear hK K
          try simp only [List.getElem_toArray, List.getElem_cons_succ, List.getElem_cons_zero, Act.put, List.setIfInBounds_toArray, List.set_cons_zero, List.set_cons_succ]
          refine wpAnyH_ready (rs := [8]) (by kernel_rfl) (by simp) ?_
          refine AllReadyH.cons (o := _) rfl (fun K hK => ?_) AllReadyH.nil
          go_simp
          (go_at_call 23; (with_reducible refine (times_is HFX HFY HRP).mono ?_); rintro e w6 ⟨rfl, hb⟩; replace HX := Lib.hid (HX.out.trans (hb.mono (Nat.le_of_lt HW.out.lt))); replace HW := Lib.hid (HW.out.keep hb HW.out.lt); have q0 := HW.out.cells 0 _ rfl; have q1 := HW.out.cells 1 _ rfl; have f0 := HW.out.free 0; have f1 := HW.out.free 1; clear hb)
          refine hK.out _ _ (HKS.out _ HX.out) (fun hHeld => ?_)
          clear hK K
          try simp only [List.getElem_toArray, List.getElem_cons_succ, List.getElem_cons_zero, Act.put, List.setIfInBounds_toArray, List.set_cons_zero, List.set_cons_succ]
          refine wpAnyH_ready (rs := [9]) (by kernel_rfl) (by simp) ?_
          refine AllReadyH.cons (o := _) rfl (fun K hK => ?_) AllReadyH.nil
          go_simp
          (go_at_call 22; (with_reducible refine (plus_is HFS HFP HRS).mono ?_); rintro e w6 ⟨rfl, hb⟩; replace HX := Lib.hid (HX.out.trans (hb.mono (Nat.le_of_lt HW.out.lt))); replace HW := Lib.hid (HW.out.keep hb HW.out.lt); have q0 := HW.out.cells 0 _ rfl; have q1 := HW.out.cells 1 _ rfl; have f0 := HW.out.free 0; have f1 := HW.out.free 1; clear hb)
          refine hK.out _ _ (HKS.out _ HX.out) (fun hHeld => ?_)
          clear hK K
          try simp only [List.getElem_toArray, List.getElem_cons_succ, List.getElem_cons_zero, Act.put, List.setIfInBounds_toArray, List.set_cons_zero, List.set_cons_succ]
          refine wpAnyH_ready (rs := [10]) (by kernel_rfl) (by simp) ?_
          refine AllReadyH.cons (o := _) rfl (fun K hK => ?_) AllReadyH.nil
          go_simp
          refine hK.out _ _ (HKS.out _ ((HX.out.setCell (p := ⟨w.heap.size + 1, 0, none⟩) (Nat.le_refl _) _).setCell (p := ⟨w.heap.size + 1, 1, none⟩) (Nat.le_refl _) _)) (fun hHeld => ?_)
          clear hK K
          try simp only [List.getElem_toArray, List.getElem_cons_succ, List.getElem_cons_zero, Act.put, List.setIfInBounds_toArray, List.set_cons_zero, List.set_cons_succ]
          refine wpAnyH_done (by kernel_rfl) ?_ _
          refine NoPanic.normal ?_
          have HW2 := Lib.hid (nums_put1 HW.out (r := rs))
          have HX2 := Lib.hid ((HX.out.setCell (p := ⟨w.heap.size + 1, 0, none⟩) (Nat.le_refl _) (.int .i64 (rs.getD 0))).setCell (p := ⟨w.heap.size + 1, 1, none⟩) (Nat.le_refl _) (.bool rs.isNone))
          go_wp2_with fail
          go_roundw
          case rel => exact ⟨k + 1, by omega, by go_num, HPS.out ▸ HW2, HX2⟩
          case measure => simp [intOf]; omega
        · go_simp
          (go_at_call 19; (with_reducible refine (of_is HRY).mono ?_); rintro e w6 ⟨rfl, hb⟩; replace HX := Lib.hid (HX.out.trans (hb.mono (Nat.le_of_lt HW.out.lt))); replace HW := Lib.hid (HW.out.keep hb HW.out.lt); have q0 := HW.out.cells 0 _ rfl; have q1 := HW.out.cells 1 _ rfl; have f0 := HW.out.free 0; have f1 := HW.out.free 1; clear hb)
          refine hK.out _ _ (HKS.out _ HX.out) (fun hHeld => ?_)
          clear hK K
          try simp only [List.getElem_toArray, List.getElem_cons_succ, List.getElem_cons_zero, Act.put, List.setIfInBounds_toArray, List.set_cons_zero, List.set_cons_succ]
          refine wpAnyH_ready (rs := [0, 8]) (by kernel_rfl) (by simp) ?_
          refine (AllReadyH.cons (o := _) rfl (fun K hK => ?_) (AllReadyH.cons (o := _) rfl (fun K hK => ?_) AllReadyH.nil))
          · go_simp
            refine hK.out _ _ hHeld (fun hHeld => ?_)
            clear hK K
            try simp only [List.getElem_toArray, List.getElem_cons_succ, List.getElem_cons_zero, Act.put, List.setIfInBounds_toArray, List.set_cons_zero, List.set_cons_succ]
            refine wpAnyH_ready (rs := [8]) (by kernel_rfl) (by simp) ?_
            refine AllReadyH.cons (o := _) rfl (fun K hK => ?_) AllReadyH.nil
            go_simp
            (go_at_call 23; (with_reducible refine (times_is HFX HFY HRP).mono ?_); rintro e w6 ⟨rfl, hb⟩; replace HX := Lib.hid (HX.out.trans (hb.mono (Nat.le_of_lt HW.out.lt))); replace HW := Lib.hid (HW.out.keep hb HW.out.lt); have q0 := HW.out.cells 0 _ rfl; have q1 := HW.out.cells 1 _ rfl; have f0 := HW.out.free 0; have f1 := HW.out.free 1; clear hb)
            refine hK.out _ _ (HKS.out _ HX.out) (fun hHeld => ?_)
            clear hK K
            try simp only [List.getElem_toArray, List.getElem_cons_succ, List.getElem_cons_zero, Act.put, List.setIfInBounds_toArray, List.set_cons_zero, List.set_cons_succ]
            refine wpAnyH_ready (rs := [9]) (by kernel_rfl) (by simp) ?_
            refine AllReadyH.cons (o := _) rfl (fun K hK => ?_) AllReadyH.nil
            go_simp
            (go_at_call 22; (with_reducible refine (plus_is HFS HFP HRS).mono ?_); rintro e w6 ⟨rfl, hb⟩; replace HX := Lib.hid (HX.out.trans (hb.mono (Nat.le_of_lt HW.out.lt))); replace HW := Lib.hid (HW.out.keep hb HW.out.lt); have q0 := HW.out.cells 0 _ rfl; have q1 := HW.out.cells 1 _ rfl; have f0 := HW.out.free 0; have f1 := HW.out.free 1; clear hb)
            refine hK.out _ _ (HKS.out _ HX.out) (fun hHeld => ?_)
            clear hK K
            try simp only [List.getElem_toArray, List.getElem_cons_succ, List.getElem_cons_zero, Act.put, List.setIfInBounds_toArray, List.set_cons_zero, List.set_cons_succ]
            refine wpAnyH_ready (rs := [10]) (by kernel_rfl) (by simp) ?_
            refine AllReadyH.cons (o := _) rfl (fun K hK => ?_) AllReadyH.nil
            go_simp
            refine hK.out _ _ (HKS.out _ ((HX.out.setCell (p := ⟨w.heap.size + 1, 0, none⟩) (Nat.le_refl _) _).setCell (p := ⟨w.heap.size + 1, 1, none⟩) (Nat.le_refl _) _)) (fun hHeld => ?_)
            clear hK K
            try simp only [List.getElem_toArray, List.getElem_cons_succ, List.getElem_cons_zero, Act.put, List.setIfInBounds_toArray, List.set_cons_zero, List.set_cons_succ]
            refine wpAnyH_done (by kernel_rfl) ?_ _
            refine NoPanic.normal ?_
            have HW2 := Lib.hid (nums_put1 HW.out (r := rs))
            have HX2 := Lib.hid ((HX.out.setCell (p := ⟨w.heap.size + 1, 0, none⟩) (Nat.le_refl _) (.int .i64 (rs.getD 0))).setCell (p := ⟨w.heap.size + 1, 1, none⟩) (Nat.le_refl _) (.bool rs.isNone))
            go_wp2_with fail
            go_roundw
            case rel => exact ⟨k + 1, by omega, by go_num, HPS.out ▸ HW2, HX2⟩
            case measure => simp [intOf]; omega
          · go_simp
            (go_at_call 23; (with_reducible refine (times_is HFX HFY HRP).mono ?_); rintro e w6 ⟨rfl, hb⟩; replace HX := Lib.hid (HX.out.trans (hb.mono (Nat.le_of_lt HW.out.lt))); replace HW := Lib.hid (HW.out.keep hb HW.out.lt); have q0 := HW.out.cells 0 _ rfl; have q1 := HW.out.cells 1 _ rfl; have f0 := HW.out.free 0; have f1 := HW.out.free 1; clear hb)
            refine hK.out _ _ (HKS.out _ HX.out) (fun hHeld => ?_)
            clear hK K
            try simp only [List.getElem_toArray, List.getElem_cons_succ, List.getElem_cons_zero, Act.put, List.setIfInBounds_toArray, List.set_cons_zero, List.set_cons_succ]
            refine wpAnyH_ready (rs := [0]) (by kernel_rfl) (by simp) ?_
            refine AllReadyH.cons (o := _) rfl (fun K hK => ?_) AllReadyH.nil
            go_simp
            refine hK.out _ _ hHeld (fun hHeld => ?_)
            clear hK K
            try simp only [List.getElem_toArray, List.getElem_cons_succ, List.getElem_cons_zero, Act.put, List.setIfInBounds_toArray, List.set_cons_zero, List.set_cons_succ]
            refine wpAnyH_ready (rs := [9]) (by kernel_rfl) (by simp) ?_
            refine AllReadyH.cons (o := _) rfl (fun K hK => ?_) AllReadyH.nil
            go_simp
            (go_at_call 22; (with_reducible refine (plus_is HFS HFP HRS).mono ?_); rintro e w6 ⟨rfl, hb⟩; replace HX := Lib.hid (HX.out.trans (hb.mono (Nat.le_of_lt HW.out.lt))); replace HW := Lib.hid (HW.out.keep hb HW.out.lt); have q0 := HW.out.cells 0 _ rfl; have q1 := HW.out.cells 1 _ rfl; have f0 := HW.out.free 0; have f1 := HW.out.free 1; clear hb)
            refine hK.out _ _ (HKS.out _ HX.out) (fun hHeld => ?_)
            clear hK K
            try simp only [List.getElem_toArray, List.getElem_cons_succ, List.getElem_cons_zero, Act.put, List.setIfInBounds_toArray, List.set_cons_zero, List.set_cons_succ]
            refine wpAnyH_ready (rs := [10]) (by kernel_rfl) (by simp) ?_
            refine AllReadyH.cons (o := _) rfl (fun K hK => ?_) AllReadyH.nil
            go_simp
            refine hK.out _ _ (HKS.out _ ((HX.out.setCell (p := ⟨w.heap.size + 1, 0, none⟩) (Nat.le_refl _) _).setCell (p := ⟨w.heap.size + 1, 1, none⟩) (Nat.le_refl _) _)) (fun hHeld => ?_)
            clear hK K
            try simp only [List.getElem_toArray, List.getElem_cons_succ, List.getElem_cons_zero, Act.put, List.setIfInBounds_toArray, List.set_cons_zero, List.set_cons_succ]
            refine wpAnyH_done (by kernel_rfl) ?_ _
            refine NoPanic.normal ?_
            have HW2 := Lib.hid (nums_put1 HW.out (r := rs))
            have HX2 := Lib.hid ((HX.out.setCell (p := ⟨w.heap.size + 1, 0, none⟩) (Nat.le_refl _) (.int .i64 (rs.getD 0))).setCell (p := ⟨w.heap.size + 1, 1, none⟩) (Nat.le_refl _) (.bool rs.isNone))
            go_wp2_with fail
            go_roundw
            case rel => exact ⟨k + 1, by omega, by go_num, HPS.out ▸ HW2, HX2⟩
            case measure => simp [intOf]; omega
    · have hki : ¬ (k : Int) < (n : Int) := by omega
      have HD : Hid (partO q.1 L k = dotR q.1 L) := Lib.hid (partO_all (by rw [List.length_zip, HLN.out, HMN.out]; omega))
      have hz := HW.out
      rw [HD.out] at hz
      have HB : Hid (Below w.heap.size w wr) := Lib.hid (HXA.out.trans (HX.out.mono (by omega)))
      have HWB : Hid (Whole wr w.heap.size [.slice A n c, .int .i64 q.2] 27) := Lib.hid (HWA.out.keep HX.out (Nat.lt_succ_self _))
      have a1 := HWB.out.cells 1 _ rfl
      cases hd : dotR q.1 L with
      | none =>
        rw [hd] at hz HR
        have HN : Hid (R = none) := Lib.hid HR.out
        have z0 := hz.cells 0 _ rfl
        have z1 : wr.cell? ⟨w.heap.size + 1, 1, none⟩ = some (.bool true) := hz.cells 1 _ rfl
        clear hd
        go_wp2_with fail
        go_ret2
        unfold ErrOut
        rw [HN.out]
        exact ⟨rfl, HB.out⟩
      | some u =>
        rw [hd] at hz HR
        have HN : Hid (R = some (decide (u ≤ q.2))) := Lib.hid HR.out
        have z0 : wr.cell? ⟨w.heap.size + 1, 0, none⟩ = some (.int .i64 u) := hz.cells 0 _ rfl
        have z1 : wr.cell? ⟨w.heap.size + 1, 1, none⟩ = some (.bool false) := hz.cells 1 _ rfl
        clear hd hz
        go_wp2_with fail
        go_ret2
        unfold ErrOut
        rw [HN.out]
        exact ⟨rfl, HB.out⟩

end Go.Proofs.Ytncbmjpfbkngdaa
