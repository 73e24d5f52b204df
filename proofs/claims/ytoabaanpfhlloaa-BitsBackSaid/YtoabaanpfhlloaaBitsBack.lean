/-
  The statement on numbers that are put and got again (BitsBack), walked: it answers true at any numbers.
-/
import Derived.Test.YtoabaanpfhlloaaBitsNone
import Derived.Deep.RegionHeld3
namespace Go.Proofs.Ytoabaanpfhlloaa
open Go.ChangeShapes Go.WideShapes Go.ChangeAt Go.RowKit
set_option linter.unusedVariables false

/-- Numbers, and numbers with a sign, as bytes, one behind the other. -/
def encN (l : List Int) : List Int := l.flatMap fun n => bytesOf n.toNat
def encS (l : List Int) : List Int := l.flatMap fun n => bytesOf (zig n).toNat
theorem encN_snoc (l : List Int) (n : Int) : encN (l ++ [n]) = encN l ++ bytesOf n.toNat := by unfold encN; simp
theorem encS_snoc (l : List Int) (n : Int) : encS (l ++ [n]) = encS l ++ bytesOf (zig n).toNat := by unfold encS; simp
theorem encN_cons (l : List Int) (n : Int) : encN (n :: l) = bytesOf n.toNat ++ encN l := by unfold encN; simp
theorem encS_cons (l : List Int) (n : Int) : encS (n :: l) = bytesOf (zig n).toNat ++ encS l := by unfold encS; simp
theorem encN_len : ∀ l : List Int, (∀ n ∈ l, 0 ≤ n ∧ n ≤ 4294967295) → (encN l).length ≤ 9 * l.length
  | [], _ => by simp [encN]
  | n :: l, h => by
    rw [encN_cons, List.length_append, List.length_cons]
    have := encN_len l fun m hm => h m (List.mem_cons_of_mem _ hm)
    have hn := h n List.mem_cons_self
    have := bytesOf_len9 (n := n.toNat) (by omega)
    omega
theorem encS_len : ∀ l : List Int, (∀ n ∈ l, -2147483648 ≤ n ∧ n ≤ 2147483647) → (encS l).length ≤ 9 * l.length
  | [], _ => by simp [encS]
  | n :: l, h => by
    rw [encS_cons, List.length_append, List.length_cons]
    have := encS_len l fun m hm => h m (List.mem_cons_of_mem _ hm)
    have hn := h n List.mem_cons_self
    have := zig_hi hn.1 hn.2
    have := bytesOf_len9 (n := (zig n).toNat) (by omega)
    omega
theorem encN_range (l : List Int) : ∀ b ∈ encN l, 0 ≤ b ∧ b ≤ 255 := by
  intro b hb
  unfold encN at hb
  obtain ⟨n, _, hn⟩ := List.mem_flatMap.mp hb
  exact bytesOf_range _ b hn
theorem encS_range (l : List Int) : ∀ b ∈ encS l, 0 ≤ b ∧ b ≤ 255 := by
  intro b hb
  unfold encS at hb
  obtain ⟨n, _, hn⟩ := List.mem_flatMap.mp hb
  exact bytesOf_range _ b hn
theorem both_range (l m : List Int) : ∀ b ∈ encN l ++ encS m, 0 ≤ b ∧ b ≤ 255 := by
  intro b hb
  rcases List.mem_append.mp hb with h | h
  · exact encN_range l b h
  · exact encS_range m b h
theorem get_bytes {n : Int} (r : List Int) (h0 : 0 ≤ n) (h1 : n ≤ 4294967295) : getR (bytesOf n.toNat ++ r) false 4294967295 = (n, r, false) := by
  have e := next_bytes (n := n.toNat) r (by omega)
  unfold getR
  rw [e, if_pos ⟨rfl, bytesOf_pos _, by omega⟩, List.drop_left]
  simp only [Prod.mk.injEq, and_true]
  omega
theorem take_more {l : List Int} {k : Nat} (h : k < l.length) : l.take (k + 1) = l.take k ++ [l[k]] := by
  rw [List.take_succ_eq_append_getElem h]

section
variable {w : World} {N B : Nat} {n : Int} {r : List Int}
theorem bget_next (HR : Hid (Rd w N (bytesOf n.toNat ++ r) false)) (HB : Hid (B ≤ N)) (HL : Hid ((bytesOf n.toNat ++ r).length ≤ 1048576)) (HG : Hid (∀ b ∈ bytesOf n.toNat ++ r, 0 ≤ b ∧ b ≤ 255)) (H0 : Hid (0 ≤ n ∧ n ≤ 4294967295)) :
    Calls Try.prog 16 #[.pointer (some ⟨N, 0, none⟩), .int .i64 4294967295] w (GetOut .i64 N B n r false w) := by
  have h := bget_any N B _ false 4294967295 w HL.out HG.out HB.out HR.out
  rw [get_bytes r H0.out.1 H0.out.2] at h
  exact h
theorem blong_next (HR : Hid (Rd w N (bytesOf (zig n).toNat ++ r) false)) (HB : Hid (B ≤ N)) (HL : Hid ((bytesOf (zig n).toNat ++ r).length ≤ 1048576)) (HG : Hid (∀ b ∈ bytesOf (zig n).toNat ++ r, 0 ≤ b ∧ b ≤ 255)) (H0 : Hid (-2147483648 ≤ n ∧ n ≤ 2147483647)) :
    Calls Try.prog 15 #[.pointer (some ⟨N, 0, none⟩)] w (GetOut .i32 N B n r false w) := by
  have h := breadlong_any N B _ false w HL.out HG.out HB.out HR.out
  rw [get_bytes r zig_lo (zig_hi H0.out.1 H0.out.2), zag_zig] at h
  exact h
end

set_option maxRecDepth 100000 in
set_option maxHeartbeats 6400000 in
theorem bitsBack_walk (L M : List Int) (A A' : Option Addr) (cap cap' : Nat) (w : World) (hl : L.length ≤ cap) (hm : cap ≤ 9223372036854775807) (hl' : M.length ≤ cap') (hm' : cap' ≤ 9223372036854775807)
    (hL : Lies w w.heap.size A (L.map (Value.int .u32))) (hM : Lies w w.heap.size A' (M.map (Value.int .i32))) (rL : ∀ n ∈ L, 0 ≤ n ∧ n ≤ 4294967295) (rM : ∀ n ∈ M, -2147483648 ≤ n ∧ n ≤ 2147483647) :
    Calls Try.prog 5 #[.slice A L.length cap, .slice A' M.length cap'] w fun e w' => e = .returned (.bool true) ∧ Below w.heap.size w w' := by
  have HL := Lib.hid hL
  have HM := Lib.hid hM
  have RL := Lib.hid rL
  have RM := Lib.hid rM
  have hLlen : L.length ≤ 9223372036854775807 := by omega
  have hMlen : M.length ≤ 9223372036854775807 := by omega
  clear hL hM rL rM hl hm hl' hm'
  have hcL : (50 : Int) < L.length ∨ (L.length : Int) ≤ 50 := by omega
  have hcM : (50 : Int) < M.length ∨ (M.length : Int) ≤ 50 := by omega
  have HTL := Lib.hid (encN_len (L.take 50) fun n hn => RL.out n (List.mem_of_mem_take hn))
  have HTM := Lib.hid (encS_len (M.take 50) fun n hn => RM.out n (List.mem_of_mem_take hn))
  rcases hcL with hcL | hcL <;> rcases hcM with hcM | hcM
  all_goals
    go_enter Try.func5, Try.ntmps5
    go_wp2_with fail
    go_loopw [5, 6] (fun v i wr => ∃ k : Nat, k ≤ L.length ∧ k ≤ 50 ∧ i = .int .i64 k ∧ wr.ownsRow w.heap.size 5 1 v (encN (L.take k)).length ((encN (L.take k)).map (Value.int .u8)) ∧ Below w.heap.size w wr) (fun _ i _ => 50 - (intOf i).toNat)
    case atStart => exact ⟨0, by omega, by omega, rfl, by simpa [encN] using own_empty w 5, (Below.refl _ _).alloc (Nat.le_refl _) _⟩
    case round =>
      obtain ⟨k, hk, hk5, rfl, hown, hnx⟩ := hrel
      have HO := Lib.hid hown
      have HX := Lib.hid hnx
      clear hown hnx
      have hcs : (k < L.length ∧ k < 50) ∨ (L.length ≤ k ∨ 50 ≤ k) := by omega
      rcases hcs with ⟨h1, h2⟩ | hend
      · obtain ⟨ad, rfl, hab, hc⟩ := (HL.out.below_to HX.out (Nat.le_refl _)).at_ (k := k) (by simpa using h1)
        have T1 := Lib.hid (take_more h1)
        have R1 := Lib.hid (RL.out L[k] (List.getElem_mem h1))
        have S1 := Lib.hid (encN_len (L.take k) fun n hn => RL.out n (List.mem_of_mem_take hn))
        simp only [List.getElem_map] at hc
        generalize L[k] = x at *
        obtain ⟨x0, x1⟩ := R1.out
        go_wp2_with (go_at_call 9; (with_reducible refine (bput_any (encN (L.take k)) _ x w.heap.size _ (by omega) (by have := S1.out; rw [List.length_take] at this; omega) HX.out.size HO.out).mono ?_); rintro e w2 ⟨v2, rfl, ho, hb⟩; rw [← encN_snoc, ← T1.out] at ho; have HO2 := Lib.hid ho; have HX2 := Lib.hid (HX.out.trans hb); clear ho hb)
        go_roundw
        case rel => exact ⟨k + 1, by omega, by omega, by go_num, HO2.out, HX2.out⟩
        case measure => simp [intOf]; omega
      · have hT : L.take k = L.take 50 := by
          rcases hend with h | h
          · rw [List.take_of_length_le h, List.take_of_length_le (by omega)]
          · rw [show k = 50 by omega]
        have hge : (50 : Int) ≤ k ∨ (L.length : Int) ≤ k := by omega
        have HO1 := Lib.hid (show wr.ownsRow w.heap.size 5 1 _ (encN (L.take 50)).length ((encN (L.take 50)).map (Value.int .u8)) from hT ▸ HO.out)
        clear hT HO hge
        go_wp2_with fail
        go_loopw [5, 7] (fun v i wr => ∃ k : Nat, k ≤ M.length ∧ k ≤ 50 ∧ i = .int .i64 k ∧ wr.ownsRow w.heap.size 5 1 v (encN (L.take 50) ++ encS (M.take k)).length ((encN (L.take 50) ++ encS (M.take k)).map (Value.int .u8)) ∧ Below w.heap.size w wr) (fun _ i _ => 50 - (intOf i).toNat)
        case atStart => exact ⟨0, by omega, by omega, rfl, by simpa [encS] using HO1.out, HX.out⟩
        case round =>
          clear HO1 HX hend hk hk5
          obtain ⟨q, hq, hq5, rfl, hown, hnx⟩ := hrel
          have HO := Lib.hid hown
          have HX := Lib.hid hnx
          clear hown hnx
          have hcs : (q < M.length ∧ q < 50) ∨ (M.length ≤ q ∨ 50 ≤ q) := by omega
          rcases hcs with ⟨h1, h2⟩ | hend
          · obtain ⟨ad, rfl, hab, hc⟩ := (HM.out.below_to HX.out (Nat.le_refl _)).at_ (k := q) (by simpa using h1)
            have T1 := Lib.hid (take_more h1)
            have R1 := Lib.hid (RM.out M[q] (List.getElem_mem h1))
            have S1 := Lib.hid (encS_len (M.take q) fun n hn => RM.out n (List.mem_of_mem_take hn))
            simp only [List.getElem_map] at hc
            generalize M[q] = x at *
            obtain ⟨x0, x1⟩ := R1.out
            go_wp2_with (go_at_call 10; (with_reducible refine (blong_any (encN (L.take 50) ++ encS (M.take q)) _ x w.heap.size _ x0 x1 (by have := S1.out; have := HTL.out; rw [List.length_take] at *; rw [List.length_append]; omega) HX.out.size HO.out).mono ?_); rintro e w2 ⟨v2, rfl, ho, hb⟩; rw [List.append_assoc, ← encS_snoc, ← T1.out] at ho; have HO2 := Lib.hid ho; have HX2 := Lib.hid (HX.out.trans hb); clear ho hb)
            go_roundw
            case rel => exact ⟨q + 1, by omega, by omega, by go_num, HO2.out, HX2.out⟩
            case measure => simp [intOf]; omega
          · have hT : M.take q = M.take 50 := by
              rcases hend with h | h
              · rw [List.take_of_length_le h, List.take_of_length_le (by omega)]
              · rw [show q = 50 by omega]
            have ho := HO.out
            rw [hT] at ho
            obtain ⟨A9, c9, rfl, hl9, ha9⟩ := own_slice_nil ho
            have HL9 := Lib.hid hl9
            have HA9 := Lib.hid ha9
            clear hT HO ho hl9 ha9
            have hz9 : (encN (L.take 50) ++ encS (M.take 50)).length ≤ 1048576 := by have := HTL.out; have := HTM.out; rw [List.length_take] at *; rw [List.length_append]; omega
            have HR9 := Lib.hid (both_range (L.take 50) (M.take 50))
            generalize hZ : encN (L.take 50) ++ encS (M.take 50) = Z at *
            have HZ := Lib.hid hZ
            clear hZ
            go_wp2_with (go_at_call 13; (with_reducible refine (bnew_any Z _ _ _ _ hz9 HR9.out HA9.out (Nat.le_refl _) HL9.out).mono ?_); rintro e w3 ⟨N, rfl, hN, hr, hb⟩; rw [← HZ.out] at hr; have HRd := Lib.hid hr; have HX3 := Lib.hid (HX.out.trans (hb.mono HX.out.size)); have HN : Hid (w.heap.size ≤ N) := Lib.hid (Nat.le_trans HX.out.size hN); clear hr hb hN)
            clear HX HL9 HA9 HR9 hz9 hend hq hq5
            go_loopw [9] (fun i wr => ∃ k : Nat, k ≤ L.length ∧ k ≤ 50 ∧ i = .int .i64 k ∧ Rd wr N (encN ((L.take 50).drop k) ++ encS (M.take 50)) false ∧ Below w.heap.size w wr) (fun i _ => 50 - (intOf i).toNat)
            case atStart => exact ⟨0, by omega, by omega, rfl, HRd.out, HX3.out⟩
            case round =>
              clear HRd HX3
              obtain ⟨k2, hk2, hk25, rfl, hrd, hnx⟩ := hrel
              have HRd := Lib.hid hrd
              have HX3 := Lib.hid hnx
              clear hrd hnx
              have hcs : (k2 < L.length ∧ k2 < 50) ∨ (L.length ≤ k2 ∨ 50 ≤ k2) := by omega
              rcases hcs with ⟨h1, h2⟩ | hend
              · obtain ⟨ad, rfl, hab, hc⟩ := (HL.out.below_to HX3.out (Nat.le_refl _)).at_ (k := k2) (by simpa using h1)
                have D1 := Lib.hid (List.drop_eq_getElem_cons (l := L.take 50) (i := k2) (by rw [List.length_take]; omega))
                have R1 := Lib.hid (RL.out L[k2] (List.getElem_mem h1))
                simp only [List.getElem_map] at hc
                rw [List.getElem_take] at D1
                generalize L[k2] = x at *
                obtain ⟨x0, x1⟩ := R1.out
                have i0 : (0 : Int) ≤ (k2 : Int) := by omega
                have i1 : (k2 : Int) < (L.length : Int) := by omega
                have hrd := HRd.out
                rw [D1.out, encN_cons, List.append_assoc] at hrd
                have HRx := Lib.hid (hrd.keep (Below.refl _ _).drew)
                have HRG : Hid (∀ b ∈ bytesOf x.toNat ++ (encN ((L.take 50).drop (k2 + 1)) ++ encS (M.take 50)), 0 ≤ b ∧ b ≤ 255) := Lib.hid (by
                  have h := both_range ((L.take 50).drop k2) (M.take 50)
                  rw [D1.out, encN_cons, List.append_assoc] at h
                  exact h)
                have HRL : Hid ((bytesOf x.toNat ++ (encN ((L.take 50).drop (k2 + 1)) ++ encS (M.take 50))).length ≤ 1048576) := Lib.hid (by
                  have h1 := encN_len ((L.take 50).drop (k2 + 1)) fun n hn => RL.out n (List.mem_of_mem_take (List.mem_of_mem_drop hn))
                  have h2 := HTM.out
                  have h3 := bytesOf_len9 (n := x.toNat) (by omega)
                  rw [List.length_drop, List.length_take] at h1
                  rw [List.length_take] at h2
                  rw [List.length_append, List.length_append]
                  omega)
                have hwx : IntKind.i64.wrap x = x := by rw [IntKind.wrap_i64]; omega
                clear hrd HRd D1
                go_wp2_with fail
                go_region_held3 (fun w' => w'.cell? (ad.add k2) = some (.int .u32 x))
                  (first | exact hc | exact hc2 | go_keep)
                  (first
                    | (go_at_call 16; (with_reducible refine (bget_next HRx HN HRL HRG R1).mono ?_); rintro e w4 ⟨rfl, hr, hb⟩; have hc2 := (hb.cell (p := ad.add k2) (by rw [addr_add_block]; exact hab)).trans hc; have HRd := Lib.hid hr; have HX4 := Lib.hid (HX3.out.drew.trans hb); clear hr hb))
                go_wp2
                go_roundw
                case rel => exact ⟨k2 + 1, by omega, by omega, by go_num, HRd.out, HX4.out⟩
                case measure => simp [intOf]; omega
              · have hT : (L.take 50).drop k2 = [] := List.drop_eq_nil_of_le (by rw [List.length_take]; omega)
                have hrd := HRd.out
                rw [hT] at hrd
                have HRd1 := Lib.hid (show Rd wr N (encS (M.take 50)) false by simpa [encN] using hrd)
                clear hT HRd hrd
                go_wp2_with fail
                go_loopw [10] (fun i wr => ∃ k : Nat, k ≤ M.length ∧ k ≤ 50 ∧ i = .int .i64 k ∧ Rd wr N (encS ((M.take 50).drop k)) false ∧ Below w.heap.size w wr) (fun i _ => 50 - (intOf i).toNat)
                case atStart => exact ⟨0, by omega, by omega, rfl, HRd1.out, HX3.out⟩
                case round =>
                  clear HRd1 HX3 hend hk2 hk25
                  obtain ⟨q2, hq2, hq25, rfl, hrd, hnx⟩ := hrel
                  have HRd := Lib.hid hrd
                  have HX3 := Lib.hid hnx
                  clear hrd hnx
                  have hcs : (q2 < M.length ∧ q2 < 50) ∨ (M.length ≤ q2 ∨ 50 ≤ q2) := by omega
                  rcases hcs with ⟨h1, h2⟩ | hend
                  · obtain ⟨ad, rfl, hab, hc⟩ := (HM.out.below_to HX3.out (Nat.le_refl _)).at_ (k := q2) (by simpa using h1)
                    have D1 := Lib.hid (List.drop_eq_getElem_cons (l := M.take 50) (i := q2) (by rw [List.length_take]; omega))
                    have R1 := Lib.hid (RM.out M[q2] (List.getElem_mem h1))
                    simp only [List.getElem_map] at hc
                    rw [List.getElem_take] at D1
                    generalize M[q2] = x at *
                    obtain ⟨x0, x1⟩ := R1.out
                    have i0 : (0 : Int) ≤ (q2 : Int) := by omega
                    have i1 : (q2 : Int) < (M.length : Int) := by omega
                    have hrd := HRd.out
                    rw [D1.out, encS_cons] at hrd
                    have HRx := Lib.hid (hrd.keep (Below.refl _ _).drew)
                    have HRG : Hid (∀ b ∈ bytesOf (zig x).toNat ++ encS ((M.take 50).drop (q2 + 1)), 0 ≤ b ∧ b ≤ 255) := Lib.hid (by
                      have h := encS_range ((M.take 50).drop q2)
                      rw [D1.out, encS_cons] at h
                      exact h)
                    have HRL : Hid ((bytesOf (zig x).toNat ++ encS ((M.take 50).drop (q2 + 1))).length ≤ 1048576) := Lib.hid (by
                      have h1 := encS_len ((M.take 50).drop (q2 + 1)) fun n hn => RM.out n (List.mem_of_mem_take (List.mem_of_mem_drop hn))
                      have h4 := zig_hi x0 x1
                      have h3 := bytesOf_len9 (n := (zig x).toNat) (by omega)
                      rw [List.length_drop, List.length_take] at h1
                      rw [List.length_append]
                      omega)
                    clear hrd HRd D1
                    go_wp2_with fail
                    go_region_held3 (fun w' => w'.cell? (ad.add q2) = some (.int .i32 x))
                      (first | exact hc | exact hc2 | go_keep)
                      (first
                        | (go_at_call 15; (with_reducible refine (blong_next HRx HN HRL HRG R1).mono ?_); rintro e w4 ⟨rfl, hr, hb⟩; have hc2 := (hb.cell (p := ad.add q2) (by rw [addr_add_block]; exact hab)).trans hc; have HRd := Lib.hid hr; have HX4 := Lib.hid (HX3.out.drew.trans hb); clear hr hb))
                    go_wp2
                    go_roundw
                    case rel => exact ⟨q2 + 1, by omega, by omega, by go_num, HRd.out, HX4.out⟩
                    case measure => simp [intOf]; omega
                  · have hT : (M.take 50).drop q2 = [] := List.drop_eq_nil_of_le (by rw [List.length_take]; omega)
                    have hrd := HRd.out
                    rw [hT] at hrd
                    have HRd1 := Lib.hid (show Rd wr N [] false by simpa [encS] using hrd)
                    clear hT HRd hrd
                    go_wp2_with (first
                      | (go_at_call 8; (with_reducible refine (bawake_any _).mono ?_); rintro e w5 ⟨rfl, hb⟩; have HRd2 := Lib.hid (HRd1.out.keep hb); have HX5 := Lib.hid (HX3.out.trans (hb.mono HX3.out.size)); clear hb)
                      | (go_at_call 18; (with_reducible refine (bend_k HRd2).mono ?_); rintro e w6 ⟨rfl, hb⟩; have HX6 := Lib.hid (HX5.out.trans (hb.mono HX5.out.size)); clear hb))
                    go_ret
                    exact ⟨rfl, HX6.out⟩
end Go.Proofs.Ytoabaanpfhlloaa
