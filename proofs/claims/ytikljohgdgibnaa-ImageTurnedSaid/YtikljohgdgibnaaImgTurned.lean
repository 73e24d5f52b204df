/-
  The statement on images' bytes of which one is turned (ImageTurned), walked: it answers true.
-/
import Derived.Test.YtikljohgdgibnaaImgLaws
import Derived.Test.YtikljohgdgibnaaImgWords
import Derived.Deep.Cut
import Derived.Deep.RegionHeld3
namespace Go.Proofs.Ytikljohgdgibnaa
set_option maxRecDepth 100000
open Go.ChangeShapes Go.WideShapes Go.ChangeAt Go.RowKit
set_option linter.unusedVariables false
set_option linter.unusedSimpArgs false

theorem xor_u8 (x y : Nat) (hx : x < 256) (hy : y < 256) : bits .xor .u8 (x : Int) (y : Int) = ((x ^^^ y : Nat) : Int) := by
  have h1 : (BitVec.ofInt 8 (x : Int)).toNat = x := by rw [BitVec.toNat_ofInt]; omega
  have h2 : (BitVec.ofInt 8 (y : Int)).toNat = y := by rw [BitVec.toNat_ofInt]; omega
  show IntKind.u8.wrap ((BitVec.ofInt 8 (x : Int) ^^^ BitVec.ofInt 8 (y : Int)).toNat : Int) = _
  rw [BitVec.toNat_xor, h1, h2]
  exact wraps_u8 _ (Int.natCast_nonneg _) (by have : x ^^^ y < 2 ^ 8 := Nat.xor_lt_two_pow hx hy; exact_mod_cast this)
/-- A byte turned is another one. -/
theorem xor_other {x y : Int} (hx : 0 ≤ x ∧ x ≤ 255) (hy : 0 ≤ y ∧ y ≤ 255) (h0 : ¬ y = 0) : ¬ bits .xor .u8 x y = x ∧ 0 ≤ bits .xor .u8 x y ∧ bits .xor .u8 x y ≤ 255 := by
  obtain ⟨a, rfl⟩ := Int.eq_ofNat_of_zero_le hx.1
  obtain ⟨b, rfl⟩ := Int.eq_ofNat_of_zero_le hy.1
  rw [xor_u8 a b (by omega) (by omega)]
  have hl : a ^^^ b < 2 ^ 8 := Nat.xor_lt_two_pow (by omega) (by omega)
  refine ⟨fun h => h0 ?_, by omega, by omega⟩
  have h : a ^^^ b = a := by omega
  have h2 : a ^^^ (a ^^^ b) = b := by rw [← Nat.xor_assoc, Nat.xor_self, Nat.zero_xor]
  rw [h, Nat.xor_self] at h2
  omega
/-- A row of the call's own may be written. -/
theorem own_free {w : World} {B e g n c i : Nat} {xs : List Value} (h : w.ownsRow B e 1 (.slice (some ⟨g, 0, none⟩) n c) n xs) (hn : 0 < n) : w.frozen? ⟨g, i, none⟩ = false ∧ B ≤ g := by
  rcases h.2 with ⟨h1, _⟩ | ⟨g', cap, cur, h1, hb, hh, _⟩
  · cases h1
  · injection h1 with h1
    simp at h1
    subst h1
    exact ⟨by simp [World.frozen?, hh], hb⟩
/-- One of its things is written. -/
theorem lies_set {w : World} {g k : Nat} {L : List Int} {v : Int} (h : Lies w w.heap.size (some ⟨g, 0, none⟩) (L.map (Value.int .u8))) (hk : k < L.length) :
    Lies (w.setCell ⟨g, k, none⟩ (.int .u8 v)) (w.setCell ⟨g, k, none⟩ (.int .u8 v)).heap.size (some ⟨g, 0, none⟩) ((L.set k v).map (Value.int .u8)) := by
  intro j u hj
  have hgk := lies_cell h k (by simpa using hk)
  have hz : (w.setCell ⟨g, k, none⟩ (.int .u8 v)).heap.size = w.heap.size := by simp
  have hg : g < w.heap.size := World.block_lt_of_cell? w _ hgk
  refine ⟨_, rfl, by rw [hz]; exact hg, ?_⟩
  have ea : (Addr.add ⟨g, 0, none⟩ j) = ⟨g, j, none⟩ := by
    unfold Addr.add; split
    · rename_i h0; subst h0; rfl
    · simp
  rw [ea]
  rw [List.getElem?_map, List.getElem?_set] at hj
  by_cases e : k = j
  · subst e
    rw [if_pos rfl, if_pos hk] at hj
    simp at hj
    subst hj
    exact World.cell?_setCell_same (h := hgk) ..
  · rw [if_neg e] at hj
    rw [World.cell?_setCell_other (b := ⟨g, j, none⟩) (h := by intro x; injection x with _ x; exact e x)]
    have hjl : j < L.length := by
      rcases Nat.lt_or_ge j L.length with g | g
      · exact g
      · rw [List.getElem?_eq_none g] at hj; simp at hj
    rw [List.getElem?_eq_getElem hjl] at hj
    simp at hj
    have := lies_cell h j (by simpa using hjl)
    rw [this]
    simp [hj]
/-- An image by value that is another one, or ErrImage. -/
def DecAny (M : Img) (w : World) (e : Ending) (w' : World) : Prop :=
  ∃ h x er, e = .returned (.tuple #[imgV h x, .int .i64 er]) ∧ ImgIn w' w'.heap.size h x ∧ Below w.heap.size w w' ∧ (er = 2 ∨ (er = 0 ∧ ¬ x = M))
theorem decode_turned {w : World} {M : Img} {L : List Int} {g c n : Nat} (HE : Hid (¬ L = encImg M)) (HN : Hid (L.length = n)) (HL : Hid (L.length ≤ 8192)) (HR : Hid (∀ b ∈ L, 0 ≤ b ∧ b ≤ 255)) (HC : Hid (L.length ≤ c ∧ c ≤ 9223372036854775807)) (HLi : Hid (Lies w w.heap.size (some ⟨g, 0, none⟩) (L.map (Value.int .u8)))) :
    Calls Try.prog 14 #[.slice (some ⟨g, 0, none⟩) n c] w (DecAny M w) := by
  obtain rfl := HN.out
  refine (idecode_any L (some ⟨g, 0, none⟩) c w.heap.size w (by have := HL.out; omega) HC.out.1 HC.out.2 HR.out (fun h => by cases h) (Nat.le_refl _) HLi.out).mono ?_
  rintro e w' ⟨h, m, er, rfl, hi, hb, hd⟩
  exact ⟨h, m, er, rfl, hi, hb, dec_other HE.out hd⟩

set_option maxHeartbeats 3200000 in
theorem imgTurned_any (m : Img) (h : Hnd) (a t : Int) (w : World) (h0 : 0 ≤ a) (h1 : a ≤ 65535) (t0 : 0 ≤ t) (t1 : t ≤ 255) (H : ImgIn w w.heap.size h m) :
    Calls Try.prog 6 #[imgV h m, .int .u16 a, .int .u8 t] w fun e w' => e = .returned (.bool true) ∧ Below w.heap.size w w' := by
  have HW := Lib.hid (below_box (w := w) (h := h) (m := m))
  have HM := Lib.hid (Boxed.new H)
  clear H
  go_enter Try.func6, Try.ntmps6
  go_upto_region 1 with fail
  generalize w.alloc (imgO h m) = w1 at *
  obtain ⟨q0, q1, q2, q3, q4, q5, q6⟩ := HM.out.box
  by_cases ht : t = 0
  · subst ht
    go_wp2_with (first | (go_at_call 8; (with_reducible refine (small_is HM).mono ?_); rintro e w2 ⟨b, rfl, hb⟩; have HM := Lib.hid (HM.out.keep hb); have HW := Lib.hid (HW.out.trans (hb.mono HW.out.size)); obtain ⟨q0, q1, q2, q3, q4, q5, q6⟩ := HM.out.box; clear hb) | (go_at_call 9; (with_reducible refine (imgAwake_any _).mono ?_); rintro e w2 ⟨rfl, hb⟩; have HM := Lib.hid (HM.out.keep hb); have HW := Lib.hid (HW.out.trans (hb.mono HW.out.size)); obtain ⟨q0, q1, q2, q3, q4, q5, q6⟩ := HM.out.box; clear hb))
    all_goals
      go_ret
      exact ⟨rfl, HW.out⟩
  · have ht' : (t == 0) = false := beq_eq_false_iff_ne.mpr ht
    have HT := Lib.hid ht
    clear ht
    obtain ⟨r, hr⟩ : ∃ r, fitsB m = r := ⟨_, rfl⟩
    cases r
    · have HR := Lib.hid (encR_not hr)
      clear hr
      go_wp2_with (first | (go_at_call 8; (with_reducible refine (small_is HM).mono ?_); rintro e w2 ⟨b, rfl, hb⟩; have HM := Lib.hid (HM.out.keep hb); have HW := Lib.hid (HW.out.trans (hb.mono HW.out.size)); obtain ⟨q0, q1, q2, q3, q4, q5, q6⟩ := HM.out.box; clear hb) | (go_at_call 9; (with_reducible refine (imgAwake_any _).mono ?_); rintro e w2 ⟨rfl, hb⟩; have HM := Lib.hid (HM.out.keep hb); have HW := Lib.hid (HW.out.trans (hb.mono HW.out.size)); obtain ⟨q0, q1, q2, q3, q4, q5, q6⟩ := HM.out.box; clear hb) | (go_at_call 10; (with_reducible refine (encode_no HM HR).mono ?_); rintro e w2 ⟨A, c, rfl, hb⟩; have HM := Lib.hid (HM.out.keep hb); have HW := Lib.hid (HW.out.trans (hb.mono HW.out.size)); obtain ⟨q0, q1, q2, q3, q4, q5, q6⟩ := HM.out.box; clear hb))
      all_goals
        go_ret
        exact ⟨rfl, HW.out⟩
    · obtain ⟨L, hL⟩ : ∃ L, encImg m = L := ⟨_, rfl⟩
      by_cases hlen : 8192 < L.length
      · have HR := Lib.hid (encR_over hr (by rw [hL]; exact hlen))
        clear hr hL
        go_wp2_with (first | (go_at_call 8; (with_reducible refine (small_is HM).mono ?_); rintro e w2 ⟨b, rfl, hb⟩; have HM := Lib.hid (HM.out.keep hb); have HW := Lib.hid (HW.out.trans (hb.mono HW.out.size)); obtain ⟨q0, q1, q2, q3, q4, q5, q6⟩ := HM.out.box; clear hb) | (go_at_call 9; (with_reducible refine (imgAwake_any _).mono ?_); rintro e w2 ⟨rfl, hb⟩; have HM := Lib.hid (HM.out.keep hb); have HW := Lib.hid (HW.out.trans (hb.mono HW.out.size)); obtain ⟨q0, q1, q2, q3, q4, q5, q6⟩ := HM.out.box; clear hb) | (go_at_call 10; (with_reducible refine (encode_no HM HR).mono ?_); rintro e w2 ⟨A, c, rfl, hb⟩; have HM := Lib.hid (HM.out.keep hb); have HW := Lib.hid (HW.out.trans (hb.mono HW.out.size)); obtain ⟨q0, q1, q2, q3, q4, q5, q6⟩ := HM.out.box; clear hb))
        all_goals
          go_ret
          exact ⟨rfl, HW.out⟩
      · have HOK : Hid (OkImg m) := Lib.hid ⟨hr, img_ok HM.out.img⟩
        have hLp : 0 < L.length := by rw [← hL]; have := encImg_pos m; omega
        have HP := Lib.hid hLp
        have HE := Lib.hid hL
        have HR := Lib.hid (encR_ok hr (by rw [hL]; exact hlen))
        have HRG : Hid (∀ b ∈ L, 0 ≤ b ∧ b ≤ 255) := Lib.hid (by rw [← hL]; exact encImg_range m)
        rw [hL] at HR
        clear hr hL
        go_upto_region 6 with (first | (go_at_call 8; (with_reducible refine (small_is HM).mono ?_); rintro e w2 ⟨b, rfl, hb⟩; have HM := Lib.hid (HM.out.keep hb); have HW := Lib.hid (HW.out.trans (hb.mono HW.out.size)); obtain ⟨q0, q1, q2, q3, q4, q5, q6⟩ := HM.out.box; clear hb) | (go_at_call 9; (with_reducible refine (imgAwake_any _).mono ?_); rintro e w2 ⟨rfl, hb⟩; have HM := Lib.hid (HM.out.keep hb); have HW := Lib.hid (HW.out.trans (hb.mono HW.out.size)); obtain ⟨q0, q1, q2, q3, q4, q5, q6⟩ := HM.out.box; clear hb) | (go_at_call 10; (with_reducible refine (encode_ok HM HR HP).mono ?_); have HMe := HM; have HWe := HW; rintro e w2 ⟨g, c, rfl, ho, hl, hc, hcm, hb⟩; have HO := Lib.hid ho; have HL := Lib.hid hl; have HC := Lib.hid (And.intro hc hcm); have HBe := Lib.hid hb; have HM := Lib.hid (HM.out.keep hb); have HW := Lib.hid (HW.out.trans (hb.mono HW.out.size)); obtain ⟨q0, q1, q2, q3, q4, q5, q6⟩ := HM.out.box; clear ho hl hc hcm hb))
        all_goals (try (go_ret; exact ⟨rfl, HW.out⟩))
        obtain ⟨k, hk⟩ : ∃ k, a.toNat % L.length = k := ⟨_, rfl⟩
        have hklt : k < L.length := by rw [← hk]; exact Nat.mod_lt _ hLp
        have e1 : a % (L.length : Int) = (k : Int) := by rw [← hk, Int.natCast_emod, Int.toNat_of_nonneg h0]
        have e2 : a.tmod (L.length : Int) = (k : Int) := by rw [Int.tmod_eq_emod_of_nonneg h0]; exact e1
        have e4 : ((L.length : Int) == 0) = false := beq_eq_false_iff_ne.mpr (by omega)
        clear hk
        have hcell := lies_cell HL.out k (by simpa using hklt)
        simp only [List.getElem_map] at hcell
        have hfree := (own_free (i := k) HO.out hLp).1
        have hx := HRG.out L[k] (List.getElem_mem hklt)
        have HLS := Lib.hid (fun v => lies_set (v := v) HL.out hklt)
        have hxo := xor_other hx ⟨t0, t1⟩ HT.out
        have HNE : Hid (∀ v, ¬ v = L[k] → ¬ L.set k v = L) := Lib.hid (fun v hv e => hv (by have := congrArg (fun l => l[k]?) e; simp [hklt] at this; exact this))
        generalize L[k] = x at *
        obtain ⟨v, hv⟩ : ∃ v, bits .xor .u8 x t = v := ⟨_, rfl⟩
        rw [hv] at hxo
        have HL7 := Lib.hid (HLS.out v)
        have HNL : Hid (¬ L.set k v = encImg m) := Lib.hid (by rw [HE.out]; exact HNE.out v hxo.1)
        have HRG' : Hid (∀ b ∈ L.set k v, 0 ≤ b ∧ b ≤ 255) := Lib.hid (fun b hb => by
          rcases List.mem_or_eq_of_mem_set hb with g | rfl
          · exact HRG.out b g
          · exact hxo.2)
        have hB7 : Below _ _ (w2.setCell ⟨g, k, none⟩ (.int .u8 v)) := HBe.out.setCell (own_free (i := k) HO.out hLp).2 _
        have HM := Lib.hid (HMe.out.keep hB7)
        have HW := Lib.hid (HWe.out.trans (hB7.mono HWe.out.size))
        have HN7 : Hid ((L.set k v).length = L.length) := Lib.hid List.length_set
        have HL8 : Hid ((L.set k v).length ≤ 8192) := Lib.hid (by rw [List.length_set]; omega)
        have HC7 : Hid ((L.set k v).length ≤ c ∧ c ≤ 9223372036854775807) := Lib.hid (by rw [List.length_set]; exact HC.out)
        have hkc : k ≤ c := by have := HC.out; omega
        clear hxo HLS HNE hB7
        generalize L.set k v = L7 at *
        go_upto_region 7 with fail
        clear hcell hfree HL HBe q0 q1 q2 q3 q4 q5 q6
        generalize w2.setCell ⟨g, k, none⟩ (.int .u8 v) = w7 at *
        obtain ⟨q0, q1, q2, q3, q4, q5, q6⟩ := HM.out.box
        go_upto_region 8 with (go_at_call 14; (with_reducible refine (decode_turned HNL HN7 HL8 HRG' HC7 HL7).mono ?_); rintro e w2 ⟨h', x', er, rfl, hi', hb, hd⟩; have HD := Lib.hid hi'; have HDD := Lib.hid hd; have HM := Lib.hid (HM.out.keep hb); have HW := Lib.hid (HW.out.trans (hb.mono HW.out.size)); clear hi' hd hb)
        have HX := Lib.hid (Boxed.new HD.out)
        have HM := Lib.hid (HM.out.keep (below_box (h := h') (m := x')))
        have HW := Lib.hid (HW.out.trans ((below_box (h := h') (m := x')).mono HW.out.size))
        generalize hg5 : w2.heap.size = g5 at HX ⊢
        clear HD q0 q1 q2 q3 q4 q5 q6 hg5
        generalize w2.alloc (imgO h' x') = w4 at *
        obtain ⟨q0, q1, q2, q3, q4, q5, q6⟩ := HM.out.box
        obtain ⟨p0, p1, p2, p3, p4, p5, p6⟩ := HX.out.box
        rcases HDD.out with rfl | ⟨rfl, hxm⟩
        · go_wp2_with ((go_at_call 9; (with_reducible refine (imgAwake_any _).mono ?_); rintro e w2 ⟨rfl, hb⟩; have HM := Lib.hid (HM.out.keep hb); have HW := Lib.hid (HW.out.trans (hb.mono HW.out.size)); obtain ⟨q0, q1, q2, q3, q4, q5, q6⟩ := HM.out.box; clear hb))
          go_ret
          exact ⟨rfl, HW.out⟩
        · have HNX := Lib.hid hxm
          clear hxm
          go_wp2_with (first | (go_at_call 9; (with_reducible refine (imgAwake_any _).mono ?_); rintro e w2 ⟨rfl, hb⟩; have HM := Lib.hid (HM.out.keep hb); have HW := Lib.hid (HW.out.trans (hb.mono HW.out.size)); have HX := Lib.hid (HX.out.keep hb); obtain ⟨p0, p1, p2, p3, p4, p5, p6⟩ := HX.out.box; obtain ⟨q0, q1, q2, q3, q4, q5, q6⟩ := HM.out.box; clear hb) | (go_at_call 15; (with_reducible refine (rsame_is HX HM (Lib.hid (decide_eq_false HNX.out))).mono ?_); rintro e w2 ⟨rfl, hb⟩; have HM := Lib.hid (HM.out.keep hb); have HW := Lib.hid (HW.out.trans (hb.mono HW.out.size)); have HX := Lib.hid (HX.out.keep hb); obtain ⟨p0, p1, p2, p3, p4, p5, p6⟩ := HX.out.box; obtain ⟨q0, q1, q2, q3, q4, q5, q6⟩ := HM.out.box; clear hb))
          go_ret
          exact ⟨rfl, HW.out⟩
end Go.Proofs.Ytikljohgdgibnaa
