/-
  What the document's own answer for all fields of a class (Fields) comes to.
  What the document's own answer for the type of a local (Local) comes to.
  What the document's own answer for the method in a slot (Slot) comes to.
-/
import Derived.Test.YtndacljmcofopaaM04
import Derived.Test.YtndacljmcofopaaM01
namespace Go.Proofs.Ytndacljmcofopaa
set_option maxRecDepth 100000
set_option linter.unusedVariables false
set_option linter.unusedSimpArgs false
open Go.ChangeShapes Go.WideShapes Go.ChangeAt Go.RowKit
set_option linter.unusedVariables false
set_option linter.unusedSimpArgs false

theorem info_type : (Try.prog.info? 38).map (fun i => (i.zero, i.size, i.bytes)) = some (some (.agg #[.int .i64 0, .int .i64 0]), 2, 16) := by kernel_rfl
theorem info_partsK {P : Program} {t : TypeId} {z : Value} {k b : Nat} (h : (P.info? t).map (fun i => (i.zero, i.size, i.bytes)) = some (some z, k, b)) : ∃ i, P.info? t = some i ∧ i.zero = some z ∧ i.size = k ∧ i.bytes = b := by
  cases hi : P.info? t with
  | none => rw [hi] at h; simp at h
  | some i =>
    rw [hi] at h
    simp only [Option.map_some, Option.some.injEq, Prod.mk.injEq] at h
    exact ⟨i, rfl, h.1, h.2.1, h.2.2⟩
/-- Types in a row of the call's own. -/
def OwnTypes (l : List (Int × Int)) (w : World) (e : Ending) (w' : World) : Prop :=
  ∃ v, e = .returned v ∧ w'.ownsRow w.heap.size 38 2 v l.length (tysV l) ∧ Below w.heap.size w w'
theorem int_lies {w : World} {B : Nat} {A : Option Addr} {l : List Int} (h : Lies w B A (l.map (Value.int .i64))) {k : Nat} (hk : k < l.length) : ∃ ad, A = some ad ∧ ad.block < B ∧ w.cell? (ad.add k) = some (.int .i64 l[k]) := by
  obtain ⟨ad, e, hb, hc⟩ := h.at_ (k := k) (by simpa using hk)
  simp only [List.getElem_map] at hc
  exact ⟨ad, e, hb, hc⟩
theorem fields_sum {cl : List Cls} (h : ∀ c ∈ cl, c.fields.length ≤ 1000) : ∀ l : List Int, (l.flatMap (fieldsAt cl)).length ≤ 1000 * l.length
  | [] => by simp
  | i :: l => by
    rw [List.flatMap_cons, List.length_append, List.length_cons]
    have := fields_sum h l
    have hi : (fieldsAt cl i).length ≤ 1000 := by
      unfold fieldsAt
      split
      · rename_i c hc
        exact h c (List.mem_of_getElem? hc)
      · simp
    omega

theorem rabove_is {sup U : List Int} {c : Int} {A : Option Addr} {cap n : Nat} {w : World} (HN : Hid (sup.length = n)) (hn : n ≤ 1048576) (HU : Hid (aboveI sup c = U)) (HS : Hid (Supers w w.heap.size A sup)) :
    Calls Try.prog 33 #[.slice A n cap, .int .i64 c] w (OwnInts U w) := by
  obtain rfl := HN.out
  have h := rabove_any sup c A cap w.heap.size w hn (Nat.le_refl _) HS.out
  rw [HU.out] at h
  exact h
theorem fieldsAt_get {cl : List Cls} {i : Nat} (h : i < cl.length) : fieldsAt cl (i : Int) = cl[i].fields := by
  unfold fieldsAt
  rw [Int.toNat_natCast, List.getElem?_eq_getElem h]

set_option maxHeartbeats 1600000 in
theorem rfields_any (m : Img) (c : Int) (h : Hnd) (w : World) (H : ImgIn w w.heap.size h m) (hn : m.classes.length ≤ 1000) (hf : ∀ x ∈ m.classes, x.fields.length ≤ 1000) :
    Calls Try.prog 29 #[imgV h m, .int .i64 c] w (OwnTypes (fieldsOf m.classes c) w) := by
  obtain ⟨i0, hi, hz0, hz1, hz2⟩ := info_partsK info_type
  have HW := Lib.hid ((Below.refl w.heap.size w).alloc (Nat.le_refl _) (imgO h m))
  have HIM := Lib.hid (H.now HW.out)
  have HBX := Lib.hid (img_box w h m)
  have HZ : Hid (w.heap.size < (w.alloc (imgO h m)).heap.size) := Lib.hid (by simp)
  have HF := Lib.hid hf
  have HS := Lib.hid (supers_of HIM.out.classes.row)
  have hsl : (supsOf m.classes).length = m.classes.length := supsOf_len _
  have HFO := Lib.hid (show fieldsOf m.classes c = (aboveI (supsOf m.classes) c).reverse.flatMap (fieldsAt m.classes) from rfl)
  obtain ⟨U, hU⟩ : ∃ U, aboveI (supsOf m.classes) c = U := ⟨_, rfl⟩
  have hUl : U.length ≤ 1000 := by rw [← hU]; have := aboveI_len (supsOf m.classes) c; omega
  have HUm : Hid (∀ i ∈ U, 0 ≤ i ∧ i < m.classes.length) := Lib.hid (by rw [← hU]; intro i hi; have := aboveI_lt hi; omega)
  have HU := Lib.hid hU
  rw [hU] at HFO
  have HSl := Lib.hid hsl
  clear hsl hU H hf
  go_enter Try.func29, Try.ntmps29
  go_upto_region 1 with fail
  generalize w.alloc (imgO h m) = w1 at *
  obtain ⟨q0, q1, q2, q3, q4, q5, q6⟩ := HBX.out
  go_upto_region 2 with (go_at_call 33; (with_reducible refine (rabove_is HSl (by omega) HU HS).mono ?_); rintro e w2 ⟨v2, rfl, ho, hb⟩; have HB2 := Lib.hid hb; obtain ⟨A2, c2, rfl, hl2, g1, g2⟩ := own_ints ho; have HL2 := Lib.hid hl2; clear hb ho hl2)
  have HI2 := Lib.hid (HIM.out.now HB2.out)
  clear q0 q1 q2 q3 q4 q5 q6
  obtain ⟨q0, q1, q2, q3, q4, q5, q6⟩ := HBX.out.keep HB2.out HZ.out
  go_wp2
  go_loopw [6, 7] (fun v i wr => ∃ (k : Nat) (z : Int), k ≤ U.length ∧ i = .int .i64 z ∧ z = (k : Int) - 1 ∧ Hid (wr.ownsRow w2.heap.size 38 2 v ((U.drop k).reverse.flatMap (fieldsAt m.classes)).length (tysV ((U.drop k).reverse.flatMap (fieldsAt m.classes)))) ∧ Hid (Below w2.heap.size w2 wr)) (fun _ i _ => (intOf i + 1).toNat)
  case atStart => exact ⟨U.length, _, Nat.le_refl _, rfl, rfl, Lib.hid (by rw [List.drop_length]; exact own_emptyK w2 _ 2), Lib.hid ((Below.refl _ _).alloc (Nat.le_refl _) _)⟩
  case round =>
    clear q0 q1 q2 q3 q4 q5 q6
    obtain ⟨k, z, hk, rfl, hz, HO, HX⟩ := hrel
    rcases k with _ | j
    · obtain rfl : z = -1 := by omega
      clear hz
      go_wp2_with fail
      go_ret
      refine ⟨_, rfl, ?_, HW.out.trans ((HB2.out.trans (HX.out.mono HB2.out.size)).mono (Nat.le_of_lt HZ.out))⟩
      rw [HFO.out]
      exact own_lower (by simpa using HO.out) (Nat.le_trans (Nat.le_of_lt HZ.out) HB2.out.size)
    · obtain rfl : z = (j : Int) := by omega
      clear hz
      have hjl : j < U.length := hk
      obtain ⟨q0, q1, q2, q3, q4, q5, q6⟩ := HBX.out.keep (HB2.out.trans (HX.out.mono HB2.out.size)) HZ.out
      obtain ⟨ad, rfl, had, hc⟩ := int_lies HL2.out hjl
      obtain ⟨u0, u1⟩ := HUm.out U[j] (List.getElem_mem hjl)
      have HT : Hid ((U.drop j).reverse.flatMap (fieldsAt m.classes) = (U.drop (j + 1)).reverse.flatMap (fieldsAt m.classes) ++ fieldsAt m.classes U[j]) := Lib.hid (by rw [List.drop_eq_getElem_cons hjl, List.reverse_cons, List.flatMap_append, List.flatMap_singleton])
      have hsum := fields_sum HF.out (U.drop (j + 1)).reverse
      have hsl : (U.drop (j + 1)).reverse.length ≤ 1000 := by rw [List.length_reverse, List.length_drop]; omega
      generalize U[j] = u at *
      obtain ⟨n, rfl⟩ := Int.eq_ofNat_of_zero_le u0
      have hnl : n < m.classes.length := by omega
      have hfx := HF.out _ (List.getElem_mem hnl)
      have HFA := Lib.hid (fieldsAt_get hnl)
      obtain ⟨adc, e0, hab, hcl⟩ := HI2.out.classes.row.at_ hnl
      generalize m.classes[n] = x at *
      rw [HFA.out] at HT
      obtain ⟨L, hL⟩ : ∃ L, (U.drop (j + 1)).reverse.flatMap (fieldsAt m.classes) = L := ⟨_, rfl⟩
      rw [hL] at HT HO hsum
      have hLl : L.length ≤ 1000000 := by omega
      obtain ⟨s0, ⟨A1, k1, s1, hs1⟩, _⟩ := hcl
      rw [e0] at q0
      have HC2 : Hid (∀ W, Below w2.heap.size w2 W → W.cell? (ad.add j) = some (.int .i64 (n : Int))) := Lib.hid (fun W hW => (hW.cell (p := ad.add j) (by rw [addr_add_block]; exact had)).trans hc)
      have HS2 : Hid (∀ W, Below w2.heap.size w2 W → W.cell? (off_ (adc.add (n * 3)) 1) = some (.slice A1 x.fields.length k1)) := Lib.hid (fun W hW => (hW.cell (p := off_ (adc.add (n * 3)) 1) (by show (adc.add _).block < _; rw [addr_add_block]; exact hab)).trans s1)
      have HQ2 : Hid (∀ W, Below w2.heap.size w2 W → W.cell? ⟨w.heap.size, 0, none⟩ = some (.slice (some adc) m.classes.length h.c0)) := Lib.hid (fun W hW => by have := (HBX.out.keep (HB2.out.trans (hW.mono HB2.out.size)) HZ.out).1; rw [e0] at this; exact this)
      have hc := HC2.out _ HX.out
      have s1 := HS2.out _ HX.out
      have HTL := Lib.hid (tys_lie (hs1.below_to TyAt.keeps HX.out (Nat.le_refl _)).row)
      have bc1 := HI2.out.classes.le
      have bc2 := HI2.out.classes.cap
      have hs2 := hs1.le
      have hs3 := hs1.cap
      have hsz := HX.out.size
      clear e0 hs1 hL hsum hsl s0 u0 u1
      go_upto_region 6 with fail
      have HO : Hid (wr.drew.ownsRow w2.heap.size 38 2 u6 L.length (tysV L)) := HO
      have HX : Hid (Below w2.heap.size w2 wr.drew) := Lib.hid HX.out.drew
      have HTL : Hid (Lies wr.drew w2.heap.size A1 (tysV x.fields)) := HTL
      have hsz : w2.heap.size ≤ wr.drew.heap.size := hsz
      refine wp_region_noPanic ?_
      refine wp_region_held_drew (S := (fun w' => w'.cell? ⟨w.heap.size, 0, none⟩ = some (.slice (some adc) m.classes.length h.c0) ∧ w'.cell? (ad.add j) = some (.int .i64 (n : Int)) ∧ w'.cell? (off_ (adc.add (n * 3)) 1) = some (.slice A1 x.fields.length k1))) (by kernel_rfl) ⟨q0, hc, s1⟩ (fun hHeld => ?_)
      refine wpAnyH_take (i := 0) (oi := _) (v := ?_) rfl (by kernel_rfl) (by kernel_rfl) (by kernel_rfl) (fun _ _ _ h => h) (Or.inl ⟨by rfl, ?_⟩) (by assumption) ?_
      rotate_left
      · (intro w hSw; (try dsimp only at hSw); go_simp <;> with_reducible rfl)
      try simp only [List.getElem_toArray, List.getElem_cons_succ, List.getElem_cons_zero, Act.put, List.setIfInBounds_toArray, List.set_cons_zero, List.set_cons_succ]
      refine wpAnyH_take (i := 1) (oi := _) (v := ?_) rfl (by kernel_rfl) (by kernel_rfl) (by kernel_rfl) (fun _ _ _ h => h) (Or.inl ⟨by rfl, ?_⟩) (by assumption) ?_
      rotate_left
      · (intro w hSw; (try dsimp only at hSw); go_simp <;> with_reducible rfl)
      try simp only [List.getElem_toArray, List.getElem_cons_succ, List.getElem_cons_zero, Act.put, List.setIfInBounds_toArray, List.set_cons_zero, List.set_cons_succ]
      refine wpAnyH_take (i := 2) (oi := _) (v := ?_) rfl (by kernel_rfl) (by kernel_rfl) (by kernel_rfl) (fun _ _ _ h => h) (Or.inl ⟨by rfl, ?_⟩) (by assumption) ?_
      rotate_left
      · (intro w hSw; (try dsimp only at hSw); go_simp <;> with_reducible rfl)
      try simp only [List.getElem_toArray, List.getElem_cons_succ, List.getElem_cons_zero, Act.put, List.setIfInBounds_toArray, List.set_cons_zero, List.set_cons_succ]
      refine wpAnyH_take (i := 3) (oi := _) (v := ?_) rfl (by kernel_rfl) (by kernel_rfl) (by kernel_rfl) (fun _ _ _ h => h) (Or.inl ⟨by rfl, ?_⟩) (by assumption) ?_
      rotate_left
      · (intro w hSw; (try dsimp only at hSw); go_simp <;> with_reducible rfl)
      try simp only [List.getElem_toArray, List.getElem_cons_succ, List.getElem_cons_zero, Act.put, List.setIfInBounds_toArray, List.set_cons_zero, List.set_cons_succ]
      refine wpAnyH_take (i := 4) (oi := _) (v := ?_) rfl (by kernel_rfl) (by kernel_rfl) (by kernel_rfl) (fun _ _ _ h => h) (Or.inl ⟨by rfl, ?_⟩) (by assumption) ?_
      rotate_left
      · (intro w hSw; (try dsimp only at hSw); go_simp <;> with_reducible rfl)
      try simp only [List.getElem_toArray, List.getElem_cons_succ, List.getElem_cons_zero, Act.put, List.setIfInBounds_toArray, List.set_cons_zero, List.set_cons_succ]
      refine wpAnyH_take (i := 5) (oi := _) (v := ?_) rfl (by kernel_rfl) (by kernel_rfl) (by kernel_rfl) (fun _ _ _ h => h) (Or.inl ⟨by rfl, ?_⟩) (by assumption) ?_
      rotate_left
      · (intro w hSw; (try dsimp only at hSw); go_simp <;> with_reducible rfl)
      try simp only [List.getElem_toArray, List.getElem_cons_succ, List.getElem_cons_zero, Act.put, List.setIfInBounds_toArray, List.set_cons_zero, List.set_cons_succ]
      refine wpAnyH_take (i := 6) (oi := _) (v := ?_) rfl (by kernel_rfl) (by kernel_rfl) (by kernel_rfl) (fun _ _ _ h => h) (Or.inl ⟨by rfl, ?_⟩) (by assumption) ?_
      rotate_left
      · (intro w hSw; (try dsimp only at hSw); go_simp <;> with_reducible rfl)
      try simp only [List.getElem_toArray, List.getElem_cons_succ, List.getElem_cons_zero, Act.put, List.setIfInBounds_toArray, List.set_cons_zero, List.set_cons_succ]
      refine wpAnyH_take (i := 7) (oi := _) (v := ?_) rfl (by kernel_rfl) (by kernel_rfl) (by kernel_rfl) (fun _ _ _ h => h) (Or.inl ⟨by rfl, ?_⟩) (by assumption) ?_
      rotate_left
      · (intro w hSw; (try dsimp only at hSw); go_simp <;> with_reducible rfl)
      try simp only [List.getElem_toArray, List.getElem_cons_succ, List.getElem_cons_zero, Act.put, List.setIfInBounds_toArray, List.set_cons_zero, List.set_cons_succ]
      refine wpAnyH_take (i := 8) (oi := _) (v := ?_) rfl (by kernel_rfl) (by kernel_rfl) (by kernel_rfl) (fun _ _ _ h => h) (Or.inl ⟨by rfl, ?_⟩) (by assumption) ?_
      rotate_left
      · (intro w hSw; (try dsimp only at hSw); go_simp <;> with_reducible rfl)
      try simp only [List.getElem_toArray, List.getElem_cons_succ, List.getElem_cons_zero, Act.put, List.setIfInBounds_toArray, List.set_cons_zero, List.set_cons_succ]
      refine wpAnyH_take (i := 9) (oi := _) (v := ?_) rfl (by kernel_rfl) (by kernel_rfl) (by kernel_rfl) (fun _ _ _ h => h) (Or.inl ⟨by rfl, ?_⟩) (by assumption) ?_
      rotate_left
      · (intro w hSw; (try dsimp only at hSw); go_simp <;> with_reducible rfl)
      try simp only [List.getElem_toArray, List.getElem_cons_succ, List.getElem_cons_zero, Act.put, List.setIfInBounds_toArray, List.set_cons_zero, List.set_cons_succ]
      refine wpAnyH_ready (rs := [10]) (by kernel_rfl) (by simp) ?_
      refine AllReadyH.cons (o := _) rfl (fun K hK => ?_) AllReadyH.nil
      (refine step_appK rfl _ _ 23 rfl w2.heap.size 38 i0 (.agg #[.int .i64 0, .int .i64 0]) 2 16 Try.underlying23 hi hz0 hz1 hz2 rfl (by decide) _ L.length (tysV L) rfl HO.out A1 x.fields.length k1 _ (tysV x.fields) (tysV_len _) rfl HTL.out (tysV_one _) (by unfold maxLen; omega) (by omega) hsz ?_; intro v6 w6 hown hgrow; have HX6 := Lib.hid (appK_more HX.out HO.out hsz hgrow); have HO6 := Lib.hid hown; clear hown hgrow)
      refine hK.out _ _ ⟨HQ2.out _ HX6.out, HC2.out _ HX6.out, HS2.out _ HX6.out⟩ (fun hHeld => ?_)
      clear hK K
      try simp only [List.getElem_toArray, List.getElem_cons_succ, List.getElem_cons_zero, Act.put, List.setIfInBounds_toArray, List.set_cons_zero, List.set_cons_succ]
      refine wpAnyH_take (i := 11) (oi := _) (v := ?_) rfl (by kernel_rfl) (by kernel_rfl) (by kernel_rfl) (fun _ _ _ h => h) (Or.inl ⟨by rfl, ?_⟩) (by assumption) ?_
      rotate_left
      · (intro w hSw; (try dsimp only at hSw); go_simp <;> with_reducible rfl)
      try simp only [List.getElem_toArray, List.getElem_cons_succ, List.getElem_cons_zero, Act.put, List.setIfInBounds_toArray, List.set_cons_zero, List.set_cons_succ]
      refine wpAnyH_done (by kernel_rfl) ?_ _
      refine NoPanic.normal ?_
      go_wp2_with fail
      go_roundw
      case rel =>
        refine ⟨j, (j : Int) - 1, by omega, by go_num, rfl, Lib.hid ?_, HX6⟩
        rw [HT.out]
        unfold tysV at HO6 ⊢
        rw [List.flatMap_append, List.length_append]
        exact HO6.out
      case measure => simp [intOf]
section
variable {m : Img} {h : Hnd} {w0 w : World} {c : Int}
theorem rfields_is {L : List (Int × Int)} (HI : Hid (ImgIn w0 w0.heap.size h m)) (HX : Hid (Below w0.heap.size w0 w)) (HL : Hid (fieldsOf m.classes c = L)) (hn : m.classes.length ≤ 1000) (HF : Hid (∀ x ∈ m.classes, x.fields.length ≤ 1000)) :
    Calls Try.prog 29 #[imgV h m, .int .i64 c] w (OwnTypes L w) := by
  have H := rfields_any m c h w (HI.out.now HX.out) hn HF.out
  rw [HL.out] at H
  exact H
end
theorem fieldsOf_len {cl : List Cls} (h : ∀ c ∈ cl, c.fields.length ≤ 1000) (hn : cl.length ≤ 1000) (c : Int) : (fieldsOf cl c).length ≤ 1000000 := by
  have h1 := fields_sum h (aboveI (supsOf cl) c).reverse
  have h2 := aboveI_len (supsOf cl) c
  rw [supsOf_len] at h2
  rw [List.length_reverse] at h1
  show ((aboveI (supsOf cl) c).reverse.flatMap (fieldsAt cl)).length ≤ 1000000
  omega
end Go.Proofs.Ytndacljmcofopaa
namespace Go.Proofs.Ytndacljmcofopaa
set_option maxRecDepth 100000
set_option linter.unusedVariables false
set_option linter.unusedSimpArgs false
open Go.ChangeShapes Go.WideShapes Go.ChangeAt Go.RowKit

set_option maxHeartbeats 1600000 in
theorem rlocal_any (x : Mth) (n : Int) (hs : n ≤ 9223372036854775807) (hx : MHnd) (w : World) (H : MthIn w w.heap.size hx x) (ha : x.args.length ≤ 1048576) (hl : x.locals.length ≤ 1048576) :
    Calls Try.prog 28 #[mthV hx x, .int .i64 n] w fun e w' => e = .returned (tyV (localOf x n).1 (localOf x n).2) ∧ Below w.heap.size w w' := by
  obtain ⟨i0, hi, hz0, hz1, hz2⟩ := info_partsK info_type
  have HW := Lib.hid (((Below.refl w.heap.size w).alloc (Nat.le_refl _) (.cells (mthL hx x).toArray 41)).alloc (by simp) (.cells #[.int .i64 0, .int .i64 0] 38))
  have HQ := Lib.hid (show Whole ((w.alloc (.cells (mthL hx x).toArray 41)).alloc (.cells #[.int .i64 0, .int .i64 0] 38)) (w.heap.size + 1) [.int .i64 0, .int .i64 0] 38 from Whole.at_ (by simp) _ _)
  have HC := Lib.hid ((cells_new w (mthL hx x) 41).keep ((Below.refl _ _).alloc (Nat.le_refl _) (.cells #[.int .i64 0, .int .i64 0] 38)) (by simp))
  have HM := Lib.hid (H.now HW.out)
  obtain ⟨t, ht⟩ : ∃ t, localOf x n = t := ⟨_, rfl⟩
  rw [ht]
  have HR := Lib.hid ht
  clear H ht
  go_enter Try.func28, Try.ntmps28
  go_upto_region 1 with fail
  generalize (w.alloc (.cells (mthL hx x).toArray 41)).alloc (.cells #[.int .i64 0, .int .i64 0] 38) = w1 at *
  have q0 := HC.out 0 _ rfl
  have q1 := HC.out 1 _ rfl
  have hlt := HQ.out.lt
  have HC0 : Hid (∀ W, Below w1.heap.size w1 W → W.cell? ⟨w.heap.size, 0, none⟩ = some (.slice hx.A0 x.args.length hx.k0)) := Lib.hid (fun W hW => (hW.cell (p := ⟨w.heap.size, 0, none⟩) (by show w.heap.size < _; omega)).trans q0)
  have HC1 : Hid (∀ W, Below w1.heap.size w1 W → W.cell? ⟨w.heap.size, 1, none⟩ = some (.slice hx.A1 x.locals.length hx.k1)) := Lib.hid (fun W hW => (hW.cell (p := ⟨w.heap.size, 1, none⟩) (by show w.heap.size < _; omega)).trans q1)
  have HA := Lib.hid (tys_lie HM.out.args.row)
  have HL := Lib.hid (tys_lie HM.out.locals.row)
  clear HC
  go_wp2
  refine wp_region_noPanic ?_
  refine wp_region_held_drew (S := (fun w' => w'.cell? ⟨w.heap.size, 0, none⟩ = some (.slice hx.A0 x.args.length hx.k0) ∧ w'.cell? ⟨w.heap.size, 1, none⟩ = some (.slice hx.A1 x.locals.length hx.k1))) (by kernel_rfl) ⟨q0, q1⟩ (fun hHeld => ?_)
  refine wpAnyH_take (i := 1) (oi := _) (v := ?_) rfl (by kernel_rfl) (by kernel_rfl) (by kernel_rfl) (fun _ _ _ h => h) (Or.inl ⟨by rfl, ?_⟩) (by assumption) ?_
  rotate_left
  · (intro w hSw; (try dsimp only at hSw); go_simp <;> with_reducible rfl)
  try simp only [List.getElem_toArray, List.getElem_cons_succ, List.getElem_cons_zero, Act.put, List.setIfInBounds_toArray, List.set_cons_zero, List.set_cons_succ]
  refine wpAnyH_take (i := 2) (oi := _) (v := ?_) rfl (by kernel_rfl) (by kernel_rfl) (by kernel_rfl) (fun _ _ _ h => h) (Or.inl ⟨by rfl, ?_⟩) (by assumption) ?_
  rotate_left
  · (intro w hSw; (try dsimp only at hSw); go_simp <;> with_reducible rfl)
  try simp only [List.getElem_toArray, List.getElem_cons_succ, List.getElem_cons_zero, Act.put, List.setIfInBounds_toArray, List.set_cons_zero, List.set_cons_succ]
  refine wpAnyH_take (i := 4) (oi := _) (v := ?_) rfl (by kernel_rfl) (by kernel_rfl) (by kernel_rfl) (fun _ _ _ h => h) (Or.inl ⟨by rfl, ?_⟩) (by assumption) ?_
  rotate_left
  · (intro w hSw; (try dsimp only at hSw); go_simp <;> with_reducible rfl)
  try simp only [List.getElem_toArray, List.getElem_cons_succ, List.getElem_cons_zero, Act.put, List.setIfInBounds_toArray, List.set_cons_zero, List.set_cons_succ]
  refine wpAnyH_take (i := 5) (oi := _) (v := ?_) rfl (by kernel_rfl) (by kernel_rfl) (by kernel_rfl) (fun _ _ _ h => h) (Or.inl ⟨by rfl, ?_⟩) (by assumption) ?_
  rotate_left
  · (intro w hSw; (try dsimp only at hSw); go_simp <;> with_reducible rfl)
  try simp only [List.getElem_toArray, List.getElem_cons_succ, List.getElem_cons_zero, Act.put, List.setIfInBounds_toArray, List.set_cons_zero, List.set_cons_succ]
  refine wpAnyH_ready (rs := [0]) (by kernel_rfl) (by simp) ?_
  refine AllReadyH.cons (o := _) rfl (fun K hK => ?_) AllReadyH.nil
  go_simp
  have HB0 := Lib.hid ((Below.refl w1.heap.size w1).drew.alloc (Nat.le_refl _) (.cells #[] 38)); have HO0 := Lib.hid (own_emptyK w1.drew 38 2); have HA0 := Lib.hid ((HA.out.below_to HB0.out (Nat.le_refl _)) : Lies (w1.drew.alloc (.cells #[] 38)) w1.heap.size hx.A0 (tysV x.args))
  refine hK.out _ _ ⟨HC0.out _ HB0.out, HC1.out _ HB0.out⟩ (fun hHeld => ?_)
  clear hK K
  try simp only [List.getElem_toArray, List.getElem_cons_succ, List.getElem_cons_zero, Act.put, List.setIfInBounds_toArray, List.set_cons_zero, List.set_cons_succ]
  refine wpAnyH_ready (rs := [3]) (by kernel_rfl) (by simp) ?_
  refine AllReadyH.cons (o := _) rfl (fun K hK => ?_) AllReadyH.nil
  (refine step_appK rfl _ _ 23 rfl w1.heap.size 38 i0 (.agg #[.int .i64 0, .int .i64 0]) 2 16 Try.underlying23 hi hz0 hz1 hz2 rfl (by decide) _ 0 [] rfl HO0.out hx.A0 x.args.length hx.k0 _ (tysV x.args) (tysV_len _) rfl HA0.out (tysV_one _) (by unfold maxLen; omega) (by omega) HB0.out.size ?_; intro v2 w2 hown hgrow; have HB2 := Lib.hid (appK_more HB0.out HO0.out HB0.out.size hgrow); have HO2 := Lib.hid hown; have HL2 := Lib.hid ((HL.out.below_to HB2.out (Nat.le_refl _)) : Lies w2 w1.heap.size hx.A1 (tysV x.locals)); clear hown hgrow)
  refine hK.out _ _ ⟨HC0.out _ HB2.out, HC1.out _ HB2.out⟩ (fun hHeld => ?_)
  clear hK K
  try simp only [List.getElem_toArray, List.getElem_cons_succ, List.getElem_cons_zero, Act.put, List.setIfInBounds_toArray, List.set_cons_zero, List.set_cons_succ]
  refine wpAnyH_ready (rs := [6]) (by kernel_rfl) (by simp) ?_
  refine AllReadyH.cons (o := _) rfl (fun K hK => ?_) AllReadyH.nil
  (refine step_appK rfl _ _ 23 rfl w1.heap.size 38 i0 (.agg #[.int .i64 0, .int .i64 0]) 2 16 Try.underlying23 hi hz0 hz1 hz2 rfl (by decide) _ (0 + x.args.length) ([] ++ tysV x.args) rfl HO2.out hx.A1 x.locals.length hx.k1 _ (tysV x.locals) (tysV_len _) rfl HL2.out (tysV_one _) (by unfold maxLen; omega) (by omega) HB2.out.size ?_; intro v3 w3 hown hgrow; have HB3 := Lib.hid (appK_more HB2.out HO2.out HB2.out.size hgrow); have HO3 := Lib.hid hown; clear hown hgrow)
  refine hK.out _ _ ⟨HC0.out _ HB3.out, HC1.out _ HB3.out⟩ (fun hHeld => ?_)
  clear hK K
  try simp only [List.getElem_toArray, List.getElem_cons_succ, List.getElem_cons_zero, Act.put, List.setIfInBounds_toArray, List.set_cons_zero, List.set_cons_succ]
  refine wpAnyH_take (i := 7) (oi := _) (v := ?_) rfl (by kernel_rfl) (by kernel_rfl) (by kernel_rfl) (fun _ _ _ h => h) (Or.inl ⟨by rfl, ?_⟩) (by assumption) ?_
  rotate_left
  · (intro w hSw; (try dsimp only at hSw); go_simp <;> with_reducible rfl)
  try simp only [List.getElem_toArray, List.getElem_cons_succ, List.getElem_cons_zero, Act.put, List.setIfInBounds_toArray, List.set_cons_zero, List.set_cons_succ]
  refine wpAnyH_done (by kernel_rfl) ?_ _
  refine NoPanic.normal ?_
  have HQ3 := Lib.hid (HQ.out.keep HB3.out hlt)
  obtain ⟨L, hL⟩ : ∃ L, x.args ++ x.locals = L := ⟨_, rfl⟩
  have hLl : L.length ≤ 2097152 := by rw [← hL, List.length_append]; omega
  have HE := Lib.hid (show localOf x n = if 0 ≤ n then L[n.toNat]?.getD (0, 0) else (0, 0) by rw [← hL]; rfl)
  have hO : w3.ownsRow w1.heap.size 38 2 v3 L.length (tysV L) := by
    have := HO3.out
    rw [← hL, List.length_append]
    unfold tysV at this ⊢
    rw [List.flatMap_append]
    simpa using this
  obtain ⟨A3, c3, rfl, hS, _⟩ := own_types hO
  have HS := Lib.hid hS
  have hlt3 := HQ3.out.lt
  have c0 := HQ3.out.cells 0 _ rfl
  have c1 := HQ3.out.cells 1 _ rfl
  have f0 := HQ3.out.free 0
  have f1 := HQ3.out.free 1
  clear hL hS hO HO3 HO2 HL2 HA0 HO0 hHeld q0 q1
  have hW3 := HB3.out.size
  have hW1 := HW.out.size
  by_cases h0 : n < 0
  · obtain rfl : t = (0, 0) := by rw [← HR.out, HE.out, if_neg (by omega)]
    clear HE HR
    go_wp2_with fail
    first
      | exact bodyPost_ret (v := tyV 0 0) (by simp [results, Try.results28, go_sem, c0, c1]) rfl ⟨rfl, HW.out.trans (HB3.out.mono hW1)⟩
      | (have HQ4 := (HQ3.out.set 0 (.int .i64 0)).set 1 (.int .i64 0)
         have d0 := HQ4.cells 0 _ rfl
         have d1 := HQ4.cells 1 _ rfl
         exact bodyPost_ret (v := tyV 0 0) (by simp [results, Try.results28, go_sem, d0, d1]) rfl ⟨rfl, HW.out.trans (((HB3.out.mono hW1).setCell (p := ⟨w.heap.size + 1, 0, none⟩) (by show w.heap.size ≤ w.heap.size + 1; omega) (.int .i64 0)).setCell (p := ⟨w.heap.size + 1, 1, none⟩) (by show w.heap.size ≤ w.heap.size + 1; omega) (.int .i64 0))⟩)
  · have h0' : 0 ≤ n := by omega
    by_cases h1 : n < L.length
    · obtain ⟨j, rfl⟩ := Int.eq_ofNat_of_zero_le h0'
      have hj : j < L.length := by omega
      obtain ⟨ad, rfl, hab, r0, r1⟩ := HS.out.row.at_ hj
      have HE2 := Lib.hid (show localOf x (j : Int) = L[j] by rw [HE.out, if_pos (by omega), Int.toNat_natCast, List.getElem?_eq_getElem hj]; rfl)
      have e : L[j] = t := HE2.out.symm.trans HR.out
      rw [e] at r0 r1
      clear HE HE2 HR e
      go_wp2_with fail
      have HQ4 := (HQ3.out.set 0 (.int .i64 t.1)).set 1 (.int .i64 t.2)
      have d0 := HQ4.cells 0 _ rfl
      have d1 := HQ4.cells 1 _ rfl
      exact bodyPost_ret (v := tyV t.1 t.2) (by simp [results, Try.results28, go_sem, d0, d1]) rfl ⟨rfl, HW.out.trans (((HB3.out.mono hW1).setCell (p := ⟨w.heap.size + 1, 0, none⟩) (by show w.heap.size ≤ w.heap.size + 1; omega) (.int .i64 t.1)).setCell (p := ⟨w.heap.size + 1, 1, none⟩) (by show w.heap.size ≤ w.heap.size + 1; omega) (.int .i64 t.2))⟩
    · have h1' : (L.length : Int) ≤ n := by omega
      have HE2 := Lib.hid (show localOf x n = (0, 0) by rw [HE.out, if_pos h0', List.getElem?_eq_none (by omega)]; rfl)
      obtain rfl : t = (0, 0) := HR.out.symm.trans HE2.out
      clear HE HE2 HR
      go_wp2_with fail
      first
        | exact bodyPost_ret (v := tyV 0 0) (by simp [results, Try.results28, go_sem, c0, c1]) rfl ⟨rfl, HW.out.trans (HB3.out.mono hW1)⟩
        | (have HQ4 := (HQ3.out.set 0 (.int .i64 0)).set 1 (.int .i64 0)
           have d0 := HQ4.cells 0 _ rfl
           have d1 := HQ4.cells 1 _ rfl
           exact bodyPost_ret (v := tyV 0 0) (by simp [results, Try.results28, go_sem, d0, d1]) rfl ⟨rfl, HW.out.trans (((HB3.out.mono hW1).setCell (p := ⟨w.heap.size + 1, 0, none⟩) (by show w.heap.size ≤ w.heap.size + 1; omega) (.int .i64 0)).setCell (p := ⟨w.heap.size + 1, 1, none⟩) (by show w.heap.size ≤ w.heap.size + 1; omega) (.int .i64 0))⟩)
end Go.Proofs.Ytndacljmcofopaa
namespace Go.Proofs.Ytndacljmcofopaa
set_option maxRecDepth 100000
set_option linter.unusedVariables false
set_option linter.unusedSimpArgs false
open Go.ChangeShapes Go.WideShapes Go.ChangeAt Go.RowKit

theorem rslot_any (m : Img) (c n : Int) (h : Hnd) (w : World) (H : ImgIn w w.heap.size h m) :
    Calls Try.prog 31 #[imgV h m, .int .i64 c, .int .i64 n] w (SlotOut (slotOf m.classes c n) w) := by
  have HW := Lib.hid ((Below.refl w.heap.size w).alloc (Nat.le_refl _) (imgO h m))
  have HIM := Lib.hid (H.now HW.out)
  have HBX := Lib.hid (img_box w h m)
  have hle := H.classes.le
  have hcap := H.classes.cap
  have hn63 : m.classes.length ≤ 9223372036854775807 := by omega
  clear H hle hcap
  by_cases hc : 0 ≤ c ∧ c < m.classes.length
  · obtain ⟨c0, c1⟩ := hc
    obtain ⟨i, rfl⟩ := Int.eq_ofNat_of_zero_le c0
    have hi : i < m.classes.length := by omega
    clear c0 c1
    obtain ⟨ad, e0, hab, s0, ⟨A1, k1, s1, hs1⟩, ⟨A2, k2, s2, hs2⟩, _⟩ := HIM.out.classes.row.at_ hi
    have HE := Lib.hid e0
    clear e0
    have l1 := hs2.le
    have l2 := hs2.cap
    have hs63 : m.classes[i].slots.length ≤ 9223372036854775807 := by omega
    have HSL := Lib.hid hs2
    clear hs1 hs2 l1 l2
    by_cases hnn : 0 ≤ n ∧ n < m.classes[i].slots.length
    · obtain ⟨n0, n1⟩ := hnn
      obtain ⟨j, rfl⟩ := Int.eq_ofNat_of_zero_le n0
      have hj : j < m.classes[i].slots.length := by omega
      clear n0 n1
      rw [slotOf_yes hi hj]
      obtain ⟨ad2, rfl, hab2, z0⟩ := HSL.out.row.at_ hj
      clear HSL
      rw [Nat.mul_one] at z0
      generalize m.classes[i].slots[j] = f at *
      generalize m.classes[i] = x at *
      have z0' : (w.alloc (imgO h m)).cell? (ad2.add j) = some (.int .i64 f) := z0
      clear z0
      go_enter Try.func31, Try.ntmps31
      go_upto_region 1 with fail
      generalize w.alloc (imgO h m) = w1 at *
      obtain ⟨q0, q1, q2, q3, q4, q5, q6⟩ := HBX.out
      rw [HE.out] at q0
      go_wp2_with fail
      go_ret2
      exact ⟨rfl, HW.out⟩
    · rw [slotOf_slot hi (by omega)]
      have hno : n < 0 ∨ (m.classes[i].slots.length : Int) ≤ n := by omega
      clear hnn HSL
      generalize m.classes[i] = x at *
      rcases hno with hno | hno
      · go_enter Try.func31, Try.ntmps31
        go_upto_region 1 with fail
        generalize w.alloc (imgO h m) = w1 at *
        obtain ⟨q0, q1, q2, q3, q4, q5, q6⟩ := HBX.out
        rw [HE.out] at q0
        go_wp2_with fail
        go_ret2
        exact ⟨rfl, HW.out⟩
      · have hn0 : 0 ≤ n := by omega
        go_enter Try.func31, Try.ntmps31
        go_upto_region 1 with fail
        generalize w.alloc (imgO h m) = w1 at *
        obtain ⟨q0, q1, q2, q3, q4, q5, q6⟩ := HBX.out
        rw [HE.out] at q0
        go_wp2_with fail
        go_ret2
        exact ⟨rfl, HW.out⟩
  · have hno : c < 0 ∨ (m.classes.length : Int) ≤ c := by omega
    rw [slotOf_class hno]
    clear hc
    rcases hno with hno | hno
    · go_enter Try.func31, Try.ntmps31
      go_upto_region 1 with fail
      generalize w.alloc (imgO h m) = w1 at *
      obtain ⟨q0, q1, q2, q3, q4, q5, q6⟩ := HBX.out
      go_wp2_with fail
      go_ret2
      exact ⟨rfl, HW.out⟩
    · have hn0 : 0 ≤ c := by omega
      go_enter Try.func31, Try.ntmps31
      go_upto_region 1 with fail
      generalize w.alloc (imgO h m) = w1 at *
      obtain ⟨q0, q1, q2, q3, q4, q5, q6⟩ := HBX.out
      go_wp2_with fail
      go_ret2
      exact ⟨rfl, HW.out⟩
theorem rslot_is {m : Img} {h : Hnd} {w0 w : World} {c n : Int} {o : Option Int} (HI : Hid (ImgIn w0 w0.heap.size h m)) (HX : Hid (Below w0.heap.size w0 w)) (HO : Hid (slotOf m.classes c n = o)) :
    Calls Try.prog 31 #[imgV h m, .int .i64 c, .int .i64 n] w (SlotOut o w) := by
  have H := rslot_any m c n h w (HI.out.now HX.out)
  rw [HO.out] at H
  exact H
end Go.Proofs.Ytndacljmcofopaa
