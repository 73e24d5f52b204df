/-
  What the document's own answer for what an instruction takes and gives (Rule) comes to: fields.
-/
import Derived.Test.YtefgepppcmhphaaM20
import Derived.RegionTactic
import Derived.ChangeAlike
import Derived.Deep.RegionHeld3
import Derived.Deep.QuietTactic
import Derived.BigQuiet
import Derived.IntWalk
namespace Go.Proofs.Ytefgepppcmhphaa
set_option maxRecDepth 100000
set_option linter.unusedVariables false
set_option linter.unusedSimpArgs false
open Go.ChangeShapes Go.WideShapes Go.ChangeAt Go.RowKit

theorem own_types1 {w : World} {B e : Nat} {v : Value} {l : List (Int × Int)} (h : w.ownsRow B e 2 v l.length (tysV l)) (hl : 0 < l.length) : ∃ g c, v = .slice (some ⟨g, 0, none⟩) l.length c ∧ SlcIs TyAt 2 w w.heap.size (some ⟨g, 0, none⟩) c l ∧ g < w.heap.size := by
  obtain ⟨A, c, rfl, hs, _⟩ := own_types h
  rcases ownK_slice h with ⟨_, hn⟩ | ⟨g, c', hv, _⟩
  · omega
  · injection hv with hA
    subst hA
    obtain ⟨ad, e, hb, _⟩ := hs.row.at_ hl
    injection e with e
    subst e
    exact ⟨g, c, rfl, hs, hb⟩
theorem slc_cell {w : World} {B g c k : Nat} {L : List (Int × Int)} (h : SlcIs TyAt 2 w B (some ⟨g, 0, none⟩) c L) (hk : k < L.length) : w.cell? ⟨g, k * 2, none⟩ = some (.int .i64 L[k].1) ∧ w.cell? ⟨g, k * 2 + 1, none⟩ = some (.int .i64 L[k].2) := by
  obtain ⟨ad, e, hb, t0, t1⟩ := h.row.at_ hk
  injection e with e
  subst e
  have e1 : (⟨g, 0, none⟩ : Addr).add (k * 2) = ⟨g, k * 2, none⟩ := by
    unfold Addr.add
    by_cases q : k * 2 = 0
    · simp [q]
    · simp [q]
  rw [e1] at t0 t1
  exact ⟨t0, t1⟩
theorem slc_cut1 {w : World} {B g c k : Nat} {L : List (Int × Int)} (h : SlcIs TyAt 2 w B (some ⟨g, 0, none⟩) c L) (hk : k < L.length) : SlcIs TyAt 2 w B (some ⟨g, k * 2, none⟩) (c - k) [L[k]] := by
  refine ⟨by have := h.le; show 1 ≤ c - k; omega, by have := h.cap; omega, fun i t hi => ?_⟩
  obtain ⟨ad, e, hb, ht⟩ := h.row.at_ hk
  injection e with e
  subst e
  match i, hi with
  | 0, hi =>
    simp at hi
    subst hi
    refine ⟨_, rfl, hb, ?_⟩
    have e1 : (⟨g, k * 2, none⟩ : Addr).add (0 * 2) = (⟨g, 0, none⟩ : Addr).add (k * 2) := by
      unfold Addr.add
      by_cases q : k * 2 = 0
      · simp [q]
      · simp [q]
    rw [e1]
    exact ht
  | i + 1, hi => simp at hi

set_option maxHeartbeats 1600000 in
theorem rule_27 (m : Img) (x : Mth) (f : Nat) (a : Int) (k : Nat) (hk : k < (fieldsOf m.classes a).length) (hn : m.classes.length ≤ 1000) (hf : ∀ x ∈ m.classes, x.fields.length ≤ 1000) (h : Hnd) (w : World) (H : ImgIn w w.heap.size h m) :
    Calls Try.prog 52 #[imgV h m, .int .i64 f, insV 27 a (k : Int)] w (TwoTypes (takeOf m x 27 a (k : Int)) (giveOf m x 27 a (k : Int)) w) := by
  obtain ⟨L, hL⟩ : ∃ L, fieldsOf m.classes a = L := ⟨_, rfl⟩
  have HL := Lib.hid hL
  rw [hL] at hk
  have HF := Lib.hid hf
  have hLl : L.length ≤ 1000000 := by rw [← hL]; exact fieldsOf_len hf hn a
  have hL0 : 0 < L.length := by omega
  have e0 : fieldN m a (k : Int) = L[k] := by unfold fieldN; rw [hL, Int.toNat_natCast, List.getElem?_eq_getElem hk]; rfl
  have e1 : takeOf m x 27 a (k : Int) = [(3, a)] := by simp [takeOf]
  have e2 : giveOf m x 27 a (k : Int) = [L[k]] := by simp [giveOf, e0]
  rw [e1, e2]
  clear e0 e1 e2 hL hf
  obtain ⟨hw, hp⟩ := rule_parts h m 27 a (k : Int) w
  have HW := Lib.hid hw
  have HP := Lib.hid hp
  have HI := Lib.hid (H.now hw)
  clear hw hp H
  go_enter Try.func52, Try.ntmps52
  go_upto_region 3 with fail
  change Code.wp _ _ _ _ (ruleW h m 27 a (k : Int) w)
  generalize ruleW h m 27 a (k : Int) w = w1 at *
  have o0 := HP.out.ins 0 _ rfl
  have o1 := HP.out.ins 1 _ rfl
  have o2 := HP.out.ins 2 _ rfl
  have hz := HP.out.size
  have HX : Hid (Below w1.heap.size w1 w1.drew) := Lib.hid (Below.refl w1.heap.size w1).drew
  have HXA : Hid (Below w1.heap.size w1 (w1.alloc (.cells #[.int .i64 3, .int .i64 a] 49)).drew) := Lib.hid ((Below.refl w1.heap.size w1).alloc (Nat.le_refl _) _).drew
  have HK : Hid (∀ W, Below w1.heap.size w1 W → (fun w' => w'.cell? ⟨w.heap.size, 0, none⟩ = some (.slice h.A0 m.classes.length h.c0) ∧ w'.cell? ⟨w.heap.size, 1, none⟩ = some (.slice h.A1 m.statics.length h.c1) ∧ w'.cell? ⟨w.heap.size, 2, none⟩ = some (.slice h.A2 m.ints.length h.c2) ∧ w'.cell? ⟨w.heap.size, 3, none⟩ = some (.slice h.A3 m.methods.length h.c3) ∧ w'.cell? ⟨w.heap.size, 4, none⟩ = some (.slice h.A4 m.entries.length h.c4) ∧ w'.cell? ⟨w.heap.size, 5, none⟩ = some (.int .i64 m.stack) ∧ w'.cell? ⟨w.heap.size, 6, none⟩ = some (.int .i64 m.heap) ∧ w'.cell? ⟨w.heap.size + 1, 1, none⟩ = some (.int .i64 a) ∧ w'.cell? ⟨w.heap.size + 1, 2, none⟩ = some (.int .i64 (k : Int)) ∧ w'.cell? ⟨w.heap.size + 1 + 1 + 1 + 1 + 1 + 1, 0, none⟩ = some (.int .i64 3) ∧ w'.cell? ⟨w.heap.size + 1 + 1 + 1 + 1 + 1 + 1, 1, none⟩ = some (.int .i64 a)) W) := Lib.hid (fun W hW => by
    obtain ⟨d0, d1, d2, d3, d4, d5, d6⟩ := HP.out.img.keep hW (by omega)
    have di := HP.out.ins.keep hW (by omega)
    have d3 := HP.out.t3.keep hW (by omega)
    exact ⟨d0, d1, d2, by assumption, d4, d5, d6, di 1 _ rfl, di 2 _ rfl, d3 0 _ rfl, d3 1 _ rfl⟩)
  go_wp2_with fail
  have hw1 : IntKind.i64.wrap ((k : Int) + 1) = (k : Int) + 1 := IntWalk.i64_in _ (by omega)
  go_region_held3 (fun w' => w'.cell? ⟨w.heap.size, 0, none⟩ = some (.slice h.A0 m.classes.length h.c0) ∧ w'.cell? ⟨w.heap.size, 1, none⟩ = some (.slice h.A1 m.statics.length h.c1) ∧ w'.cell? ⟨w.heap.size, 2, none⟩ = some (.slice h.A2 m.ints.length h.c2) ∧ w'.cell? ⟨w.heap.size, 3, none⟩ = some (.slice h.A3 m.methods.length h.c3) ∧ w'.cell? ⟨w.heap.size, 4, none⟩ = some (.slice h.A4 m.entries.length h.c4) ∧ w'.cell? ⟨w.heap.size, 5, none⟩ = some (.int .i64 m.stack) ∧ w'.cell? ⟨w.heap.size, 6, none⟩ = some (.int .i64 m.heap) ∧ w'.cell? ⟨w.heap.size + 1, 1, none⟩ = some (.int .i64 a) ∧ w'.cell? ⟨w.heap.size + 1, 2, none⟩ = some (.int .i64 (k : Int)) ∧ w'.cell? ⟨w.heap.size + 1 + 1 + 1 + 1 + 1 + 1, 0, none⟩ = some (.int .i64 3) ∧ w'.cell? ⟨w.heap.size + 1 + 1 + 1 + 1 + 1 + 1, 1, none⟩ = some (.int .i64 a)) (first | exact HK.out _ HX.out | exact HK.out _ HXA.out | exact HK.out _ HX3.out | exact HK.out _ (HX3.out.alloc HX3.out.size _)) (first | (go_at_call 49; (first | ((with_reducible refine (rfields_is HI HX HL hn HF).mono ?_); have HY := HX) | ((with_reducible refine (rfields_is HI HXA HL hn HF).mono ?_); have HY := HXA)); rintro e w3 ⟨v3, rfl, ho, hb⟩; obtain ⟨g, c3, rfl, hs, hg⟩ := own_types1 ho hL0; have HX3 := Lib.hid (HY.out.trans (hb.mono HY.out.size)); have HZ3 := Lib.hid hb; have HS3 := Lib.hid hs; have HG3 := Lib.hid hg; have hc3 := HS3.out.le; have hc3' := HS3.out.cap; have hb1 : (0 : Int) ≤ (k : Int) + 1 := (by omega); have hb2 : (k : Int) + 1 ≤ (c3 : Int) := (by omega); have hb3 : ¬ c3 = k := (by omega); clear ho hb hs hg))
  all_goals
    go_wp2_with fail
    go_ret2
    first
      | exact ⟨_, _, _, _, rfl, new_t1 (by simp) (by go_simp) (by go_simp), slc_cut1 ((HS3.out.below_to TyAt.keeps ((Below.refl w3.heap.size w3).alloc (Nat.le_refl _) _) (Nat.le_refl _)).keep' TyAt.keeps (by simp) (fun _ _ => rfl)) hk, HW.out.trans ((HX3.out.alloc HX3.out.size _).mono HW.out.size)⟩
      | exact ⟨_, _, _, _, rfl, new_t1 (Nat.lt_of_lt_of_le (by simp; omega) HZ3.out.size) ((HZ3.out.cell (p := ⟨w.heap.size + 1 + 1 + 1 + 1 + 1 + 1 + 1, 0, none⟩) (by simp; omega)).trans (by go_simp)) ((HZ3.out.cell (p := ⟨w.heap.size + 1 + 1 + 1 + 1 + 1 + 1 + 1, 1, none⟩) (by simp; omega)).trans (by go_simp)), slc_cut1 HS3.out hk, HW.out.trans (HX3.out.mono HW.out.size)⟩

set_option maxHeartbeats 1600000 in
theorem rule_28 (m : Img) (x : Mth) (f : Nat) (a : Int) (k : Nat) (hk : k < (fieldsOf m.classes a).length) (hn : m.classes.length ≤ 1000) (hf : ∀ x ∈ m.classes, x.fields.length ≤ 1000) (h : Hnd) (w : World) (H : ImgIn w w.heap.size h m) :
    Calls Try.prog 52 #[imgV h m, .int .i64 f, insV 28 a (k : Int)] w (TwoTypes (takeOf m x 28 a (k : Int)) (giveOf m x 28 a (k : Int)) w) := by
  obtain ⟨L, hL⟩ : ∃ L, fieldsOf m.classes a = L := ⟨_, rfl⟩
  have HL := Lib.hid hL
  rw [hL] at hk
  have HF := Lib.hid hf
  have hLl : L.length ≤ 1000000 := by rw [← hL]; exact fieldsOf_len hf hn a
  have hL0 : 0 < L.length := by omega
  have e0 : fieldN m a (k : Int) = L[k] := by unfold fieldN; rw [hL, Int.toNat_natCast, List.getElem?_eq_getElem hk]; rfl
  have e1 : takeOf m x 28 a (k : Int) = [(3, a), L[k]] := by simp [takeOf, e0]
  have e2 : giveOf m x 28 a (k : Int) = [] := by simp [giveOf]
  rw [e1, e2]
  clear e0 e1 e2 hL hf
  obtain ⟨hw, hp⟩ := rule_parts h m 28 a (k : Int) w
  have HW := Lib.hid hw
  have HP := Lib.hid hp
  have HI := Lib.hid (H.now hw)
  clear hw hp H
  go_enter Try.func52, Try.ntmps52
  go_upto_region 3 with fail
  change Code.wp _ _ _ _ (ruleW h m 28 a (k : Int) w)
  generalize ruleW h m 28 a (k : Int) w = w1 at *
  have o0 := HP.out.ins 0 _ rfl
  have o1 := HP.out.ins 1 _ rfl
  have o2 := HP.out.ins 2 _ rfl
  have hz := HP.out.size
  have HX : Hid (Below w1.heap.size w1 w1.drew) := Lib.hid (Below.refl w1.heap.size w1).drew
  have HXA : Hid (Below w1.heap.size w1 (w1.alloc (.cells #[.int .i64 3, .int .i64 a] 49)).drew) := Lib.hid ((Below.refl w1.heap.size w1).alloc (Nat.le_refl _) _).drew
  have HK : Hid (∀ W, Below w1.heap.size w1 W → (fun w' => w'.cell? ⟨w.heap.size, 0, none⟩ = some (.slice h.A0 m.classes.length h.c0) ∧ w'.cell? ⟨w.heap.size, 1, none⟩ = some (.slice h.A1 m.statics.length h.c1) ∧ w'.cell? ⟨w.heap.size, 2, none⟩ = some (.slice h.A2 m.ints.length h.c2) ∧ w'.cell? ⟨w.heap.size, 3, none⟩ = some (.slice h.A3 m.methods.length h.c3) ∧ w'.cell? ⟨w.heap.size, 4, none⟩ = some (.slice h.A4 m.entries.length h.c4) ∧ w'.cell? ⟨w.heap.size, 5, none⟩ = some (.int .i64 m.stack) ∧ w'.cell? ⟨w.heap.size, 6, none⟩ = some (.int .i64 m.heap) ∧ w'.cell? ⟨w.heap.size + 1, 1, none⟩ = some (.int .i64 a) ∧ w'.cell? ⟨w.heap.size + 1, 2, none⟩ = some (.int .i64 (k : Int)) ∧ w'.cell? ⟨w.heap.size + 1 + 1 + 1 + 1 + 1 + 1, 0, none⟩ = some (.int .i64 3) ∧ w'.cell? ⟨w.heap.size + 1 + 1 + 1 + 1 + 1 + 1, 1, none⟩ = some (.int .i64 a)) W) := Lib.hid (fun W hW => by
    obtain ⟨d0, d1, d2, d3, d4, d5, d6⟩ := HP.out.img.keep hW (by omega)
    have di := HP.out.ins.keep hW (by omega)
    have d3 := HP.out.t3.keep hW (by omega)
    exact ⟨d0, d1, d2, by assumption, d4, d5, d6, di 1 _ rfl, di 2 _ rfl, d3 0 _ rfl, d3 1 _ rfl⟩)
  go_wp2_with fail
  refine wp_region_noPanic ?_
  refine wp_region_held_drew (S := (fun w' => w'.cell? ⟨w.heap.size, 0, none⟩ = some (.slice h.A0 m.classes.length h.c0) ∧ w'.cell? ⟨w.heap.size, 1, none⟩ = some (.slice h.A1 m.statics.length h.c1) ∧ w'.cell? ⟨w.heap.size, 2, none⟩ = some (.slice h.A2 m.ints.length h.c2) ∧ w'.cell? ⟨w.heap.size, 3, none⟩ = some (.slice h.A3 m.methods.length h.c3) ∧ w'.cell? ⟨w.heap.size, 4, none⟩ = some (.slice h.A4 m.entries.length h.c4) ∧ w'.cell? ⟨w.heap.size, 5, none⟩ = some (.int .i64 m.stack) ∧ w'.cell? ⟨w.heap.size, 6, none⟩ = some (.int .i64 m.heap) ∧ w'.cell? ⟨w.heap.size + 1, 1, none⟩ = some (.int .i64 a) ∧ w'.cell? ⟨w.heap.size + 1, 2, none⟩ = some (.int .i64 (k : Int)) ∧ w'.cell? ⟨w.heap.size + 1 + 1 + 1 + 1 + 1 + 1, 0, none⟩ = some (.int .i64 3) ∧ w'.cell? ⟨w.heap.size + 1 + 1 + 1 + 1 + 1 + 1, 1, none⟩ = some (.int .i64 a))) (by kernel_rfl) (HK.out _ HX.out) (fun hHeld => ?_)
  refine wpAnyH_take (i := 0) (oi := _) (v := ?_) rfl (by kernel_rfl) (by kernel_rfl) (by kernel_rfl) (fun _ _ _ h => h) (Or.inl ⟨by rfl, ?_⟩) (by assumption) ?_
  rotate_left
  · (intro w hSw; (try dsimp only at hSw); go_simp <;> with_reducible rfl)
  try simp only [List.getElem_toArray, List.getElem_cons_succ, List.getElem_cons_zero, Act.put, List.setIfInBounds_toArray, List.set_cons_zero, List.set_cons_succ]
  refine wpAnyH_take (i := 1) (oi := _) (v := ?_) rfl (by kernel_rfl) (by kernel_rfl) (by kernel_rfl) (fun _ _ _ h => h) (Or.inl ⟨by rfl, ?_⟩) (by assumption) ?_
  rotate_left
  · (intro w hSw; (try dsimp only at hSw); go_simp <;> with_reducible rfl)
  try simp only [List.getElem_toArray, List.getElem_cons_succ, List.getElem_cons_zero, Act.put, List.setIfInBounds_toArray, List.set_cons_zero, List.set_cons_succ]
  refine wpAnyH_take (i := 2) (oi := _) (v := ?_) rfl (by kernel_rfl) (by kernel_rfl) (by kernel_rfl) (fun _ _ _ h => h) (Or.inl ⟨by rfl, ?_⟩) (by assumption) ?_
  rotate_left
  · (intro w hSw; (try dsimp only at hSw); go_simp <;> with_reducible rfl)
  try simp only [List.getElem_toArray, List.getElem_cons_succ, List.getElem_cons_zero, Act.put, List.setIfInBounds_toArray, List.set_cons_zero, List.set_cons_succ]
  refine wpAnyH_take (i := 3) (oi := _) (v := ?_) rfl (by kernel_rfl) (by kernel_rfl) (by kernel_rfl) (fun _ _ _ h => h) (Or.inl ⟨by rfl, ?_⟩) (by assumption) ?_
  rotate_left
  · (intro w hSw; (try dsimp only at hSw); go_simp <;> with_reducible rfl)
  try simp only [List.getElem_toArray, List.getElem_cons_succ, List.getElem_cons_zero, Act.put, List.setIfInBounds_toArray, List.set_cons_zero, List.set_cons_succ]
  refine wpAnyH_take (i := 5) (oi := _) (v := ?_) rfl (by kernel_rfl) (by kernel_rfl) (by kernel_rfl) (fun _ _ _ h => h) (Or.inl ⟨by rfl, ?_⟩) (by assumption) ?_
  rotate_left
  · (intro w hSw; (try dsimp only at hSw); go_simp <;> with_reducible rfl)
  try simp only [List.getElem_toArray, List.getElem_cons_succ, List.getElem_cons_zero, Act.put, List.setIfInBounds_toArray, List.set_cons_zero, List.set_cons_succ]
  refine wpAnyH_take (i := 6) (oi := _) (v := ?_) rfl (by kernel_rfl) (by kernel_rfl) (by kernel_rfl) (fun _ _ _ h => h) (Or.inl ⟨by rfl, ?_⟩) (by assumption) ?_
  rotate_left
  · (intro w hSw; (try dsimp only at hSw); go_simp <;> with_reducible rfl)
  try simp only [List.getElem_toArray, List.getElem_cons_succ, List.getElem_cons_zero, Act.put, List.setIfInBounds_toArray, List.set_cons_zero, List.set_cons_succ]
  refine wpAnyH_ready (rs := [4]) (by kernel_rfl) (by simp) ?_
  refine AllReadyH.cons (o := _) rfl (fun K hK => ?_) AllReadyH.nil
  go_simp
  go_wp2_with (go_at_call 49; (with_reducible refine (rfields_is HI HX HL hn HF).mono ?_); rintro e w3 ⟨v3, rfl, ho, hb⟩; obtain ⟨g, c3, rfl, hs, hg⟩ := own_types1 ho hL0; have HX3 := Lib.hid (HX.out.trans (hb.mono HX.out.size)); have HS3 := Lib.hid hs; have HG3 := Lib.hid hg; have hc3 := HS3.out.le; have hc3' := HS3.out.cap; obtain ⟨r0, r1⟩ := slc_cell HS3.out hk; clear ho hb hs hg)
  refine hK.out _ _ (HK.out _ HX3.out) (fun hHeld => ?_)
  clear hK K
  try simp only [List.getElem_toArray, List.getElem_cons_succ, List.getElem_cons_zero, Act.put, List.setIfInBounds_toArray, List.set_cons_zero, List.set_cons_succ]
  refine wpAnyH_take (i := 7) (oi := _) (v := ?_) rfl (by kernel_rfl) (by kernel_rfl) (by kernel_rfl) (fun _ _ _ h => h) (Or.inl ⟨by rfl, ?_⟩) (by assumption) ?_
  rotate_left
  · (intro w hSw; (try dsimp only at hSw); go_simp <;> with_reducible rfl)
  try simp only [List.getElem_toArray, List.getElem_cons_succ, List.getElem_cons_zero, Act.put, List.setIfInBounds_toArray, List.set_cons_zero, List.set_cons_succ]
  refine wpAnyH_ready (rs := [8]) (by kernel_rfl) (by simp) ?_
  refine AllReadyH.cons (o := _) rfl (fun K hK => ?_) AllReadyH.nil
  go_simp
  refine hK.out _ _ (HK.out _ HX3.out) (fun hHeld => ?_)
  clear hK K
  try simp only [List.getElem_toArray, List.getElem_cons_succ, List.getElem_cons_zero, Act.put, List.setIfInBounds_toArray, List.set_cons_zero, List.set_cons_succ]
  refine wpAnyH_ready (rs := [9]) (by kernel_rfl) (by simp) ?_
  refine AllReadyH.cons (o := _) rfl (fun K hK => ?_) AllReadyH.nil
  go_simp
  refine hK.out _ _ (HK.out _ (HX3.out.alloc HX3.out.size _)) (fun hHeld => ?_)
  clear hK K
  try simp only [List.getElem_toArray, List.getElem_cons_succ, List.getElem_cons_zero, Act.put, List.setIfInBounds_toArray, List.set_cons_zero, List.set_cons_succ]
  refine wpAnyH_take (i := 10) (oi := _) (v := ?_) rfl (by kernel_rfl) (by kernel_rfl) (by kernel_rfl) (fun _ _ _ h => h) (Or.inl ⟨by rfl, ?_⟩) (by assumption) ?_
  rotate_left
  · (intro w hSw; (try dsimp only at hSw); go_simp <;> with_reducible rfl)
  try simp only [List.getElem_toArray, List.getElem_cons_succ, List.getElem_cons_zero, Act.put, List.setIfInBounds_toArray, List.set_cons_zero, List.set_cons_succ]
  refine wpAnyH_take (i := 11) (oi := _) (v := ?_) rfl (by kernel_rfl) (by kernel_rfl) (by kernel_rfl) (fun _ _ _ h => h) (Or.inl ⟨by rfl, ?_⟩) (by assumption) ?_
  rotate_left
  · (intro w hSw; (try dsimp only at hSw); go_simp <;> with_reducible rfl)
  try simp only [List.getElem_toArray, List.getElem_cons_succ, List.getElem_cons_zero, Act.put, List.setIfInBounds_toArray, List.set_cons_zero, List.set_cons_succ]
  refine wpAnyH_done (by kernel_rfl) ?_ _
  refine NoPanic.normal ?_
  go_wp2_with fail
  go_ret2
  exact ⟨_, _, _, _, rfl, new_t2 (by simp) (by go_simp) (by go_simp) (by go_simp) (by go_simp), slc_none, HW.out.trans ((HX3.out.alloc HX3.out.size _).mono HW.out.size)⟩

end Go.Proofs.Ytefgepppcmhphaa
