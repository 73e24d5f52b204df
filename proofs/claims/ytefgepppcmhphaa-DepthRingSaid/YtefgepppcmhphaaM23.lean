/-
  What the document's own answer for what an instruction takes and gives (Rule) comes to: calls by slots.
-/
import Derived.Test.YtefgepppcmhphaaM20
import Derived.RegionTactic
import Derived.ChangeAlike
import Derived.Deep.RegionHeld3
import Derived.Deep.QuietTactic
import Derived.BigQuiet
namespace Go.Proofs.Ytefgepppcmhphaa
set_option maxRecDepth 100000
set_option linter.unusedVariables false
set_option linter.unusedSimpArgs false
open Go.ChangeShapes Go.WideShapes Go.ChangeAt Go.RowKit

theorem tysV_drop (l : List (Int × Int)) : (tysV l).drop 2 = tysV (l.drop 1) := by
  cases l with
  | nil => rfl
  | cons t r => rfl
theorem rslot_yes {m : Img} {h : Hnd} {w0 w : World} {c n : Int} {k : Nat} (HI : Hid (ImgIn w0 w0.heap.size h m)) (HX : Hid (Below w0.heap.size w0 w)) (HO : Hid (slotOf m.classes c n = some (k : Int))) :
    Calls Try.prog 42 #[imgV h m, .int .i64 c, .int .i64 n] w fun e w' => e = .returned (.tuple #[.int .i64 k, .bool true]) ∧ Below w.heap.size w w' := rslot_is HI HX HO

set_option maxHeartbeats 1600000 in
theorem rule_32 (m : Img) (x : Mth) (f : Nat) (a b : Int) (k : Nat) (hs : slotOf m.classes a b = some (k : Int)) (y : Mth) (hy : m.methods[k]? = some y) (hal : 0 < y.args.length) (hal2 : y.args.length ≤ 1048576) (h : Hnd) (w : World) (H : ImgIn w w.heap.size h m) :
    Calls Try.prog 52 #[imgV h m, .int .i64 f, insV 32 a b] w (TwoTypes (takeOf m x 32 a b) (giveOf m x 32 a b) w) := by
  have e00 : slotN m a b = (k : Int) := by unfold slotN; rw [hs]; rfl
  have e0 : mthN m (k : Int) = y := by unfold mthN; rw [Int.toNat_natCast, hy]; rfl
  obtain ⟨G, hG⟩ : ∃ G, givesOf y = G := ⟨_, rfl⟩
  have HR := Lib.hid hG
  obtain ⟨D, hD⟩ : ∃ D, y.args.drop 1 = D := ⟨_, rfl⟩
  have e1 : takeOf m x 32 a b = (3, a) :: D := by rw [← hD]; simp [takeOf, e0, e00]
  have hDl : D.length = y.args.length - 1 := by rw [← hD, List.length_drop]
  have HD := Lib.hid hD
  have HDL := Lib.hid hDl
  have e2 : giveOf m x 32 a b = G := by simp [giveOf, e0, e00, hG]
  rw [e1, e2]
  have HSL := Lib.hid hs
  obtain ⟨hfm, hgx⟩ := List.getElem?_eq_some_iff.mp hy
  clear e00 e0 e1 e2 hG hs hy hD hDl
  obtain ⟨hw, hp⟩ := rule_parts h m 32 a b w
  have HW := Lib.hid hw
  have HP := Lib.hid hp
  have HI := Lib.hid (H.now hw)
  clear hw hp H
  go_enter Try.func52, Try.ntmps52
  go_upto_region 3 with fail
  change Code.wp _ _ _ _ (ruleW h m 32 a b w)
  generalize ruleW h m 32 a b w = w1 at *
  have o0 := HP.out.ins 0 _ rfl
  have o1 := HP.out.ins 1 _ rfl
  have o2 := HP.out.ins 2 _ rfl
  have hz := HP.out.size
  obtain ⟨q0, q1, q2, q3, q4, q5, q6⟩ := HP.out.img
  have l3 := HI.out.methods.le
  have l3c := HI.out.methods.cap
  obtain ⟨ad, hx, e0, hab, hmi, hmc⟩ := img_mth HI.out hfm
  have HE0 := Lib.hid e0
  rw [hgx] at hmi hmc
  clear e0
  have HM := Lib.hid hmi
  have HMC := Lib.hid hmc
  have HAB := Lib.hid hab
  clear hmi hmc hab
  obtain ⟨i0, hi, hz0, hz1, hz2⟩ := info_partsK info_type
  obtain ⟨adg, eg, hbg, _⟩ := HM.out.args.row.at_ (i := 0) hal
  have hcap0 := HM.out.args.le
  have hcap1 := HM.out.args.cap
  have HTL := Lib.hid (tys_lie HM.out.args.row)
  obtain ⟨A0, A1, A4, A7, k0, k1, k4, k7⟩ := hx
  dsimp only at eg hcap0 hcap1
  subst eg
  have HX0 : Hid (Below w1.heap.size w1 w1) := Lib.hid (Below.refl w1.heap.size w1)
  go_upto_region 46 with (go_at_call 42; (with_reducible refine (rslot_yes HI HX0 HSL).mono ?_); rintro e w2 ⟨rfl, hb⟩; have HX2 := Lib.hid hb; clear hb)
  have HX : Hid (Below w1.heap.size w1 w2.drew) := Lib.hid HX2.out.drew
  have HK : Hid (∀ W, Below w1.heap.size w1 W → (fun w' => w'.cell? ⟨w.heap.size, 3, none⟩ = some (.slice (some ad) m.methods.length h.c3) ∧ w'.cell? ⟨w.heap.size + 1 + 1 + 1 + 1 + 1 + 1, 0, none⟩ = some (.int .i64 3) ∧ w'.cell? ⟨w.heap.size + 1 + 1 + 1 + 1 + 1 + 1, 1, none⟩ = some (.int .i64 a) ∧ w'.cell? (ad.add (k * 8)) = some (.slice (some adg) y.args.length k0) ∧ w'.cell? (off_ (ad.add (k * 8)) 1) = some (.slice A1 y.locals.length k1) ∧ w'.cell? (off_ (ad.add (k * 8)) 2) = some (.int .i64 y.ret.1) ∧ w'.cell? (off_ (ad.add (k * 8)) 3) = some (.int .i64 y.ret.2) ∧ w'.cell? (off_ (ad.add (k * 8)) 4) = some (.slice A4 y.code.length k4) ∧ w'.cell? (off_ (ad.add (k * 8)) 5) = some (.int .i64 y.depth) ∧ w'.cell? (off_ (ad.add (k * 8)) 6) = some (.int .i64 y.pot) ∧ w'.cell? (off_ (ad.add (k * 8)) 7) = some (.slice A7 y.phi.length k7)) W) := Lib.hid (fun W hW => by
    obtain ⟨d0, d1, d2, d3, d4, d5, d6, d7⟩ := HMC.out.keep hW (by rw [addr_add_block]; exact HAB.out)
    have dt := HP.out.t3.keep hW (by omega)
    exact ⟨(hW.cell (p := ⟨w.heap.size, 3, none⟩) (by show w.heap.size < _; omega)).trans (by rw [← HE0.out]; exact q3), dt 0 _ rfl, dt 1 _ rfl, d0, d1, d2, d3, d4, d5, d6, d7⟩)
  clear q0 q1 q2 q3 q4 q5 q6 o0 o1 o2
  have hsz2 := HX2.out.size
  have hal1 : (1 : Int) ≤ (y.args.length : Int) := by omega
  by_cases hk1 : k0 = 1
  · subst hk1
    refine wp_region_noPanic ?_
    refine wp_region_held_drew (S := (fun w' => w'.cell? ⟨w.heap.size, 3, none⟩ = some (.slice (some ad) m.methods.length h.c3) ∧ w'.cell? ⟨w.heap.size + 1 + 1 + 1 + 1 + 1 + 1, 0, none⟩ = some (.int .i64 3) ∧ w'.cell? ⟨w.heap.size + 1 + 1 + 1 + 1 + 1 + 1, 1, none⟩ = some (.int .i64 a) ∧ w'.cell? (ad.add (k * 8)) = some (.slice (some adg) y.args.length 1) ∧ w'.cell? (off_ (ad.add (k * 8)) 1) = some (.slice A1 y.locals.length k1) ∧ w'.cell? (off_ (ad.add (k * 8)) 2) = some (.int .i64 y.ret.1) ∧ w'.cell? (off_ (ad.add (k * 8)) 3) = some (.int .i64 y.ret.2) ∧ w'.cell? (off_ (ad.add (k * 8)) 4) = some (.slice A4 y.code.length k4) ∧ w'.cell? (off_ (ad.add (k * 8)) 5) = some (.int .i64 y.depth) ∧ w'.cell? (off_ (ad.add (k * 8)) 6) = some (.int .i64 y.pot) ∧ w'.cell? (off_ (ad.add (k * 8)) 7) = some (.slice A7 y.phi.length k7))) (by kernel_rfl) (HK.out _ HX.out) (fun hHeld => ?_)
    refine wpAnyH_take (i := 0) (oi := _) (v := ?_) rfl (by kernel_rfl) (by kernel_rfl) (by kernel_rfl) (fun _ _ _ h => h) (Or.inl ⟨by rfl, ?_⟩) (by assumption) ?_
    rotate_left
    · (intro w hSw; (try dsimp only at hSw); go_simp <;> with_reducible rfl)
    try simp only [List.getElem_toArray, List.getElem_cons_succ, List.getElem_cons_zero, Act.put, List.setIfInBounds_toArray, List.set_cons_zero, List.set_cons_succ]
    refine wpAnyH_take (i := 2) (oi := _) (v := ?_) rfl (by kernel_rfl) (by kernel_rfl) (by kernel_rfl) (fun _ _ _ h => h) (Or.inl ⟨by rfl, ?_⟩) (by assumption) ?_
    rotate_left
    · (intro w hSw; (try dsimp only at hSw); go_simp <;> with_reducible rfl)
    try simp only [List.getElem_toArray, List.getElem_cons_succ, List.getElem_cons_zero, Act.put, List.setIfInBounds_toArray, List.set_cons_zero, List.set_cons_succ]
    refine wpAnyH_take (i := 3) (oi := _) (v := ?_) rfl (by kernel_rfl) (by kernel_rfl) (by kernel_rfl) (fun _ _ _ h => h) (Or.inl ⟨by rfl, ?_⟩) (by assumption) ?_
    rotate_left
    · (intro w hSw; (try dsimp only at hSw); go_simp <;> with_reducible rfl)
    try simp only [List.getElem_toArray, List.getElem_cons_succ, List.getElem_cons_zero, Act.put, List.setIfInBounds_toArray, List.set_cons_zero, List.set_cons_succ]
    refine wpAnyH_take (i := 4) (oi := _) (v := ?_) rfl (by kernel_rfl) (by kernel_rfl) (by kernel_rfl) (fun _ _ _ h => h) (Or.inl ⟨by rfl, ?_⟩) (by assumption) ?_
    rotate_left
    · (intro w hSw; (try dsimp only at hSw); go_simp <;> with_reducible rfl)
    try simp only [List.getElem_toArray, List.getElem_cons_succ, List.getElem_cons_zero, Act.put, List.setIfInBounds_toArray, List.set_cons_zero, List.set_cons_succ]
    refine wpAnyH_take (i := 5) (oi := _) (v := ?_) rfl (by kernel_rfl) (by kernel_rfl) (by kernel_rfl) (fun _ _ _ h => h) (Or.inl ⟨by rfl, ?_⟩) (by assumption) ?_
    rotate_left
    · (intro w hSw; (try dsimp only at hSw); go_simp <;> with_reducible rfl)
    try simp only [List.getElem_toArray, List.getElem_cons_succ, List.getElem_cons_zero, Act.put, List.setIfInBounds_toArray, List.set_cons_zero, List.set_cons_succ]
    refine wpAnyH_take (i := 6) (oi := _) (v := ?_) rfl (by kernel_rfl) (by kernel_rfl) (by kernel_rfl) (fun _ _ _ h => h) (Or.inl ⟨by rfl, ?_⟩) (by assumption) ?_
    rotate_left
    · (intro w hSw; (try dsimp only at hSw); go_simp <;> with_reducible rfl)
    try simp only [List.getElem_toArray, List.getElem_cons_succ, List.getElem_cons_zero, Act.put, List.setIfInBounds_toArray, List.set_cons_zero, List.set_cons_succ]
    refine wpAnyH_take (i := 7) (oi := _) (v := ?_) rfl (by kernel_rfl) (by kernel_rfl) (by kernel_rfl) (fun _ _ _ h => h) (Or.inl ⟨by rfl, ?_⟩) (by assumption) ?_
    rotate_left
    · (intro w hSw; (try dsimp only at hSw); go_simp <;> with_reducible rfl)
    try simp only [List.getElem_toArray, List.getElem_cons_succ, List.getElem_cons_zero, Act.put, List.setIfInBounds_toArray, List.set_cons_zero, List.set_cons_succ]
    refine wpAnyH_take (i := 8) (oi := _) (v := ?_) rfl (by kernel_rfl) (by kernel_rfl) (by kernel_rfl) (fun _ _ _ h => h) (Or.inl ⟨by rfl, ?_⟩) (by assumption) ?_
    rotate_left
    · (intro w hSw; (try dsimp only at hSw); go_simp <;> with_reducible rfl)
    try simp only [List.getElem_toArray, List.getElem_cons_succ, List.getElem_cons_zero, Act.put, List.setIfInBounds_toArray, List.set_cons_zero, List.set_cons_succ]
    refine wpAnyH_take (i := 10) (oi := _) (v := ?_) rfl (by kernel_rfl) (by kernel_rfl) (by kernel_rfl) (fun _ _ _ h => h) (Or.inl ⟨by rfl, ?_⟩) (by assumption) ?_
    rotate_left
    · (intro w hSw; (try dsimp only at hSw); go_simp <;> with_reducible rfl)
    try simp only [List.getElem_toArray, List.getElem_cons_succ, List.getElem_cons_zero, Act.put, List.setIfInBounds_toArray, List.set_cons_zero, List.set_cons_succ]
    refine wpAnyH_take (i := 11) (oi := _) (v := ?_) rfl (by kernel_rfl) (by kernel_rfl) (by kernel_rfl) (fun _ _ _ h => h) (Or.inl ⟨by rfl, ?_⟩) (by assumption) ?_
    rotate_left
    · (intro w hSw; (try dsimp only at hSw); go_simp <;> with_reducible rfl)
    try simp only [List.getElem_toArray, List.getElem_cons_succ, List.getElem_cons_zero, Act.put, List.setIfInBounds_toArray, List.set_cons_zero, List.set_cons_succ]
    refine wpAnyH_take (i := 12) (oi := _) (v := ?_) rfl (by kernel_rfl) (by kernel_rfl) (by kernel_rfl) (fun _ _ _ h => h) (Or.inl ⟨by rfl, ?_⟩) (by assumption) ?_
    rotate_left
    · (intro w hSw; (try dsimp only at hSw); go_simp <;> with_reducible rfl)
    try simp only [List.getElem_toArray, List.getElem_cons_succ, List.getElem_cons_zero, Act.put, List.setIfInBounds_toArray, List.set_cons_zero, List.set_cons_succ]
    refine wpAnyH_take (i := 13) (oi := _) (v := ?_) rfl (by kernel_rfl) (by kernel_rfl) (by kernel_rfl) (fun _ _ _ h => h) (Or.inl ⟨by rfl, ?_⟩) (by assumption) ?_
    rotate_left
    · (intro w hSw; (try dsimp only at hSw); go_simp <;> with_reducible rfl)
    try simp only [List.getElem_toArray, List.getElem_cons_succ, List.getElem_cons_zero, Act.put, List.setIfInBounds_toArray, List.set_cons_zero, List.set_cons_succ]
    refine wpAnyH_take (i := 14) (oi := _) (v := ?_) rfl (by kernel_rfl) (by kernel_rfl) (by kernel_rfl) (fun _ _ _ h => h) (Or.inl ⟨by rfl, ?_⟩) (by assumption) ?_
    rotate_left
    · (intro w hSw; (try dsimp only at hSw); go_simp <;> with_reducible rfl)
    try simp only [List.getElem_toArray, List.getElem_cons_succ, List.getElem_cons_zero, Act.put, List.setIfInBounds_toArray, List.set_cons_zero, List.set_cons_succ]
    refine wpAnyH_ready (rs := [1]) (by kernel_rfl) (by simp) ?_
    refine AllReadyH.cons (o := _) rfl (fun K hK => ?_) AllReadyH.nil
    go_simp
    have HB1 := Lib.hid (HX.out.alloc HX.out.size (.cells #[.int .i64 3, .int .i64 a] 49)); have HO1 : Hid ((w2.drew.alloc (.cells #[.int .i64 3, .int .i64 a] 49)).ownsRow w2.drew.heap.size 49 2 (.slice (some ⟨w2.drew.heap.size, 0, none⟩) 1 1) 1 (tyC (3, a))) := Lib.hid ⟨rfl, .inr ⟨w2.drew.heap.size, 1, #[.int .i64 3, .int .i64 a], rfl, Nat.le_refl _, heap_alloc_new _ _, Nat.le_refl _, (by unfold maxLen; omega), rfl, rfl⟩⟩; have HL1 : Hid (Lies (w2.drew.alloc (.cells #[.int .i64 3, .int .i64 a] 49)) w1.heap.size (some adg) (tysV D)) := Lib.hid ((by have e : D = [] := List.eq_nil_of_length_eq_zero (by rw [HDL.out]; omega); rw [e]; exact Lies.nil))
    refine hK.out _ _ (HK.out _ HB1.out) (fun hHeld => ?_)
    clear hK K
    try simp only [List.getElem_toArray, List.getElem_cons_succ, List.getElem_cons_zero, Act.put, List.setIfInBounds_toArray, List.set_cons_zero, List.set_cons_succ]
    refine wpAnyH_ready (rs := [9]) (by kernel_rfl) (by simp) ?_
    refine AllReadyH.cons (o := _) rfl (fun K hK => ?_) AllReadyH.nil
    (refine step_appK rfl _ _ 23 rfl w2.heap.size 49 i0 (.agg #[.int .i64 0, .int .i64 0]) 2 16 Try.underlying23 hi hz0 hz1 hz2 rfl (by decide) _ 1 (tyC (3, a)) rfl HO1.out (some adg) 0 0 _ (tysV D) (by rw [tysV_len, HDL.out]; omega) rfl HL1.out (tysV_one _) (by unfold maxLen; omega) (by omega) (by simp) ?_; intro v4 w4 hown hgrow; have HX4 := Lib.hid (appK_more HB1.out (own_lower HO1.out hsz2) HB1.out.size hgrow); have hO : w4.ownsRow w2.heap.size 49 2 v4 (((3, a) : Int × Int) :: D).length (tysV (((3, a) : Int × Int) :: D)) := (by have e0 : y.args.length - 1 = 0 := (by omega); rw [List.length_cons, HDL.out, e0]; exact hown); obtain ⟨A4', c4', rfl, hS4, _⟩ := own_types hO; have HS4 := Lib.hid hS4; clear hown hgrow hO hS4)
    refine hK.out _ _ (HK.out _ HX4.out) (fun hHeld => ?_)
    clear hK K
    try simp only [List.getElem_toArray, List.getElem_cons_succ, List.getElem_cons_zero, Act.put, List.setIfInBounds_toArray, List.set_cons_zero, List.set_cons_succ]
    refine wpAnyH_ready (rs := [15]) (by kernel_rfl) (by simp) ?_
    refine AllReadyH.cons (o := _) rfl (fun K hK => ?_) AllReadyH.nil
    go_simp
    go_wp2_with (go_at_call 64; (with_reducible refine (rgives_is (hx := ⟨some adg, A1, A4, A7, 1, k1, k4, k7⟩) HR).mono ?_); rintro e w5 ⟨A5, c5, rfl, hs, hb⟩; have HX5 := Lib.hid (HX4.out.trans (hb.mono HX4.out.size)); have HZ5 := Lib.hid hb; have HS5 := Lib.hid hs; clear hb hs)
    refine hK.out _ _ (HK.out _ HX5.out) (fun hHeld => ?_)
    clear hK K
    try simp only [List.getElem_toArray, List.getElem_cons_succ, List.getElem_cons_zero, Act.put, List.setIfInBounds_toArray, List.set_cons_zero, List.set_cons_succ]
    refine wpAnyH_take (i := 16) (oi := _) (v := ?_) rfl (by kernel_rfl) (by kernel_rfl) (by kernel_rfl) (fun _ _ _ h => h) (Or.inl ⟨by rfl, ?_⟩) (by assumption) ?_
    rotate_left
    · (intro w hSw; (try dsimp only at hSw); go_simp <;> with_reducible rfl)
    try simp only [List.getElem_toArray, List.getElem_cons_succ, List.getElem_cons_zero, Act.put, List.setIfInBounds_toArray, List.set_cons_zero, List.set_cons_succ]
    refine wpAnyH_take (i := 17) (oi := _) (v := ?_) rfl (by kernel_rfl) (by kernel_rfl) (by kernel_rfl) (fun _ _ _ h => h) (Or.inl ⟨by rfl, ?_⟩) (by assumption) ?_
    rotate_left
    · (intro w hSw; (try dsimp only at hSw); go_simp <;> with_reducible rfl)
    try simp only [List.getElem_toArray, List.getElem_cons_succ, List.getElem_cons_zero, Act.put, List.setIfInBounds_toArray, List.set_cons_zero, List.set_cons_succ]
    refine wpAnyH_done (by kernel_rfl) ?_ _
    refine NoPanic.normal ?_
    go_wp2_with fail
    go_ret2
    exact ⟨_, _, _, _, rfl, (HS4.out.below_to TyAt.keeps HZ5.out (Nat.le_refl _)).keep' TyAt.keeps HZ5.out.size (fun _ _ => rfl), HS5.out, HW.out.trans (HX5.out.mono HW.out.size)⟩
  · have hk2 : ¬ k0 ≤ 1 := by omega
    refine wp_region_noPanic ?_
    refine wp_region_held_drew (S := (fun w' => w'.cell? ⟨w.heap.size, 3, none⟩ = some (.slice (some ad) m.methods.length h.c3) ∧ w'.cell? ⟨w.heap.size + 1 + 1 + 1 + 1 + 1 + 1, 0, none⟩ = some (.int .i64 3) ∧ w'.cell? ⟨w.heap.size + 1 + 1 + 1 + 1 + 1 + 1, 1, none⟩ = some (.int .i64 a) ∧ w'.cell? (ad.add (k * 8)) = some (.slice (some adg) y.args.length k0) ∧ w'.cell? (off_ (ad.add (k * 8)) 1) = some (.slice A1 y.locals.length k1) ∧ w'.cell? (off_ (ad.add (k * 8)) 2) = some (.int .i64 y.ret.1) ∧ w'.cell? (off_ (ad.add (k * 8)) 3) = some (.int .i64 y.ret.2) ∧ w'.cell? (off_ (ad.add (k * 8)) 4) = some (.slice A4 y.code.length k4) ∧ w'.cell? (off_ (ad.add (k * 8)) 5) = some (.int .i64 y.depth) ∧ w'.cell? (off_ (ad.add (k * 8)) 6) = some (.int .i64 y.pot) ∧ w'.cell? (off_ (ad.add (k * 8)) 7) = some (.slice A7 y.phi.length k7))) (by kernel_rfl) (HK.out _ HX.out) (fun hHeld => ?_)
    refine wpAnyH_take (i := 0) (oi := _) (v := ?_) rfl (by kernel_rfl) (by kernel_rfl) (by kernel_rfl) (fun _ _ _ h => h) (Or.inl ⟨by rfl, ?_⟩) (by assumption) ?_
    rotate_left
    · (intro w hSw; (try dsimp only at hSw); go_simp <;> with_reducible rfl)
    try simp only [List.getElem_toArray, List.getElem_cons_succ, List.getElem_cons_zero, Act.put, List.setIfInBounds_toArray, List.set_cons_zero, List.set_cons_succ]
    refine wpAnyH_take (i := 2) (oi := _) (v := ?_) rfl (by kernel_rfl) (by kernel_rfl) (by kernel_rfl) (fun _ _ _ h => h) (Or.inl ⟨by rfl, ?_⟩) (by assumption) ?_
    rotate_left
    · (intro w hSw; (try dsimp only at hSw); go_simp <;> with_reducible rfl)
    try simp only [List.getElem_toArray, List.getElem_cons_succ, List.getElem_cons_zero, Act.put, List.setIfInBounds_toArray, List.set_cons_zero, List.set_cons_succ]
    refine wpAnyH_take (i := 3) (oi := _) (v := ?_) rfl (by kernel_rfl) (by kernel_rfl) (by kernel_rfl) (fun _ _ _ h => h) (Or.inl ⟨by rfl, ?_⟩) (by assumption) ?_
    rotate_left
    · (intro w hSw; (try dsimp only at hSw); go_simp <;> with_reducible rfl)
    try simp only [List.getElem_toArray, List.getElem_cons_succ, List.getElem_cons_zero, Act.put, List.setIfInBounds_toArray, List.set_cons_zero, List.set_cons_succ]
    refine wpAnyH_take (i := 4) (oi := _) (v := ?_) rfl (by kernel_rfl) (by kernel_rfl) (by kernel_rfl) (fun _ _ _ h => h) (Or.inl ⟨by rfl, ?_⟩) (by assumption) ?_
    rotate_left
    · (intro w hSw; (try dsimp only at hSw); go_simp <;> with_reducible rfl)
    try simp only [List.getElem_toArray, List.getElem_cons_succ, List.getElem_cons_zero, Act.put, List.setIfInBounds_toArray, List.set_cons_zero, List.set_cons_succ]
    refine wpAnyH_take (i := 5) (oi := _) (v := ?_) rfl (by kernel_rfl) (by kernel_rfl) (by kernel_rfl) (fun _ _ _ h => h) (Or.inl ⟨by rfl, ?_⟩) (by assumption) ?_
    rotate_left
    · (intro w hSw; (try dsimp only at hSw); go_simp <;> with_reducible rfl)
    try simp only [List.getElem_toArray, List.getElem_cons_succ, List.getElem_cons_zero, Act.put, List.setIfInBounds_toArray, List.set_cons_zero, List.set_cons_succ]
    refine wpAnyH_take (i := 6) (oi := _) (v := ?_) rfl (by kernel_rfl) (by kernel_rfl) (by kernel_rfl) (fun _ _ _ h => h) (Or.inl ⟨by rfl, ?_⟩) (by assumption) ?_
    rotate_left
    · (intro w hSw; (try dsimp only at hSw); go_simp <;> with_reducible rfl)
    try simp only [List.getElem_toArray, List.getElem_cons_succ, List.getElem_cons_zero, Act.put, List.setIfInBounds_toArray, List.set_cons_zero, List.set_cons_succ]
    refine wpAnyH_take (i := 7) (oi := _) (v := ?_) rfl (by kernel_rfl) (by kernel_rfl) (by kernel_rfl) (fun _ _ _ h => h) (Or.inl ⟨by rfl, ?_⟩) (by assumption) ?_
    rotate_left
    · (intro w hSw; (try dsimp only at hSw); go_simp <;> with_reducible rfl)
    try simp only [List.getElem_toArray, List.getElem_cons_succ, List.getElem_cons_zero, Act.put, List.setIfInBounds_toArray, List.set_cons_zero, List.set_cons_succ]
    refine wpAnyH_take (i := 8) (oi := _) (v := ?_) rfl (by kernel_rfl) (by kernel_rfl) (by kernel_rfl) (fun _ _ _ h => h) (Or.inl ⟨by rfl, ?_⟩) (by assumption) ?_
    rotate_left
    · (intro w hSw; (try dsimp only at hSw); go_simp <;> with_reducible rfl)
    try simp only [List.getElem_toArray, List.getElem_cons_succ, List.getElem_cons_zero, Act.put, List.setIfInBounds_toArray, List.set_cons_zero, List.set_cons_succ]
    refine wpAnyH_take (i := 10) (oi := _) (v := ?_) rfl (by kernel_rfl) (by kernel_rfl) (by kernel_rfl) (fun _ _ _ h => h) (Or.inl ⟨by rfl, ?_⟩) (by assumption) ?_
    rotate_left
    · (intro w hSw; (try dsimp only at hSw); go_simp <;> with_reducible rfl)
    try simp only [List.getElem_toArray, List.getElem_cons_succ, List.getElem_cons_zero, Act.put, List.setIfInBounds_toArray, List.set_cons_zero, List.set_cons_succ]
    refine wpAnyH_take (i := 11) (oi := _) (v := ?_) rfl (by kernel_rfl) (by kernel_rfl) (by kernel_rfl) (fun _ _ _ h => h) (Or.inl ⟨by rfl, ?_⟩) (by assumption) ?_
    rotate_left
    · (intro w hSw; (try dsimp only at hSw); go_simp <;> with_reducible rfl)
    try simp only [List.getElem_toArray, List.getElem_cons_succ, List.getElem_cons_zero, Act.put, List.setIfInBounds_toArray, List.set_cons_zero, List.set_cons_succ]
    refine wpAnyH_take (i := 12) (oi := _) (v := ?_) rfl (by kernel_rfl) (by kernel_rfl) (by kernel_rfl) (fun _ _ _ h => h) (Or.inl ⟨by rfl, ?_⟩) (by assumption) ?_
    rotate_left
    · (intro w hSw; (try dsimp only at hSw); go_simp <;> with_reducible rfl)
    try simp only [List.getElem_toArray, List.getElem_cons_succ, List.getElem_cons_zero, Act.put, List.setIfInBounds_toArray, List.set_cons_zero, List.set_cons_succ]
    refine wpAnyH_take (i := 13) (oi := _) (v := ?_) rfl (by kernel_rfl) (by kernel_rfl) (by kernel_rfl) (fun _ _ _ h => h) (Or.inl ⟨by rfl, ?_⟩) (by assumption) ?_
    rotate_left
    · (intro w hSw; (try dsimp only at hSw); go_simp <;> with_reducible rfl)
    try simp only [List.getElem_toArray, List.getElem_cons_succ, List.getElem_cons_zero, Act.put, List.setIfInBounds_toArray, List.set_cons_zero, List.set_cons_succ]
    refine wpAnyH_take (i := 14) (oi := _) (v := ?_) rfl (by kernel_rfl) (by kernel_rfl) (by kernel_rfl) (fun _ _ _ h => h) (Or.inl ⟨by rfl, ?_⟩) (by assumption) ?_
    rotate_left
    · (intro w hSw; (try dsimp only at hSw); go_simp <;> with_reducible rfl)
    try simp only [List.getElem_toArray, List.getElem_cons_succ, List.getElem_cons_zero, Act.put, List.setIfInBounds_toArray, List.set_cons_zero, List.set_cons_succ]
    refine wpAnyH_ready (rs := [1]) (by kernel_rfl) (by simp) ?_
    refine AllReadyH.cons (o := _) rfl (fun K hK => ?_) AllReadyH.nil
    go_simp
    have HB1 := Lib.hid (HX.out.alloc HX.out.size (.cells #[.int .i64 3, .int .i64 a] 49)); have HO1 : Hid ((w2.drew.alloc (.cells #[.int .i64 3, .int .i64 a] 49)).ownsRow w2.drew.heap.size 49 2 (.slice (some ⟨w2.drew.heap.size, 0, none⟩) 1 1) 1 (tyC (3, a))) := Lib.hid ⟨rfl, .inr ⟨w2.drew.heap.size, 1, #[.int .i64 3, .int .i64 a], rfl, Nat.le_refl _, heap_alloc_new _ _, Nat.le_refl _, (by unfold maxLen; omega), rfl, rfl⟩⟩; have HL1 : Hid (Lies (w2.drew.alloc (.cells #[.int .i64 3, .int .i64 a] 49)) w1.heap.size (some ⟨adg.block, adg.off + 2, none⟩) (tysV D)) := Lib.hid ((by have h1 := (HTL.out.drop_ 2).below_to HB1.out (Nat.le_refl _); rw [tysV_drop, HD.out] at h1; have e : (some adg).map (fun x => Addr.add x 2) = some ⟨adg.block, adg.off + 2, none⟩ := (by simp [Addr.add]); rw [e] at h1; exact h1))
    refine hK.out _ _ (HK.out _ HB1.out) (fun hHeld => ?_)
    clear hK K
    try simp only [List.getElem_toArray, List.getElem_cons_succ, List.getElem_cons_zero, Act.put, List.setIfInBounds_toArray, List.set_cons_zero, List.set_cons_succ]
    refine wpAnyH_ready (rs := [9]) (by kernel_rfl) (by simp) ?_
    refine AllReadyH.cons (o := _) rfl (fun K hK => ?_) AllReadyH.nil
    (refine step_appK rfl _ _ 23 rfl w2.heap.size 49 i0 (.agg #[.int .i64 0, .int .i64 0]) 2 16 Try.underlying23 hi hz0 hz1 hz2 rfl (by decide) _ 1 (tyC (3, a)) rfl HO1.out (some ⟨adg.block, adg.off + 2, none⟩) (y.args.length - 1) (k0 - 1) _ (tysV D) (by rw [tysV_len, HDL.out]) rfl HL1.out (tysV_one _) (by unfold maxLen; omega) (by omega) (by simp) ?_; intro v4 w4 hown hgrow; have HX4 := Lib.hid (appK_more HB1.out (own_lower HO1.out hsz2) HB1.out.size hgrow); have hO : w4.ownsRow w2.heap.size 49 2 v4 (((3, a) : Int × Int) :: D).length (tysV (((3, a) : Int × Int) :: D)) := (by rw [List.length_cons, HDL.out, Nat.add_comm]; exact hown); obtain ⟨A4', c4', rfl, hS4, _⟩ := own_types hO; have HS4 := Lib.hid hS4; clear hown hgrow hO hS4)
    refine hK.out _ _ (HK.out _ HX4.out) (fun hHeld => ?_)
    clear hK K
    try simp only [List.getElem_toArray, List.getElem_cons_succ, List.getElem_cons_zero, Act.put, List.setIfInBounds_toArray, List.set_cons_zero, List.set_cons_succ]
    refine wpAnyH_ready (rs := [15]) (by kernel_rfl) (by simp) ?_
    refine AllReadyH.cons (o := _) rfl (fun K hK => ?_) AllReadyH.nil
    go_simp
    go_wp2_with (go_at_call 64; (with_reducible refine (rgives_is (hx := ⟨some adg, A1, A4, A7, k0, k1, k4, k7⟩) HR).mono ?_); rintro e w5 ⟨A5, c5, rfl, hs, hb⟩; have HX5 := Lib.hid (HX4.out.trans (hb.mono HX4.out.size)); have HZ5 := Lib.hid hb; have HS5 := Lib.hid hs; clear hb hs)
    refine hK.out _ _ (HK.out _ HX5.out) (fun hHeld => ?_)
    clear hK K
    try simp only [List.getElem_toArray, List.getElem_cons_succ, List.getElem_cons_zero, Act.put, List.setIfInBounds_toArray, List.set_cons_zero, List.set_cons_succ]
    refine wpAnyH_take (i := 16) (oi := _) (v := ?_) rfl (by kernel_rfl) (by kernel_rfl) (by kernel_rfl) (fun _ _ _ h => h) (Or.inl ⟨by rfl, ?_⟩) (by assumption) ?_
    rotate_left
    · (intro w hSw; (try dsimp only at hSw); go_simp <;> with_reducible rfl)
    try simp only [List.getElem_toArray, List.getElem_cons_succ, List.getElem_cons_zero, Act.put, List.setIfInBounds_toArray, List.set_cons_zero, List.set_cons_succ]
    refine wpAnyH_take (i := 17) (oi := _) (v := ?_) rfl (by kernel_rfl) (by kernel_rfl) (by kernel_rfl) (fun _ _ _ h => h) (Or.inl ⟨by rfl, ?_⟩) (by assumption) ?_
    rotate_left
    · (intro w hSw; (try dsimp only at hSw); go_simp <;> with_reducible rfl)
    try simp only [List.getElem_toArray, List.getElem_cons_succ, List.getElem_cons_zero, Act.put, List.setIfInBounds_toArray, List.set_cons_zero, List.set_cons_succ]
    refine wpAnyH_done (by kernel_rfl) ?_ _
    refine NoPanic.normal ?_
    go_wp2_with fail
    go_ret2
    exact ⟨_, _, _, _, rfl, (HS4.out.below_to TyAt.keeps HZ5.out (Nat.le_refl _)).keep' TyAt.keeps HZ5.out.size (fun _ _ => rfl), HS5.out, HW.out.trans (HX5.out.mono HW.out.size)⟩

end Go.Proofs.Ytefgepppcmhphaa
