/-
  What the program's own image.Fits comes to: its parts, one by one.
-/
import Derived.Test.YtjgfoialajgfhaaRefFits2
import Derived.Test.YtjgfoialajgfhaaInstOwn
namespace Go.Proofs.Ytjgfoialajgfhaa
set_option maxRecDepth 100000
set_option linter.unusedVariables false
set_option linter.unusedSimpArgs false
open Go.ChangeShapes Go.WideShapes Go.ChangeAt Go.RowKit
set_option linter.unusedVariables false

theorem iupto_any (en n : Int) (w : World) : Calls Try.prog 29 #[.int .i64 en, .int .i64 n] w fun e w' => e = .returned (.bool (withinB n 0 en)) ∧ Below w.heap.size w w' := by
  by_cases h : 0 ≤ n
  · by_cases g : n ≤ en
    · have E := Lib.hid (show withinB n 0 en = true from decide_eq_true ⟨h, g⟩)
      go_enter Try.func29, Try.ntmps29
      go_wp2
      go_ret
      exact ⟨by rw [E.out]; first | rfl | simp [g], Below.refl _ _⟩
    · have E := Lib.hid (show withinB n 0 en = false from decide_eq_false (fun x => g x.2))
      go_enter Try.func29, Try.ntmps29
      go_wp2
      go_ret
      exact ⟨by rw [E.out]; first | rfl | simp [g], Below.refl _ _⟩
  · have E := Lib.hid (show withinB n 0 en = false from decide_eq_false (fun x => h x.1))
    go_enter Try.func29, Try.ntmps29
    go_wp2
    go_ret
    exact ⟨by rw [E.out]; first | rfl | simp [h], Below.refl _ _⟩
theorem iupto_is {en n : Int} {r : Bool} {w : World} (H : Hid (withinB n 0 en = r)) : Calls Try.prog 29 #[.int .i64 en, .int .i64 n] w fun e w' => e = .returned (.bool r) ∧ Below w.heap.size w w' := by
  have h := iupto_any en n w
  rw [H.out] at h
  exact h
theorem imnum_any (n : Int) (w : World) : Calls Try.prog 28 #[.int .i64 n] w fun e w' => e = .returned (.bool (withinB n 0 11)) ∧ Below w.heap.size w w' := by
  go_enter Try.func28, Try.ntmps28
  go_wp2_with (go_at_call 29; (with_reducible refine (iupto_any _ _ _).mono ?_); rintro e w' ⟨rfl, hb⟩)
  go_ret
  exact ⟨rfl, hb⟩
theorem ipot_any (n : Int) (w : World) : Calls Try.prog 44 #[.int .i64 n] w fun e w' => e = .returned (.bool (withinB n 0 4096)) ∧ Below w.heap.size w w' := by
  go_enter Try.func44, Try.ntmps44
  go_wp2_with (go_at_call 29; (with_reducible refine (iupto_any _ _ _).mono ?_); rintro e w' ⟨rfl, hb⟩)
  go_ret
  exact ⟨rfl, hb⟩
theorem ityp_any (t : Int × Int) (w : World) : Calls Try.prog 24 #[tyV t.1 t.2] w fun e w' => e = .returned (.bool (typB t)) ∧ Below w.heap.size w w' := by
  obtain ⟨k, n⟩ := t
  dsimp only
  have HW := Lib.hid ((Below.refl w.heap.size w).alloc (Nat.le_refl _) (.cells #[.int .i64 k, .int .i64 n] 35))
  by_cases h3 : k = 3
  · subst h3
    have E := Lib.hid (show typB (3, n) = withinB n 0 7 by unfold typB withinB; rw [decide_eq_decide]; dsimp only; omega)
    go_enter Try.func24, Try.ntmps24
    go_wp2_with (go_at_call 29; (with_reducible refine (iupto_any _ _ _).mono ?_); rintro e w' ⟨rfl, hb⟩)
    go_ret
    exact ⟨by rw [E.out]; rfl, HW.out.trans (hb.mono HW.out.size)⟩
  · have h3' : (k == 3) = false := by simpa using h3
    obtain ⟨r, hr⟩ : ∃ r, withinB k 0 5 = r := ⟨_, rfl⟩
    have R := Lib.hid hr
    have E := Lib.hid (show typB (k, n) = (r && decide (n = 0)) by rw [← hr]; unfold typB withinB; rw [Bool.eq_iff_iff]; simp; omega)
    clear hr
    cases r
    · go_enter Try.func24, Try.ntmps24
      go_wp2_with (go_at_call 29; (with_reducible refine (iupto_is R).mono ?_); rintro e w' ⟨rfl, hb⟩)
      go_ret
      exact ⟨by rw [E.out]; rfl, HW.out.trans (hb.mono HW.out.size)⟩
    · have c1 : ∀ w', Below (w.alloc (.cells #[.int .i64 k, .int .i64 n] 35)).heap.size (w.alloc (.cells #[.int .i64 k, .int .i64 n] 35)) w' → w'.cell? ⟨w.heap.size, 1, none⟩ = some (.int .i64 n) := fun w' hb => (hb.cell (p := ⟨w.heap.size, 1, none⟩) (by simp)).trans (by rw [World.cell?_alloc_at _ _ _ _ rfl]; rfl)
      have C1 := Lib.hid c1
      clear c1
      by_cases h0 : n = 0
      · subst h0
        go_enter Try.func24, Try.ntmps24
        go_wp2_with (go_at_call 29; (with_reducible refine (iupto_is R).mono ?_); rintro e w' ⟨rfl, hb⟩; have q1 := C1.out _ hb)
        go_ret
        exact ⟨by rw [E.out]; rfl, HW.out.trans (hb.mono HW.out.size)⟩
      · have h0' : (n == 0) = false := by simpa using h0
        go_enter Try.func24, Try.ntmps24
        go_wp2_with (go_at_call 29; (with_reducible refine (iupto_is R).mono ?_); rintro e w' ⟨rfl, hb⟩; have q1 := C1.out _ hb)
        go_ret
        exact ⟨by rw [E.out]; simp [h0], HW.out.trans (hb.mono HW.out.size)⟩

/-- Few enough, and each as it should be? -/
def fewB {α : Type} (p : α → Bool) (l : List α) (n : Int) : Bool := decide ((l.length : Int) ≤ n) && l.all p
theorem few_over {α : Type} {p : α → Bool} {l : List α} {n : Int} (h : ¬ (l.length : Int) ≤ n) : fewB p l n = false := by unfold fewB; rw [decide_eq_false h]; rfl
theorem few_all {α : Type} {p : α → Bool} {l : List α} {n : Int} (h : (l.length : Int) ≤ n) : fewB p l n = l.all p := by unfold fewB; rw [decide_eq_true h]; rfl
theorem few_types (l : List (Int × Int)) (n : Int) : fewB typB l n = typesB l n := by
  unfold fewB typesB
  rw [Bool.eq_iff_iff]
  simp
theorem few_list (l : List Int) (n most : Int) : fewB (fun x => withinB x 0 most) l n = listB l n most := by
  unfold fewB listB withinB
  rw [Bool.eq_iff_iff]
  simp


set_option maxHeartbeats 1600000 in
theorem iwTypes_any (l : List (Int × Int)) (n : Int) (A : Option Addr) (cap B : Nat) (w : World) (hB : B ≤ w.heap.size) (h : SlcIs TyAt 2 w B A cap l) :
    Calls Try.prog 23 #[.slice A l.length cap, .int .i64 n, .func (.func 24) #[] #[]] w fun e w' => e = .returned (.bool (fewB typB l n)) ∧ Below w.heap.size w w' := by
  have hlc := h.le
  have hcm := h.cap
  have HL := Lib.hid h
  have HB := Lib.hid hB
  clear h hB
  by_cases hn : n < l.length
  · have E := Lib.hid (few_over (p := typB) (show ¬ (l.length : Int) ≤ n by omega))
    go_enter Try.func23, Try.ntmps23
    go_wp2
    go_ret
    exact ⟨by rw [E.out]; rfl, Below.refl _ _⟩
  · have E := Lib.hid (few_all (p := typB) (show (l.length : Int) ≤ n by omega))
    rw [E.out]
    clear E
    go_enter Try.func23, Try.ntmps23
    go_wp2
    go_loopw [15] (fun i wr => ∃ k : Nat, k ≤ l.length ∧ i = .int .i64 k ∧ Hid (∀ t ∈ l.take k, typB t = true) ∧ Hid (Below w.heap.size w wr)) (fun i _ => l.length - (intOf i).toNat)
    case atStart => exact ⟨0, by omega, rfl, Lib.hid (by simp), Lib.hid (Below.refl _ _)⟩
    case round =>
      obtain ⟨k, hk, rfl, HN, HX⟩ := hrel
      by_cases hlt : k < l.length
      · obtain ⟨ad, rfl, hab, q0, q1⟩ := (HL.out.below_to TyAt.keeps HX.out HB.out).row.at_ hlt
        have HNOT := Lib.hid (fun g : typB l[k] = false => all_not hlt g)
        have HYES := Lib.hid (fun g : typB l[k] = true => all_take hlt HN.out g)
        generalize l[k] = t at *
        obtain ⟨r, hr⟩ : ∃ r, typB t = r := ⟨_, rfl⟩
        have R := Lib.hid hr
        clear hr
        have HA := Lib.hid (HX.out.alloc HX.out.size (.cells #[.int .i64 t.1, .int .i64 t.2] 35))
        cases r
        · go_wp2_with (go_at_call 24; (with_reducible refine (ityp_any t _).mono ?_); rintro e w1 ⟨he, hb⟩; rw [R.out] at he; subst he; have HX1 := Lib.hid (HA.out.trans (hb.mono HA.out.size)); clear hb)
          go_ret
          exact ⟨by rw [HNOT.out R.out]; rfl, HX1.out⟩
        · go_wp2_with (go_at_call 24; (with_reducible refine (ityp_any t _).mono ?_); rintro e w1 ⟨he, hb⟩; rw [R.out] at he; subst he; have HX1 := Lib.hid (HA.out.trans (hb.mono HA.out.size)); clear hb)
          go_roundw
          case rel => exact ⟨k + 1, by omega, by go_num, Lib.hid (HYES.out R.out), HX1⟩
          case measure => simp [intOf]; omega
      · go_wp2_with fail
        go_ret
        exact ⟨by rw [all_end HN.out (by omega)]; rfl, HX.out⟩
def numB (x : Int) : Bool := withinB x 0 11
def potB (x : Int) : Bool := withinB x 0 4096

set_option maxHeartbeats 1600000 in
theorem iwNums_any (l : List (Int)) (n : Int) (A : Option Addr) (cap B : Nat) (w : World) (hB : B ≤ w.heap.size) (h : SlcIs IntAt 1 w B A cap l) :
    Calls Try.prog 27 #[.slice A l.length cap, .int .i64 n, .func (.func 28) #[] #[]] w fun e w' => e = .returned (.bool (fewB numB l n)) ∧ Below w.heap.size w w' := by
  have hlc := h.le
  have hcm := h.cap
  have HL := Lib.hid h
  have HB := Lib.hid hB
  clear h hB
  by_cases hn : n < l.length
  · have E := Lib.hid (few_over (p := numB) (show ¬ (l.length : Int) ≤ n by omega))
    go_enter Try.func27, Try.ntmps27
    go_wp2
    go_ret
    exact ⟨by rw [E.out]; rfl, Below.refl _ _⟩
  · have E := Lib.hid (few_all (p := numB) (show (l.length : Int) ≤ n by omega))
    rw [E.out]
    clear E
    go_enter Try.func27, Try.ntmps27
    go_wp2
    go_loopw [15] (fun i wr => ∃ k : Nat, k ≤ l.length ∧ i = .int .i64 k ∧ Hid (∀ t ∈ l.take k, numB t = true) ∧ Hid (Below w.heap.size w wr)) (fun i _ => l.length - (intOf i).toNat)
    case atStart => exact ⟨0, by omega, rfl, Lib.hid (by simp), Lib.hid (Below.refl _ _)⟩
    case round =>
      obtain ⟨k, hk, rfl, HN, HX⟩ := hrel
      by_cases hlt : k < l.length
      · obtain ⟨ad, rfl, hab, q0⟩ := (HL.out.below_to IntAt.keeps HX.out HB.out).row.at_ hlt
        have HNOT := Lib.hid (fun g : numB l[k] = false => all_not hlt g)
        have HYES := Lib.hid (fun g : numB l[k] = true => all_take hlt HN.out g)
        rw [Nat.mul_one] at q0
        have q0' : wr.cell? (ad.add k) = some (.int .i64 l[k]) := q0
        clear q0
        generalize l[k] = t at *
        obtain ⟨r, hr⟩ : ∃ r, numB t = r := ⟨_, rfl⟩
        have R := Lib.hid hr
        clear hr
        have HA := HX
        cases r
        · go_wp2_with (go_at_call 28; (with_reducible refine (imnum_any t _).mono ?_); rintro e w1 ⟨he, hb⟩; rw [show withinB t 0 11 = _ from R.out] at he; subst he; have HX1 := Lib.hid (HA.out.trans (hb.mono HA.out.size)); clear hb)
          go_ret
          exact ⟨by rw [HNOT.out R.out]; rfl, HX1.out⟩
        · go_wp2_with (go_at_call 28; (with_reducible refine (imnum_any t _).mono ?_); rintro e w1 ⟨he, hb⟩; rw [show withinB t 0 11 = _ from R.out] at he; subst he; have HX1 := Lib.hid (HA.out.trans (hb.mono HA.out.size)); clear hb)
          go_roundw
          case rel => exact ⟨k + 1, by omega, by go_num, Lib.hid (HYES.out R.out), HX1⟩
          case measure => simp [intOf]; omega
      · go_wp2_with fail
        go_ret
        exact ⟨by rw [all_end HN.out (by omega)]; rfl, HX.out⟩

set_option maxHeartbeats 1600000 in
theorem iwPots_any (l : List (Int)) (n : Int) (A : Option Addr) (cap B : Nat) (w : World) (hB : B ≤ w.heap.size) (h : SlcIs IntAt 1 w B A cap l) :
    Calls Try.prog 27 #[.slice A l.length cap, .int .i64 n, .func (.func 44) #[] #[]] w fun e w' => e = .returned (.bool (fewB potB l n)) ∧ Below w.heap.size w w' := by
  have hlc := h.le
  have hcm := h.cap
  have HL := Lib.hid h
  have HB := Lib.hid hB
  clear h hB
  by_cases hn : n < l.length
  · have E := Lib.hid (few_over (p := potB) (show ¬ (l.length : Int) ≤ n by omega))
    go_enter Try.func27, Try.ntmps27
    go_wp2
    go_ret
    exact ⟨by rw [E.out]; rfl, Below.refl _ _⟩
  · have E := Lib.hid (few_all (p := potB) (show (l.length : Int) ≤ n by omega))
    rw [E.out]
    clear E
    go_enter Try.func27, Try.ntmps27
    go_wp2
    go_loopw [15] (fun i wr => ∃ k : Nat, k ≤ l.length ∧ i = .int .i64 k ∧ Hid (∀ t ∈ l.take k, potB t = true) ∧ Hid (Below w.heap.size w wr)) (fun i _ => l.length - (intOf i).toNat)
    case atStart => exact ⟨0, by omega, rfl, Lib.hid (by simp), Lib.hid (Below.refl _ _)⟩
    case round =>
      obtain ⟨k, hk, rfl, HN, HX⟩ := hrel
      by_cases hlt : k < l.length
      · obtain ⟨ad, rfl, hab, q0⟩ := (HL.out.below_to IntAt.keeps HX.out HB.out).row.at_ hlt
        have HNOT := Lib.hid (fun g : potB l[k] = false => all_not hlt g)
        have HYES := Lib.hid (fun g : potB l[k] = true => all_take hlt HN.out g)
        rw [Nat.mul_one] at q0
        have q0' : wr.cell? (ad.add k) = some (.int .i64 l[k]) := q0
        clear q0
        generalize l[k] = t at *
        obtain ⟨r, hr⟩ : ∃ r, potB t = r := ⟨_, rfl⟩
        have R := Lib.hid hr
        clear hr
        have HA := HX
        cases r
        · go_wp2_with (go_at_call 44; (with_reducible refine (ipot_any t _).mono ?_); rintro e w1 ⟨he, hb⟩; rw [show withinB t 0 4096 = _ from R.out] at he; subst he; have HX1 := Lib.hid (HA.out.trans (hb.mono HA.out.size)); clear hb)
          go_ret
          exact ⟨by rw [HNOT.out R.out]; rfl, HX1.out⟩
        · go_wp2_with (go_at_call 44; (with_reducible refine (ipot_any t _).mono ?_); rintro e w1 ⟨he, hb⟩; rw [show withinB t 0 4096 = _ from R.out] at he; subst he; have HX1 := Lib.hid (HA.out.trans (hb.mono HA.out.size)); clear hb)
          go_roundw
          case rel => exact ⟨k + 1, by omega, by go_num, Lib.hid (HYES.out R.out), HX1⟩
          case measure => simp [intOf]; omega
      · go_wp2_with fail
        go_ret
        exact ⟨by rw [all_end HN.out (by omega)]; rfl, HX.out⟩
def insB (i : Int × Int × Int) : Bool := instrB i.1 i.2.1 i.2.2

set_option maxHeartbeats 1600000 in
theorem iwCode_any (l : List (Int × Int × Int)) (n : Int) (A : Option Addr) (cap B : Nat) (w : World) (hB : B ≤ w.heap.size) (h : SlcIs CodeAt 3 w B A cap l) :
    Calls Try.prog 42 #[.slice A l.length cap, .int .i64 n, .func (.func 43) #[] #[]] w fun e w' => e = .returned (.bool (fewB insB l n)) ∧ Below w.heap.size w w' := by
  have hlc := h.le
  have hcm := h.cap
  have HL := Lib.hid h
  have HB := Lib.hid hB
  clear h hB
  by_cases hn : n < l.length
  · have E := Lib.hid (few_over (p := insB) (show ¬ (l.length : Int) ≤ n by omega))
    go_enter Try.func42, Try.ntmps42
    go_wp2
    go_ret
    exact ⟨by rw [E.out]; rfl, Below.refl _ _⟩
  · have E := Lib.hid (few_all (p := insB) (show (l.length : Int) ≤ n by omega))
    rw [E.out]
    clear E
    go_enter Try.func42, Try.ntmps42
    go_wp2
    go_loopw [15] (fun i wr => ∃ k : Nat, k ≤ l.length ∧ i = .int .i64 k ∧ Hid (∀ t ∈ l.take k, insB t = true) ∧ Hid (Below w.heap.size w wr)) (fun i _ => l.length - (intOf i).toNat)
    case atStart => exact ⟨0, by omega, rfl, Lib.hid (by simp), Lib.hid (Below.refl _ _)⟩
    case round =>
      obtain ⟨k, hk, rfl, HN, HX⟩ := hrel
      by_cases hlt : k < l.length
      · obtain ⟨ad, rfl, hab, q0, q1, q2⟩ := (HL.out.below_to CodeAt.keeps HX.out HB.out).row.at_ hlt
        have HNOT := Lib.hid (fun g : insB l[k] = false => all_not hlt g)
        have HYES := Lib.hid (fun g : insB l[k] = true => all_take hlt HN.out g)
        generalize l[k] = t at *
        obtain ⟨r, hr⟩ : ∃ r, insB t = r := ⟨_, rfl⟩
        have R := Lib.hid hr
        clear hr
        have HA := Lib.hid (HX.out.alloc HX.out.size (.cells #[.int .i64 t.1, .int .i64 t.2.1, .int .i64 t.2.2] 41))
        cases r
        · go_wp2_with (go_at_call 43; (with_reducible refine (igood_any t.1 t.2.1 t.2.2 _).mono ?_); rintro e w1 ⟨he, hb⟩; rw [show instrB t.1 t.2.1 t.2.2 = _ from R.out] at he; subst he; have HX1 := Lib.hid (HA.out.trans (hb.mono HA.out.size)); clear hb)
          go_ret
          exact ⟨by rw [HNOT.out R.out]; rfl, HX1.out⟩
        · go_wp2_with (go_at_call 43; (with_reducible refine (igood_any t.1 t.2.1 t.2.2 _).mono ?_); rintro e w1 ⟨he, hb⟩; rw [show instrB t.1 t.2.1 t.2.2 = _ from R.out] at he; subst he; have HX1 := Lib.hid (HA.out.trans (hb.mono HA.out.size)); clear hb)
          go_roundw
          case rel => exact ⟨k + 1, by omega, by go_num, Lib.hid (HYES.out R.out), HX1⟩
          case measure => simp [intOf]; omega
      · go_wp2_with fail
        go_ret
        exact ⟨by rw [all_end HN.out (by omega)]; rfl, HX.out⟩

theorem iwTypes_is {l : List (Int × Int)} {n : Int} {A : Option Addr} {cap B : Nat} {w0 w : World} {r : Bool} (HL : Hid (SlcIs TyAt 2 w0 B A cap l)) (HB : Hid (B ≤ w0.heap.size)) (HX : Hid (Below w0.heap.size w0 w)) (HR : Hid (fewB typB l n = r)) :
    Calls Try.prog 23 #[.slice A l.length cap, .int .i64 n, .func (.func 24) #[] #[]] w fun e w' => e = .returned (.bool r) ∧ Below w.heap.size w w' := by
  have h := iwTypes_any l n A cap B w (Nat.le_trans HB.out HX.out.size) (HL.out.below_to TyAt.keeps HX.out HB.out)
  rw [HR.out] at h
  exact h

theorem iwNums_is {l : List (Int)} {n : Int} {A : Option Addr} {cap B : Nat} {w0 w : World} {r : Bool} (HL : Hid (SlcIs IntAt 1 w0 B A cap l)) (HB : Hid (B ≤ w0.heap.size)) (HX : Hid (Below w0.heap.size w0 w)) (HR : Hid (fewB numB l n = r)) :
    Calls Try.prog 27 #[.slice A l.length cap, .int .i64 n, .func (.func 28) #[] #[]] w fun e w' => e = .returned (.bool r) ∧ Below w.heap.size w w' := by
  have h := iwNums_any l n A cap B w (Nat.le_trans HB.out HX.out.size) (HL.out.below_to IntAt.keeps HX.out HB.out)
  rw [HR.out] at h
  exact h

theorem iwPots_is {l : List (Int)} {n : Int} {A : Option Addr} {cap B : Nat} {w0 w : World} {r : Bool} (HL : Hid (SlcIs IntAt 1 w0 B A cap l)) (HB : Hid (B ≤ w0.heap.size)) (HX : Hid (Below w0.heap.size w0 w)) (HR : Hid (fewB potB l n = r)) :
    Calls Try.prog 27 #[.slice A l.length cap, .int .i64 n, .func (.func 44) #[] #[]] w fun e w' => e = .returned (.bool r) ∧ Below w.heap.size w w' := by
  have h := iwPots_any l n A cap B w (Nat.le_trans HB.out HX.out.size) (HL.out.below_to IntAt.keeps HX.out HB.out)
  rw [HR.out] at h
  exact h

theorem iwCode_is {l : List (Int × Int × Int)} {n : Int} {A : Option Addr} {cap B : Nat} {w0 w : World} {r : Bool} (HL : Hid (SlcIs CodeAt 3 w0 B A cap l)) (HB : Hid (B ≤ w0.heap.size)) (HX : Hid (Below w0.heap.size w0 w)) (HR : Hid (fewB insB l n = r)) :
    Calls Try.prog 42 #[.slice A l.length cap, .int .i64 n, .func (.func 43) #[] #[]] w fun e w' => e = .returned (.bool r) ∧ Below w.heap.size w w' := by
  have h := iwCode_any l n A cap B w (Nat.le_trans HB.out HX.out.size) (HL.out.below_to CodeAt.keeps HX.out HB.out)
  rw [HR.out] at h
  exact h
theorem ityp_is {t : Int × Int} {w : World} {r : Bool} (HR : Hid (typB t = r)) : Calls Try.prog 24 #[tyV t.1 t.2] w fun e w' => e = .returned (.bool r) ∧ Below w.heap.size w w' := by
  have h := ityp_any t w
  rw [HR.out] at h
  exact h
theorem ipot_is {n : Int} {w : World} {r : Bool} (HR : Hid (potB n = r)) : Calls Try.prog 44 #[.int .i64 n] w fun e w' => e = .returned (.bool r) ∧ Below w.heap.size w w' := by
  have h := ipot_any n w
  rw [show withinB n 0 4096 = r from HR.out] at h
  exact h
theorem wrap_sup {n : Int} (h : -9223372036854775808 ≤ n ∧ n ≤ 9223372036854775807) : withinB (wrap64 (n + 1)) 0 8 = withinB n (-1) 7 := by
  unfold withinB wrap64
  rw [decide_eq_decide]
  omega
theorem clsB_own (c : Cls) (h : -9223372036854775808 ≤ c.sup ∧ c.sup ≤ 9223372036854775807) : clsB c = (withinB (wrap64 (c.sup + 1)) 0 8 && (fewB typB c.fields 8 && fewB numB c.slots 4)) := by
  rw [wrap_sup h, few_types, show fewB numB c.slots 4 = listB c.slots 4 11 from few_list ..]
  rfl
theorem mthB_own (x : Mth) : mthB x = (fewB typB x.args 4 && (fewB typB x.locals 8 && (typB x.ret && (fewB insB x.code 64 && (withinB x.depth 0 8 && (potB x.pot && fewB potB x.phi 64)))))) := by
  rw [few_types, few_types, show fewB potB x.phi 64 = listB x.phi 64 4096 from few_list ..]
  unfold mthB codeB fewB insB potB
  ac_rfl
theorem fitsB_own (m : Img) : fitsB m = (fewB clsB m.classes 8 && (fewB typB m.statics 8 && (decide ((m.ints.length : Int) ≤ 16) && (fewB mthB m.methods 12 && (fewB numB m.entries 12 && (withinB m.stack 0 4096 && withinB m.heap 0 4096)))))) := by
  rw [few_types, show fewB numB m.entries 12 = listB m.entries 12 11 from few_list ..]
  unfold fitsB headB fewB
  ac_rfl

set_option maxHeartbeats 1600000 in
theorem icls_any (c : Cls) (A1 A2 : Option Addr) (k1 k2 B : Nat) (w : World) (hB : B ≤ w.heap.size) (h1 : SlcIs TyAt 2 w B A1 k1 c.fields) (h2 : SlcIs IntAt 1 w B A2 k2 c.slots) (hr : -9223372036854775808 ≤ c.sup ∧ c.sup ≤ 9223372036854775807) :
    Calls Try.prog 22 #[.agg #[.int .i64 c.sup, .slice A1 c.fields.length k1, .slice A2 c.slots.length k2]] w fun e w' => e = .returned (.bool (clsB c)) ∧ Below w.heap.size w w' := by
  have HW := Lib.hid ((Below.refl w.heap.size w).alloc (Nat.le_refl _) (.cells #[.int .i64 c.sup, .slice A1 c.fields.length k1, .slice A2 c.slots.length k2] 44))
  have HZ2 : Hid (w.heap.size < (w.alloc (.cells #[.int .i64 c.sup, .slice A1 c.fields.length k1, .slice A2 c.slots.length k2] 44)).heap.size) := Lib.hid (by simp)
  have HBC := Lib.hid (cells_new w [.int .i64 c.sup, .slice A1 c.fields.length k1, .slice A2 c.slots.length k2] 44)
  have HB2 := Lib.hid (Nat.le_trans hB HW.out.size)
  have HSf := Lib.hid (h1.below_to TyAt.keeps HW.out hB)
  have HSs := Lib.hid (h2.below_to IntAt.keeps HW.out hB)
  clear h1 h2
  obtain ⟨d0, hd0⟩ : ∃ b, withinB (wrap64 (c.sup + 1)) 0 8 = b := ⟨_, rfl⟩
  have D0 := Lib.hid hd0
  obtain ⟨d1, hd1⟩ : ∃ b, fewB typB c.fields 8 = b := ⟨_, rfl⟩
  have D1 := Lib.hid hd1
  obtain ⟨d2, hd2⟩ : ∃ b, fewB numB c.slots 4 = b := ⟨_, rfl⟩
  have D2 := Lib.hid hd2
  have E0 := clsB_own c hr
  rw [hd0, hd1, hd2] at E0
  have E := Lib.hid E0
  clear E0 hB hr hd0 hd1 hd2
  go_enter Try.func22, Try.ntmps22
  go_upto_region 1 with fail
  generalize w.alloc (.cells #[.int .i64 c.sup, .slice A1 c.fields.length k1, .slice A2 c.slots.length k2] 44) = w2 at *
  have HX2 : Hid (Below w2.heap.size w2 w2) := Lib.hid (Below.refl _ _)
  have r0 := HBC.out 0 _ rfl
  have r1 := HBC.out 1 _ rfl
  have r2 := HBC.out 2 _ rfl
  cases d0
  · go_wp2_with (first | (go_at_call 29; (with_reducible refine (iupto_is D0).mono ?_); rintro e w' ⟨rfl, hb⟩; have HX2 := Lib.hid (HX2.out.trans (hb.mono HX2.out.size)); have r0 := (HBC.out.keep HX2.out HZ2.out) 0 _ rfl; have r1 := (HBC.out.keep HX2.out HZ2.out) 1 _ rfl; have r2 := (HBC.out.keep HX2.out HZ2.out) 2 _ rfl; clear hb) | (go_at_call 23; (with_reducible refine (iwTypes_is HSf HB2 HX2 D1).mono ?_); rintro e w' ⟨rfl, hb⟩; have HX2 := Lib.hid (HX2.out.trans (hb.mono HX2.out.size)); have r0 := (HBC.out.keep HX2.out HZ2.out) 0 _ rfl; have r1 := (HBC.out.keep HX2.out HZ2.out) 1 _ rfl; have r2 := (HBC.out.keep HX2.out HZ2.out) 2 _ rfl; clear hb) | (go_at_call 27; (with_reducible refine (iwNums_is HSs HB2 HX2 D2).mono ?_); rintro e w' ⟨rfl, hb⟩; have HX2 := Lib.hid (HX2.out.trans (hb.mono HX2.out.size)); have r0 := (HBC.out.keep HX2.out HZ2.out) 0 _ rfl; have r1 := (HBC.out.keep HX2.out HZ2.out) 1 _ rfl; have r2 := (HBC.out.keep HX2.out HZ2.out) 2 _ rfl; clear hb))
    go_ret
    exact ⟨by rw [E.out]; first | rfl | simp [*], HW.out.trans (HX2.out.mono HW.out.size)⟩
  · cases d1
    · go_wp2_with (first | (go_at_call 29; (with_reducible refine (iupto_is D0).mono ?_); rintro e w' ⟨rfl, hb⟩; have HX2 := Lib.hid (HX2.out.trans (hb.mono HX2.out.size)); have r0 := (HBC.out.keep HX2.out HZ2.out) 0 _ rfl; have r1 := (HBC.out.keep HX2.out HZ2.out) 1 _ rfl; have r2 := (HBC.out.keep HX2.out HZ2.out) 2 _ rfl; clear hb) | (go_at_call 23; (with_reducible refine (iwTypes_is HSf HB2 HX2 D1).mono ?_); rintro e w' ⟨rfl, hb⟩; have HX2 := Lib.hid (HX2.out.trans (hb.mono HX2.out.size)); have r0 := (HBC.out.keep HX2.out HZ2.out) 0 _ rfl; have r1 := (HBC.out.keep HX2.out HZ2.out) 1 _ rfl; have r2 := (HBC.out.keep HX2.out HZ2.out) 2 _ rfl; clear hb) | (go_at_call 27; (with_reducible refine (iwNums_is HSs HB2 HX2 D2).mono ?_); rintro e w' ⟨rfl, hb⟩; have HX2 := Lib.hid (HX2.out.trans (hb.mono HX2.out.size)); have r0 := (HBC.out.keep HX2.out HZ2.out) 0 _ rfl; have r1 := (HBC.out.keep HX2.out HZ2.out) 1 _ rfl; have r2 := (HBC.out.keep HX2.out HZ2.out) 2 _ rfl; clear hb))
      go_ret
      exact ⟨by rw [E.out]; first | rfl | simp [*], HW.out.trans (HX2.out.mono HW.out.size)⟩
    · cases d2
      · go_wp2_with (first | (go_at_call 29; (with_reducible refine (iupto_is D0).mono ?_); rintro e w' ⟨rfl, hb⟩; have HX2 := Lib.hid (HX2.out.trans (hb.mono HX2.out.size)); have r0 := (HBC.out.keep HX2.out HZ2.out) 0 _ rfl; have r1 := (HBC.out.keep HX2.out HZ2.out) 1 _ rfl; have r2 := (HBC.out.keep HX2.out HZ2.out) 2 _ rfl; clear hb) | (go_at_call 23; (with_reducible refine (iwTypes_is HSf HB2 HX2 D1).mono ?_); rintro e w' ⟨rfl, hb⟩; have HX2 := Lib.hid (HX2.out.trans (hb.mono HX2.out.size)); have r0 := (HBC.out.keep HX2.out HZ2.out) 0 _ rfl; have r1 := (HBC.out.keep HX2.out HZ2.out) 1 _ rfl; have r2 := (HBC.out.keep HX2.out HZ2.out) 2 _ rfl; clear hb) | (go_at_call 27; (with_reducible refine (iwNums_is HSs HB2 HX2 D2).mono ?_); rintro e w' ⟨rfl, hb⟩; have HX2 := Lib.hid (HX2.out.trans (hb.mono HX2.out.size)); have r0 := (HBC.out.keep HX2.out HZ2.out) 0 _ rfl; have r1 := (HBC.out.keep HX2.out HZ2.out) 1 _ rfl; have r2 := (HBC.out.keep HX2.out HZ2.out) 2 _ rfl; clear hb))
        go_ret
        exact ⟨by rw [E.out]; first | rfl | simp [*], HW.out.trans (HX2.out.mono HW.out.size)⟩
      · go_wp2_with (first | (go_at_call 29; (with_reducible refine (iupto_is D0).mono ?_); rintro e w' ⟨rfl, hb⟩; have HX2 := Lib.hid (HX2.out.trans (hb.mono HX2.out.size)); have r0 := (HBC.out.keep HX2.out HZ2.out) 0 _ rfl; have r1 := (HBC.out.keep HX2.out HZ2.out) 1 _ rfl; have r2 := (HBC.out.keep HX2.out HZ2.out) 2 _ rfl; clear hb) | (go_at_call 23; (with_reducible refine (iwTypes_is HSf HB2 HX2 D1).mono ?_); rintro e w' ⟨rfl, hb⟩; have HX2 := Lib.hid (HX2.out.trans (hb.mono HX2.out.size)); have r0 := (HBC.out.keep HX2.out HZ2.out) 0 _ rfl; have r1 := (HBC.out.keep HX2.out HZ2.out) 1 _ rfl; have r2 := (HBC.out.keep HX2.out HZ2.out) 2 _ rfl; clear hb) | (go_at_call 27; (with_reducible refine (iwNums_is HSs HB2 HX2 D2).mono ?_); rintro e w' ⟨rfl, hb⟩; have HX2 := Lib.hid (HX2.out.trans (hb.mono HX2.out.size)); have r0 := (HBC.out.keep HX2.out HZ2.out) 0 _ rfl; have r1 := (HBC.out.keep HX2.out HZ2.out) 1 _ rfl; have r2 := (HBC.out.keep HX2.out HZ2.out) 2 _ rfl; clear hb))
        go_ret
        exact ⟨by rw [E.out]; first | rfl | simp [*], HW.out.trans (HX2.out.mono HW.out.size)⟩

set_option maxHeartbeats 3200000 in
theorem imth_any (x : Mth) (A0 A1 A4 A7 : Option Addr) (k0 k1 k4 k7 B : Nat) (w : World) (hB : B ≤ w.heap.size) (h0 : SlcIs TyAt 2 w B A0 k0 x.args) (h1 : SlcIs TyAt 2 w B A1 k1 x.locals) (h4 : SlcIs CodeAt 3 w B A4 k4 x.code) (h7 : SlcIs IntAt 1 w B A7 k7 x.phi) :
    Calls Try.prog 26 #[.agg #[.slice A0 x.args.length k0, .slice A1 x.locals.length k1, .int .i64 x.ret.1, .int .i64 x.ret.2, .slice A4 x.code.length k4, .int .i64 x.depth, .int .i64 x.pot, .slice A7 x.phi.length k7]] w fun e w' => e = .returned (.bool (mthB x)) ∧ Below w.heap.size w w' := by
  have HW := Lib.hid ((Below.refl w.heap.size w).alloc (Nat.le_refl _) (.cells #[.slice A0 x.args.length k0, .slice A1 x.locals.length k1, .int .i64 x.ret.1, .int .i64 x.ret.2, .slice A4 x.code.length k4, .int .i64 x.depth, .int .i64 x.pot, .slice A7 x.phi.length k7] 38))
  have HZ2 : Hid (w.heap.size < (w.alloc (.cells #[.slice A0 x.args.length k0, .slice A1 x.locals.length k1, .int .i64 x.ret.1, .int .i64 x.ret.2, .slice A4 x.code.length k4, .int .i64 x.depth, .int .i64 x.pot, .slice A7 x.phi.length k7] 38)).heap.size) := Lib.hid (by simp)
  have HBC := Lib.hid (cells_new w [.slice A0 x.args.length k0, .slice A1 x.locals.length k1, .int .i64 x.ret.1, .int .i64 x.ret.2, .slice A4 x.code.length k4, .int .i64 x.depth, .int .i64 x.pot, .slice A7 x.phi.length k7] 38)
  have HB2 := Lib.hid (Nat.le_trans hB HW.out.size)
  have HSa := Lib.hid (h0.below_to TyAt.keeps HW.out hB)
  have HSl := Lib.hid (h1.below_to TyAt.keeps HW.out hB)
  have HSc := Lib.hid (h4.below_to CodeAt.keeps HW.out hB)
  have HSp := Lib.hid (h7.below_to IntAt.keeps HW.out hB)
  clear h0 h1 h4 h7
  obtain ⟨d0, hd0⟩ : ∃ b, fewB typB x.args 4 = b := ⟨_, rfl⟩
  have D0 := Lib.hid hd0
  obtain ⟨d1, hd1⟩ : ∃ b, fewB typB x.locals 8 = b := ⟨_, rfl⟩
  have D1 := Lib.hid hd1
  obtain ⟨d2, hd2⟩ : ∃ b, typB x.ret = b := ⟨_, rfl⟩
  have D2 := Lib.hid hd2
  obtain ⟨d3, hd3⟩ : ∃ b, fewB insB x.code 64 = b := ⟨_, rfl⟩
  have D3 := Lib.hid hd3
  obtain ⟨d4, hd4⟩ : ∃ b, withinB x.depth 0 8 = b := ⟨_, rfl⟩
  have D4 := Lib.hid hd4
  obtain ⟨d5, hd5⟩ : ∃ b, potB x.pot = b := ⟨_, rfl⟩
  have D5 := Lib.hid hd5
  obtain ⟨d6, hd6⟩ : ∃ b, fewB potB x.phi 64 = b := ⟨_, rfl⟩
  have D6 := Lib.hid hd6
  have E0 := mthB_own x
  rw [hd0, hd1, hd2, hd3, hd4, hd5, hd6] at E0
  have E := Lib.hid E0
  clear E0 hB hd0 hd1 hd2 hd3 hd4 hd5 hd6
  go_enter Try.func26, Try.ntmps26
  go_upto_region 1 with fail
  generalize w.alloc (.cells #[.slice A0 x.args.length k0, .slice A1 x.locals.length k1, .int .i64 x.ret.1, .int .i64 x.ret.2, .slice A4 x.code.length k4, .int .i64 x.depth, .int .i64 x.pot, .slice A7 x.phi.length k7] 38) = w2 at *
  have HX2 : Hid (Below w2.heap.size w2 w2) := Lib.hid (Below.refl _ _)
  have r0 := HBC.out 0 _ rfl
  have r1 := HBC.out 1 _ rfl
  have r2 := HBC.out 2 _ rfl
  have r3 := HBC.out 3 _ rfl
  have r4 := HBC.out 4 _ rfl
  have r5 := HBC.out 5 _ rfl
  have r6 := HBC.out 6 _ rfl
  have r7 := HBC.out 7 _ rfl
  cases d0
  · go_wp2_with (first | (go_at_call 23; (with_reducible refine (iwTypes_is HSa HB2 HX2 D0).mono ?_); rintro e w' ⟨rfl, hb⟩; have HX2 := Lib.hid (HX2.out.trans (hb.mono HX2.out.size)); have r0 := (HBC.out.keep HX2.out HZ2.out) 0 _ rfl; have r1 := (HBC.out.keep HX2.out HZ2.out) 1 _ rfl; have r2 := (HBC.out.keep HX2.out HZ2.out) 2 _ rfl; have r3 := (HBC.out.keep HX2.out HZ2.out) 3 _ rfl; have r4 := (HBC.out.keep HX2.out HZ2.out) 4 _ rfl; have r5 := (HBC.out.keep HX2.out HZ2.out) 5 _ rfl; have r6 := (HBC.out.keep HX2.out HZ2.out) 6 _ rfl; have r7 := (HBC.out.keep HX2.out HZ2.out) 7 _ rfl; clear hb) | (go_at_call 23; (with_reducible refine (iwTypes_is HSl HB2 HX2 D1).mono ?_); rintro e w' ⟨rfl, hb⟩; have HX2 := Lib.hid (HX2.out.trans (hb.mono HX2.out.size)); have r0 := (HBC.out.keep HX2.out HZ2.out) 0 _ rfl; have r1 := (HBC.out.keep HX2.out HZ2.out) 1 _ rfl; have r2 := (HBC.out.keep HX2.out HZ2.out) 2 _ rfl; have r3 := (HBC.out.keep HX2.out HZ2.out) 3 _ rfl; have r4 := (HBC.out.keep HX2.out HZ2.out) 4 _ rfl; have r5 := (HBC.out.keep HX2.out HZ2.out) 5 _ rfl; have r6 := (HBC.out.keep HX2.out HZ2.out) 6 _ rfl; have r7 := (HBC.out.keep HX2.out HZ2.out) 7 _ rfl; clear hb) | (go_at_call 24; (with_reducible refine (ityp_is D2).mono ?_); rintro e w' ⟨rfl, hb⟩; have HX2 := Lib.hid (HX2.out.trans (hb.mono HX2.out.size)); have r0 := (HBC.out.keep HX2.out HZ2.out) 0 _ rfl; have r1 := (HBC.out.keep HX2.out HZ2.out) 1 _ rfl; have r2 := (HBC.out.keep HX2.out HZ2.out) 2 _ rfl; have r3 := (HBC.out.keep HX2.out HZ2.out) 3 _ rfl; have r4 := (HBC.out.keep HX2.out HZ2.out) 4 _ rfl; have r5 := (HBC.out.keep HX2.out HZ2.out) 5 _ rfl; have r6 := (HBC.out.keep HX2.out HZ2.out) 6 _ rfl; have r7 := (HBC.out.keep HX2.out HZ2.out) 7 _ rfl; clear hb) | (go_at_call 42; (with_reducible refine (iwCode_is HSc HB2 HX2 D3).mono ?_); rintro e w' ⟨rfl, hb⟩; have HX2 := Lib.hid (HX2.out.trans (hb.mono HX2.out.size)); have r0 := (HBC.out.keep HX2.out HZ2.out) 0 _ rfl; have r1 := (HBC.out.keep HX2.out HZ2.out) 1 _ rfl; have r2 := (HBC.out.keep HX2.out HZ2.out) 2 _ rfl; have r3 := (HBC.out.keep HX2.out HZ2.out) 3 _ rfl; have r4 := (HBC.out.keep HX2.out HZ2.out) 4 _ rfl; have r5 := (HBC.out.keep HX2.out HZ2.out) 5 _ rfl; have r6 := (HBC.out.keep HX2.out HZ2.out) 6 _ rfl; have r7 := (HBC.out.keep HX2.out HZ2.out) 7 _ rfl; clear hb) | (go_at_call 29; (with_reducible refine (iupto_is D4).mono ?_); rintro e w' ⟨rfl, hb⟩; have HX2 := Lib.hid (HX2.out.trans (hb.mono HX2.out.size)); have r0 := (HBC.out.keep HX2.out HZ2.out) 0 _ rfl; have r1 := (HBC.out.keep HX2.out HZ2.out) 1 _ rfl; have r2 := (HBC.out.keep HX2.out HZ2.out) 2 _ rfl; have r3 := (HBC.out.keep HX2.out HZ2.out) 3 _ rfl; have r4 := (HBC.out.keep HX2.out HZ2.out) 4 _ rfl; have r5 := (HBC.out.keep HX2.out HZ2.out) 5 _ rfl; have r6 := (HBC.out.keep HX2.out HZ2.out) 6 _ rfl; have r7 := (HBC.out.keep HX2.out HZ2.out) 7 _ rfl; clear hb) | (go_at_call 44; (with_reducible refine (ipot_is D5).mono ?_); rintro e w' ⟨rfl, hb⟩; have HX2 := Lib.hid (HX2.out.trans (hb.mono HX2.out.size)); have r0 := (HBC.out.keep HX2.out HZ2.out) 0 _ rfl; have r1 := (HBC.out.keep HX2.out HZ2.out) 1 _ rfl; have r2 := (HBC.out.keep HX2.out HZ2.out) 2 _ rfl; have r3 := (HBC.out.keep HX2.out HZ2.out) 3 _ rfl; have r4 := (HBC.out.keep HX2.out HZ2.out) 4 _ rfl; have r5 := (HBC.out.keep HX2.out HZ2.out) 5 _ rfl; have r6 := (HBC.out.keep HX2.out HZ2.out) 6 _ rfl; have r7 := (HBC.out.keep HX2.out HZ2.out) 7 _ rfl; clear hb) | (go_at_call 27; (with_reducible refine (iwPots_is HSp HB2 HX2 D6).mono ?_); rintro e w' ⟨rfl, hb⟩; have HX2 := Lib.hid (HX2.out.trans (hb.mono HX2.out.size)); have r0 := (HBC.out.keep HX2.out HZ2.out) 0 _ rfl; have r1 := (HBC.out.keep HX2.out HZ2.out) 1 _ rfl; have r2 := (HBC.out.keep HX2.out HZ2.out) 2 _ rfl; have r3 := (HBC.out.keep HX2.out HZ2.out) 3 _ rfl; have r4 := (HBC.out.keep HX2.out HZ2.out) 4 _ rfl; have r5 := (HBC.out.keep HX2.out HZ2.out) 5 _ rfl; have r6 := (HBC.out.keep HX2.out HZ2.out) 6 _ rfl; have r7 := (HBC.out.keep HX2.out HZ2.out) 7 _ rfl; clear hb))
    go_ret
    exact ⟨by rw [E.out]; first | rfl | simp [*], HW.out.trans (HX2.out.mono HW.out.size)⟩
  · cases d1
    · go_wp2_with (first | (go_at_call 23; (with_reducible refine (iwTypes_is HSa HB2 HX2 D0).mono ?_); rintro e w' ⟨rfl, hb⟩; have HX2 := Lib.hid (HX2.out.trans (hb.mono HX2.out.size)); have r0 := (HBC.out.keep HX2.out HZ2.out) 0 _ rfl; have r1 := (HBC.out.keep HX2.out HZ2.out) 1 _ rfl; have r2 := (HBC.out.keep HX2.out HZ2.out) 2 _ rfl; have r3 := (HBC.out.keep HX2.out HZ2.out) 3 _ rfl; have r4 := (HBC.out.keep HX2.out HZ2.out) 4 _ rfl; have r5 := (HBC.out.keep HX2.out HZ2.out) 5 _ rfl; have r6 := (HBC.out.keep HX2.out HZ2.out) 6 _ rfl; have r7 := (HBC.out.keep HX2.out HZ2.out) 7 _ rfl; clear hb) | (go_at_call 23; (with_reducible refine (iwTypes_is HSl HB2 HX2 D1).mono ?_); rintro e w' ⟨rfl, hb⟩; have HX2 := Lib.hid (HX2.out.trans (hb.mono HX2.out.size)); have r0 := (HBC.out.keep HX2.out HZ2.out) 0 _ rfl; have r1 := (HBC.out.keep HX2.out HZ2.out) 1 _ rfl; have r2 := (HBC.out.keep HX2.out HZ2.out) 2 _ rfl; have r3 := (HBC.out.keep HX2.out HZ2.out) 3 _ rfl; have r4 := (HBC.out.keep HX2.out HZ2.out) 4 _ rfl; have r5 := (HBC.out.keep HX2.out HZ2.out) 5 _ rfl; have r6 := (HBC.out.keep HX2.out HZ2.out) 6 _ rfl; have r7 := (HBC.out.keep HX2.out HZ2.out) 7 _ rfl; clear hb) | (go_at_call 24; (with_reducible refine (ityp_is D2).mono ?_); rintro e w' ⟨rfl, hb⟩; have HX2 := Lib.hid (HX2.out.trans (hb.mono HX2.out.size)); have r0 := (HBC.out.keep HX2.out HZ2.out) 0 _ rfl; have r1 := (HBC.out.keep HX2.out HZ2.out) 1 _ rfl; have r2 := (HBC.out.keep HX2.out HZ2.out) 2 _ rfl; have r3 := (HBC.out.keep HX2.out HZ2.out) 3 _ rfl; have r4 := (HBC.out.keep HX2.out HZ2.out) 4 _ rfl; have r5 := (HBC.out.keep HX2.out HZ2.out) 5 _ rfl; have r6 := (HBC.out.keep HX2.out HZ2.out) 6 _ rfl; have r7 := (HBC.out.keep HX2.out HZ2.out) 7 _ rfl; clear hb) | (go_at_call 42; (with_reducible refine (iwCode_is HSc HB2 HX2 D3).mono ?_); rintro e w' ⟨rfl, hb⟩; have HX2 := Lib.hid (HX2.out.trans (hb.mono HX2.out.size)); have r0 := (HBC.out.keep HX2.out HZ2.out) 0 _ rfl; have r1 := (HBC.out.keep HX2.out HZ2.out) 1 _ rfl; have r2 := (HBC.out.keep HX2.out HZ2.out) 2 _ rfl; have r3 := (HBC.out.keep HX2.out HZ2.out) 3 _ rfl; have r4 := (HBC.out.keep HX2.out HZ2.out) 4 _ rfl; have r5 := (HBC.out.keep HX2.out HZ2.out) 5 _ rfl; have r6 := (HBC.out.keep HX2.out HZ2.out) 6 _ rfl; have r7 := (HBC.out.keep HX2.out HZ2.out) 7 _ rfl; clear hb) | (go_at_call 29; (with_reducible refine (iupto_is D4).mono ?_); rintro e w' ⟨rfl, hb⟩; have HX2 := Lib.hid (HX2.out.trans (hb.mono HX2.out.size)); have r0 := (HBC.out.keep HX2.out HZ2.out) 0 _ rfl; have r1 := (HBC.out.keep HX2.out HZ2.out) 1 _ rfl; have r2 := (HBC.out.keep HX2.out HZ2.out) 2 _ rfl; have r3 := (HBC.out.keep HX2.out HZ2.out) 3 _ rfl; have r4 := (HBC.out.keep HX2.out HZ2.out) 4 _ rfl; have r5 := (HBC.out.keep HX2.out HZ2.out) 5 _ rfl; have r6 := (HBC.out.keep HX2.out HZ2.out) 6 _ rfl; have r7 := (HBC.out.keep HX2.out HZ2.out) 7 _ rfl; clear hb) | (go_at_call 44; (with_reducible refine (ipot_is D5).mono ?_); rintro e w' ⟨rfl, hb⟩; have HX2 := Lib.hid (HX2.out.trans (hb.mono HX2.out.size)); have r0 := (HBC.out.keep HX2.out HZ2.out) 0 _ rfl; have r1 := (HBC.out.keep HX2.out HZ2.out) 1 _ rfl; have r2 := (HBC.out.keep HX2.out HZ2.out) 2 _ rfl; have r3 := (HBC.out.keep HX2.out HZ2.out) 3 _ rfl; have r4 := (HBC.out.keep HX2.out HZ2.out) 4 _ rfl; have r5 := (HBC.out.keep HX2.out HZ2.out) 5 _ rfl; have r6 := (HBC.out.keep HX2.out HZ2.out) 6 _ rfl; have r7 := (HBC.out.keep HX2.out HZ2.out) 7 _ rfl; clear hb) | (go_at_call 27; (with_reducible refine (iwPots_is HSp HB2 HX2 D6).mono ?_); rintro e w' ⟨rfl, hb⟩; have HX2 := Lib.hid (HX2.out.trans (hb.mono HX2.out.size)); have r0 := (HBC.out.keep HX2.out HZ2.out) 0 _ rfl; have r1 := (HBC.out.keep HX2.out HZ2.out) 1 _ rfl; have r2 := (HBC.out.keep HX2.out HZ2.out) 2 _ rfl; have r3 := (HBC.out.keep HX2.out HZ2.out) 3 _ rfl; have r4 := (HBC.out.keep HX2.out HZ2.out) 4 _ rfl; have r5 := (HBC.out.keep HX2.out HZ2.out) 5 _ rfl; have r6 := (HBC.out.keep HX2.out HZ2.out) 6 _ rfl; have r7 := (HBC.out.keep HX2.out HZ2.out) 7 _ rfl; clear hb))
      go_ret
      exact ⟨by rw [E.out]; first | rfl | simp [*], HW.out.trans (HX2.out.mono HW.out.size)⟩
    · cases d2
      · go_wp2_with (first | (go_at_call 23; (with_reducible refine (iwTypes_is HSa HB2 HX2 D0).mono ?_); rintro e w' ⟨rfl, hb⟩; have HX2 := Lib.hid (HX2.out.trans (hb.mono HX2.out.size)); have r0 := (HBC.out.keep HX2.out HZ2.out) 0 _ rfl; have r1 := (HBC.out.keep HX2.out HZ2.out) 1 _ rfl; have r2 := (HBC.out.keep HX2.out HZ2.out) 2 _ rfl; have r3 := (HBC.out.keep HX2.out HZ2.out) 3 _ rfl; have r4 := (HBC.out.keep HX2.out HZ2.out) 4 _ rfl; have r5 := (HBC.out.keep HX2.out HZ2.out) 5 _ rfl; have r6 := (HBC.out.keep HX2.out HZ2.out) 6 _ rfl; have r7 := (HBC.out.keep HX2.out HZ2.out) 7 _ rfl; clear hb) | (go_at_call 23; (with_reducible refine (iwTypes_is HSl HB2 HX2 D1).mono ?_); rintro e w' ⟨rfl, hb⟩; have HX2 := Lib.hid (HX2.out.trans (hb.mono HX2.out.size)); have r0 := (HBC.out.keep HX2.out HZ2.out) 0 _ rfl; have r1 := (HBC.out.keep HX2.out HZ2.out) 1 _ rfl; have r2 := (HBC.out.keep HX2.out HZ2.out) 2 _ rfl; have r3 := (HBC.out.keep HX2.out HZ2.out) 3 _ rfl; have r4 := (HBC.out.keep HX2.out HZ2.out) 4 _ rfl; have r5 := (HBC.out.keep HX2.out HZ2.out) 5 _ rfl; have r6 := (HBC.out.keep HX2.out HZ2.out) 6 _ rfl; have r7 := (HBC.out.keep HX2.out HZ2.out) 7 _ rfl; clear hb) | (go_at_call 24; (with_reducible refine (ityp_is D2).mono ?_); rintro e w' ⟨rfl, hb⟩; have HX2 := Lib.hid (HX2.out.trans (hb.mono HX2.out.size)); have r0 := (HBC.out.keep HX2.out HZ2.out) 0 _ rfl; have r1 := (HBC.out.keep HX2.out HZ2.out) 1 _ rfl; have r2 := (HBC.out.keep HX2.out HZ2.out) 2 _ rfl; have r3 := (HBC.out.keep HX2.out HZ2.out) 3 _ rfl; have r4 := (HBC.out.keep HX2.out HZ2.out) 4 _ rfl; have r5 := (HBC.out.keep HX2.out HZ2.out) 5 _ rfl; have r6 := (HBC.out.keep HX2.out HZ2.out) 6 _ rfl; have r7 := (HBC.out.keep HX2.out HZ2.out) 7 _ rfl; clear hb) | (go_at_call 42; (with_reducible refine (iwCode_is HSc HB2 HX2 D3).mono ?_); rintro e w' ⟨rfl, hb⟩; have HX2 := Lib.hid (HX2.out.trans (hb.mono HX2.out.size)); have r0 := (HBC.out.keep HX2.out HZ2.out) 0 _ rfl; have r1 := (HBC.out.keep HX2.out HZ2.out) 1 _ rfl; have r2 := (HBC.out.keep HX2.out HZ2.out) 2 _ rfl; have r3 := (HBC.out.keep HX2.out HZ2.out) 3 _ rfl; have r4 := (HBC.out.keep HX2.out HZ2.out) 4 _ rfl; have r5 := (HBC.out.keep HX2.out HZ2.out) 5 _ rfl; have r6 := (HBC.out.keep HX2.out HZ2.out) 6 _ rfl; have r7 := (HBC.out.keep HX2.out HZ2.out) 7 _ rfl; clear hb) | (go_at_call 29; (with_reducible refine (iupto_is D4).mono ?_); rintro e w' ⟨rfl, hb⟩; have HX2 := Lib.hid (HX2.out.trans (hb.mono HX2.out.size)); have r0 := (HBC.out.keep HX2.out HZ2.out) 0 _ rfl; have r1 := (HBC.out.keep HX2.out HZ2.out) 1 _ rfl; have r2 := (HBC.out.keep HX2.out HZ2.out) 2 _ rfl; have r3 := (HBC.out.keep HX2.out HZ2.out) 3 _ rfl; have r4 := (HBC.out.keep HX2.out HZ2.out) 4 _ rfl; have r5 := (HBC.out.keep HX2.out HZ2.out) 5 _ rfl; have r6 := (HBC.out.keep HX2.out HZ2.out) 6 _ rfl; have r7 := (HBC.out.keep HX2.out HZ2.out) 7 _ rfl; clear hb) | (go_at_call 44; (with_reducible refine (ipot_is D5).mono ?_); rintro e w' ⟨rfl, hb⟩; have HX2 := Lib.hid (HX2.out.trans (hb.mono HX2.out.size)); have r0 := (HBC.out.keep HX2.out HZ2.out) 0 _ rfl; have r1 := (HBC.out.keep HX2.out HZ2.out) 1 _ rfl; have r2 := (HBC.out.keep HX2.out HZ2.out) 2 _ rfl; have r3 := (HBC.out.keep HX2.out HZ2.out) 3 _ rfl; have r4 := (HBC.out.keep HX2.out HZ2.out) 4 _ rfl; have r5 := (HBC.out.keep HX2.out HZ2.out) 5 _ rfl; have r6 := (HBC.out.keep HX2.out HZ2.out) 6 _ rfl; have r7 := (HBC.out.keep HX2.out HZ2.out) 7 _ rfl; clear hb) | (go_at_call 27; (with_reducible refine (iwPots_is HSp HB2 HX2 D6).mono ?_); rintro e w' ⟨rfl, hb⟩; have HX2 := Lib.hid (HX2.out.trans (hb.mono HX2.out.size)); have r0 := (HBC.out.keep HX2.out HZ2.out) 0 _ rfl; have r1 := (HBC.out.keep HX2.out HZ2.out) 1 _ rfl; have r2 := (HBC.out.keep HX2.out HZ2.out) 2 _ rfl; have r3 := (HBC.out.keep HX2.out HZ2.out) 3 _ rfl; have r4 := (HBC.out.keep HX2.out HZ2.out) 4 _ rfl; have r5 := (HBC.out.keep HX2.out HZ2.out) 5 _ rfl; have r6 := (HBC.out.keep HX2.out HZ2.out) 6 _ rfl; have r7 := (HBC.out.keep HX2.out HZ2.out) 7 _ rfl; clear hb))
        go_ret
        exact ⟨by rw [E.out]; first | rfl | simp [*], HW.out.trans (HX2.out.mono HW.out.size)⟩
      · cases d3
        · go_wp2_with (first | (go_at_call 23; (with_reducible refine (iwTypes_is HSa HB2 HX2 D0).mono ?_); rintro e w' ⟨rfl, hb⟩; have HX2 := Lib.hid (HX2.out.trans (hb.mono HX2.out.size)); have r0 := (HBC.out.keep HX2.out HZ2.out) 0 _ rfl; have r1 := (HBC.out.keep HX2.out HZ2.out) 1 _ rfl; have r2 := (HBC.out.keep HX2.out HZ2.out) 2 _ rfl; have r3 := (HBC.out.keep HX2.out HZ2.out) 3 _ rfl; have r4 := (HBC.out.keep HX2.out HZ2.out) 4 _ rfl; have r5 := (HBC.out.keep HX2.out HZ2.out) 5 _ rfl; have r6 := (HBC.out.keep HX2.out HZ2.out) 6 _ rfl; have r7 := (HBC.out.keep HX2.out HZ2.out) 7 _ rfl; clear hb) | (go_at_call 23; (with_reducible refine (iwTypes_is HSl HB2 HX2 D1).mono ?_); rintro e w' ⟨rfl, hb⟩; have HX2 := Lib.hid (HX2.out.trans (hb.mono HX2.out.size)); have r0 := (HBC.out.keep HX2.out HZ2.out) 0 _ rfl; have r1 := (HBC.out.keep HX2.out HZ2.out) 1 _ rfl; have r2 := (HBC.out.keep HX2.out HZ2.out) 2 _ rfl; have r3 := (HBC.out.keep HX2.out HZ2.out) 3 _ rfl; have r4 := (HBC.out.keep HX2.out HZ2.out) 4 _ rfl; have r5 := (HBC.out.keep HX2.out HZ2.out) 5 _ rfl; have r6 := (HBC.out.keep HX2.out HZ2.out) 6 _ rfl; have r7 := (HBC.out.keep HX2.out HZ2.out) 7 _ rfl; clear hb) | (go_at_call 24; (with_reducible refine (ityp_is D2).mono ?_); rintro e w' ⟨rfl, hb⟩; have HX2 := Lib.hid (HX2.out.trans (hb.mono HX2.out.size)); have r0 := (HBC.out.keep HX2.out HZ2.out) 0 _ rfl; have r1 := (HBC.out.keep HX2.out HZ2.out) 1 _ rfl; have r2 := (HBC.out.keep HX2.out HZ2.out) 2 _ rfl; have r3 := (HBC.out.keep HX2.out HZ2.out) 3 _ rfl; have r4 := (HBC.out.keep HX2.out HZ2.out) 4 _ rfl; have r5 := (HBC.out.keep HX2.out HZ2.out) 5 _ rfl; have r6 := (HBC.out.keep HX2.out HZ2.out) 6 _ rfl; have r7 := (HBC.out.keep HX2.out HZ2.out) 7 _ rfl; clear hb) | (go_at_call 42; (with_reducible refine (iwCode_is HSc HB2 HX2 D3).mono ?_); rintro e w' ⟨rfl, hb⟩; have HX2 := Lib.hid (HX2.out.trans (hb.mono HX2.out.size)); have r0 := (HBC.out.keep HX2.out HZ2.out) 0 _ rfl; have r1 := (HBC.out.keep HX2.out HZ2.out) 1 _ rfl; have r2 := (HBC.out.keep HX2.out HZ2.out) 2 _ rfl; have r3 := (HBC.out.keep HX2.out HZ2.out) 3 _ rfl; have r4 := (HBC.out.keep HX2.out HZ2.out) 4 _ rfl; have r5 := (HBC.out.keep HX2.out HZ2.out) 5 _ rfl; have r6 := (HBC.out.keep HX2.out HZ2.out) 6 _ rfl; have r7 := (HBC.out.keep HX2.out HZ2.out) 7 _ rfl; clear hb) | (go_at_call 29; (with_reducible refine (iupto_is D4).mono ?_); rintro e w' ⟨rfl, hb⟩; have HX2 := Lib.hid (HX2.out.trans (hb.mono HX2.out.size)); have r0 := (HBC.out.keep HX2.out HZ2.out) 0 _ rfl; have r1 := (HBC.out.keep HX2.out HZ2.out) 1 _ rfl; have r2 := (HBC.out.keep HX2.out HZ2.out) 2 _ rfl; have r3 := (HBC.out.keep HX2.out HZ2.out) 3 _ rfl; have r4 := (HBC.out.keep HX2.out HZ2.out) 4 _ rfl; have r5 := (HBC.out.keep HX2.out HZ2.out) 5 _ rfl; have r6 := (HBC.out.keep HX2.out HZ2.out) 6 _ rfl; have r7 := (HBC.out.keep HX2.out HZ2.out) 7 _ rfl; clear hb) | (go_at_call 44; (with_reducible refine (ipot_is D5).mono ?_); rintro e w' ⟨rfl, hb⟩; have HX2 := Lib.hid (HX2.out.trans (hb.mono HX2.out.size)); have r0 := (HBC.out.keep HX2.out HZ2.out) 0 _ rfl; have r1 := (HBC.out.keep HX2.out HZ2.out) 1 _ rfl; have r2 := (HBC.out.keep HX2.out HZ2.out) 2 _ rfl; have r3 := (HBC.out.keep HX2.out HZ2.out) 3 _ rfl; have r4 := (HBC.out.keep HX2.out HZ2.out) 4 _ rfl; have r5 := (HBC.out.keep HX2.out HZ2.out) 5 _ rfl; have r6 := (HBC.out.keep HX2.out HZ2.out) 6 _ rfl; have r7 := (HBC.out.keep HX2.out HZ2.out) 7 _ rfl; clear hb) | (go_at_call 27; (with_reducible refine (iwPots_is HSp HB2 HX2 D6).mono ?_); rintro e w' ⟨rfl, hb⟩; have HX2 := Lib.hid (HX2.out.trans (hb.mono HX2.out.size)); have r0 := (HBC.out.keep HX2.out HZ2.out) 0 _ rfl; have r1 := (HBC.out.keep HX2.out HZ2.out) 1 _ rfl; have r2 := (HBC.out.keep HX2.out HZ2.out) 2 _ rfl; have r3 := (HBC.out.keep HX2.out HZ2.out) 3 _ rfl; have r4 := (HBC.out.keep HX2.out HZ2.out) 4 _ rfl; have r5 := (HBC.out.keep HX2.out HZ2.out) 5 _ rfl; have r6 := (HBC.out.keep HX2.out HZ2.out) 6 _ rfl; have r7 := (HBC.out.keep HX2.out HZ2.out) 7 _ rfl; clear hb))
          go_ret
          exact ⟨by rw [E.out]; first | rfl | simp [*], HW.out.trans (HX2.out.mono HW.out.size)⟩
        · cases d4
          · go_wp2_with (first | (go_at_call 23; (with_reducible refine (iwTypes_is HSa HB2 HX2 D0).mono ?_); rintro e w' ⟨rfl, hb⟩; have HX2 := Lib.hid (HX2.out.trans (hb.mono HX2.out.size)); have r0 := (HBC.out.keep HX2.out HZ2.out) 0 _ rfl; have r1 := (HBC.out.keep HX2.out HZ2.out) 1 _ rfl; have r2 := (HBC.out.keep HX2.out HZ2.out) 2 _ rfl; have r3 := (HBC.out.keep HX2.out HZ2.out) 3 _ rfl; have r4 := (HBC.out.keep HX2.out HZ2.out) 4 _ rfl; have r5 := (HBC.out.keep HX2.out HZ2.out) 5 _ rfl; have r6 := (HBC.out.keep HX2.out HZ2.out) 6 _ rfl; have r7 := (HBC.out.keep HX2.out HZ2.out) 7 _ rfl; clear hb) | (go_at_call 23; (with_reducible refine (iwTypes_is HSl HB2 HX2 D1).mono ?_); rintro e w' ⟨rfl, hb⟩; have HX2 := Lib.hid (HX2.out.trans (hb.mono HX2.out.size)); have r0 := (HBC.out.keep HX2.out HZ2.out) 0 _ rfl; have r1 := (HBC.out.keep HX2.out HZ2.out) 1 _ rfl; have r2 := (HBC.out.keep HX2.out HZ2.out) 2 _ rfl; have r3 := (HBC.out.keep HX2.out HZ2.out) 3 _ rfl; have r4 := (HBC.out.keep HX2.out HZ2.out) 4 _ rfl; have r5 := (HBC.out.keep HX2.out HZ2.out) 5 _ rfl; have r6 := (HBC.out.keep HX2.out HZ2.out) 6 _ rfl; have r7 := (HBC.out.keep HX2.out HZ2.out) 7 _ rfl; clear hb) | (go_at_call 24; (with_reducible refine (ityp_is D2).mono ?_); rintro e w' ⟨rfl, hb⟩; have HX2 := Lib.hid (HX2.out.trans (hb.mono HX2.out.size)); have r0 := (HBC.out.keep HX2.out HZ2.out) 0 _ rfl; have r1 := (HBC.out.keep HX2.out HZ2.out) 1 _ rfl; have r2 := (HBC.out.keep HX2.out HZ2.out) 2 _ rfl; have r3 := (HBC.out.keep HX2.out HZ2.out) 3 _ rfl; have r4 := (HBC.out.keep HX2.out HZ2.out) 4 _ rfl; have r5 := (HBC.out.keep HX2.out HZ2.out) 5 _ rfl; have r6 := (HBC.out.keep HX2.out HZ2.out) 6 _ rfl; have r7 := (HBC.out.keep HX2.out HZ2.out) 7 _ rfl; clear hb) | (go_at_call 42; (with_reducible refine (iwCode_is HSc HB2 HX2 D3).mono ?_); rintro e w' ⟨rfl, hb⟩; have HX2 := Lib.hid (HX2.out.trans (hb.mono HX2.out.size)); have r0 := (HBC.out.keep HX2.out HZ2.out) 0 _ rfl; have r1 := (HBC.out.keep HX2.out HZ2.out) 1 _ rfl; have r2 := (HBC.out.keep HX2.out HZ2.out) 2 _ rfl; have r3 := (HBC.out.keep HX2.out HZ2.out) 3 _ rfl; have r4 := (HBC.out.keep HX2.out HZ2.out) 4 _ rfl; have r5 := (HBC.out.keep HX2.out HZ2.out) 5 _ rfl; have r6 := (HBC.out.keep HX2.out HZ2.out) 6 _ rfl; have r7 := (HBC.out.keep HX2.out HZ2.out) 7 _ rfl; clear hb) | (go_at_call 29; (with_reducible refine (iupto_is D4).mono ?_); rintro e w' ⟨rfl, hb⟩; have HX2 := Lib.hid (HX2.out.trans (hb.mono HX2.out.size)); have r0 := (HBC.out.keep HX2.out HZ2.out) 0 _ rfl; have r1 := (HBC.out.keep HX2.out HZ2.out) 1 _ rfl; have r2 := (HBC.out.keep HX2.out HZ2.out) 2 _ rfl; have r3 := (HBC.out.keep HX2.out HZ2.out) 3 _ rfl; have r4 := (HBC.out.keep HX2.out HZ2.out) 4 _ rfl; have r5 := (HBC.out.keep HX2.out HZ2.out) 5 _ rfl; have r6 := (HBC.out.keep HX2.out HZ2.out) 6 _ rfl; have r7 := (HBC.out.keep HX2.out HZ2.out) 7 _ rfl; clear hb) | (go_at_call 44; (with_reducible refine (ipot_is D5).mono ?_); rintro e w' ⟨rfl, hb⟩; have HX2 := Lib.hid (HX2.out.trans (hb.mono HX2.out.size)); have r0 := (HBC.out.keep HX2.out HZ2.out) 0 _ rfl; have r1 := (HBC.out.keep HX2.out HZ2.out) 1 _ rfl; have r2 := (HBC.out.keep HX2.out HZ2.out) 2 _ rfl; have r3 := (HBC.out.keep HX2.out HZ2.out) 3 _ rfl; have r4 := (HBC.out.keep HX2.out HZ2.out) 4 _ rfl; have r5 := (HBC.out.keep HX2.out HZ2.out) 5 _ rfl; have r6 := (HBC.out.keep HX2.out HZ2.out) 6 _ rfl; have r7 := (HBC.out.keep HX2.out HZ2.out) 7 _ rfl; clear hb) | (go_at_call 27; (with_reducible refine (iwPots_is HSp HB2 HX2 D6).mono ?_); rintro e w' ⟨rfl, hb⟩; have HX2 := Lib.hid (HX2.out.trans (hb.mono HX2.out.size)); have r0 := (HBC.out.keep HX2.out HZ2.out) 0 _ rfl; have r1 := (HBC.out.keep HX2.out HZ2.out) 1 _ rfl; have r2 := (HBC.out.keep HX2.out HZ2.out) 2 _ rfl; have r3 := (HBC.out.keep HX2.out HZ2.out) 3 _ rfl; have r4 := (HBC.out.keep HX2.out HZ2.out) 4 _ rfl; have r5 := (HBC.out.keep HX2.out HZ2.out) 5 _ rfl; have r6 := (HBC.out.keep HX2.out HZ2.out) 6 _ rfl; have r7 := (HBC.out.keep HX2.out HZ2.out) 7 _ rfl; clear hb))
            go_ret
            exact ⟨by rw [E.out]; first | rfl | simp [*], HW.out.trans (HX2.out.mono HW.out.size)⟩
          · cases d5
            · go_wp2_with (first | (go_at_call 23; (with_reducible refine (iwTypes_is HSa HB2 HX2 D0).mono ?_); rintro e w' ⟨rfl, hb⟩; have HX2 := Lib.hid (HX2.out.trans (hb.mono HX2.out.size)); have r0 := (HBC.out.keep HX2.out HZ2.out) 0 _ rfl; have r1 := (HBC.out.keep HX2.out HZ2.out) 1 _ rfl; have r2 := (HBC.out.keep HX2.out HZ2.out) 2 _ rfl; have r3 := (HBC.out.keep HX2.out HZ2.out) 3 _ rfl; have r4 := (HBC.out.keep HX2.out HZ2.out) 4 _ rfl; have r5 := (HBC.out.keep HX2.out HZ2.out) 5 _ rfl; have r6 := (HBC.out.keep HX2.out HZ2.out) 6 _ rfl; have r7 := (HBC.out.keep HX2.out HZ2.out) 7 _ rfl; clear hb) | (go_at_call 23; (with_reducible refine (iwTypes_is HSl HB2 HX2 D1).mono ?_); rintro e w' ⟨rfl, hb⟩; have HX2 := Lib.hid (HX2.out.trans (hb.mono HX2.out.size)); have r0 := (HBC.out.keep HX2.out HZ2.out) 0 _ rfl; have r1 := (HBC.out.keep HX2.out HZ2.out) 1 _ rfl; have r2 := (HBC.out.keep HX2.out HZ2.out) 2 _ rfl; have r3 := (HBC.out.keep HX2.out HZ2.out) 3 _ rfl; have r4 := (HBC.out.keep HX2.out HZ2.out) 4 _ rfl; have r5 := (HBC.out.keep HX2.out HZ2.out) 5 _ rfl; have r6 := (HBC.out.keep HX2.out HZ2.out) 6 _ rfl; have r7 := (HBC.out.keep HX2.out HZ2.out) 7 _ rfl; clear hb) | (go_at_call 24; (with_reducible refine (ityp_is D2).mono ?_); rintro e w' ⟨rfl, hb⟩; have HX2 := Lib.hid (HX2.out.trans (hb.mono HX2.out.size)); have r0 := (HBC.out.keep HX2.out HZ2.out) 0 _ rfl; have r1 := (HBC.out.keep HX2.out HZ2.out) 1 _ rfl; have r2 := (HBC.out.keep HX2.out HZ2.out) 2 _ rfl; have r3 := (HBC.out.keep HX2.out HZ2.out) 3 _ rfl; have r4 := (HBC.out.keep HX2.out HZ2.out) 4 _ rfl; have r5 := (HBC.out.keep HX2.out HZ2.out) 5 _ rfl; have r6 := (HBC.out.keep HX2.out HZ2.out) 6 _ rfl; have r7 := (HBC.out.keep HX2.out HZ2.out) 7 _ rfl; clear hb) | (go_at_call 42; (with_reducible refine (iwCode_is HSc HB2 HX2 D3).mono ?_); rintro e w' ⟨rfl, hb⟩; have HX2 := Lib.hid (HX2.out.trans (hb.mono HX2.out.size)); have r0 := (HBC.out.keep HX2.out HZ2.out) 0 _ rfl; have r1 := (HBC.out.keep HX2.out HZ2.out) 1 _ rfl; have r2 := (HBC.out.keep HX2.out HZ2.out) 2 _ rfl; have r3 := (HBC.out.keep HX2.out HZ2.out) 3 _ rfl; have r4 := (HBC.out.keep HX2.out HZ2.out) 4 _ rfl; have r5 := (HBC.out.keep HX2.out HZ2.out) 5 _ rfl; have r6 := (HBC.out.keep HX2.out HZ2.out) 6 _ rfl; have r7 := (HBC.out.keep HX2.out HZ2.out) 7 _ rfl; clear hb) | (go_at_call 29; (with_reducible refine (iupto_is D4).mono ?_); rintro e w' ⟨rfl, hb⟩; have HX2 := Lib.hid (HX2.out.trans (hb.mono HX2.out.size)); have r0 := (HBC.out.keep HX2.out HZ2.out) 0 _ rfl; have r1 := (HBC.out.keep HX2.out HZ2.out) 1 _ rfl; have r2 := (HBC.out.keep HX2.out HZ2.out) 2 _ rfl; have r3 := (HBC.out.keep HX2.out HZ2.out) 3 _ rfl; have r4 := (HBC.out.keep HX2.out HZ2.out) 4 _ rfl; have r5 := (HBC.out.keep HX2.out HZ2.out) 5 _ rfl; have r6 := (HBC.out.keep HX2.out HZ2.out) 6 _ rfl; have r7 := (HBC.out.keep HX2.out HZ2.out) 7 _ rfl; clear hb) | (go_at_call 44; (with_reducible refine (ipot_is D5).mono ?_); rintro e w' ⟨rfl, hb⟩; have HX2 := Lib.hid (HX2.out.trans (hb.mono HX2.out.size)); have r0 := (HBC.out.keep HX2.out HZ2.out) 0 _ rfl; have r1 := (HBC.out.keep HX2.out HZ2.out) 1 _ rfl; have r2 := (HBC.out.keep HX2.out HZ2.out) 2 _ rfl; have r3 := (HBC.out.keep HX2.out HZ2.out) 3 _ rfl; have r4 := (HBC.out.keep HX2.out HZ2.out) 4 _ rfl; have r5 := (HBC.out.keep HX2.out HZ2.out) 5 _ rfl; have r6 := (HBC.out.keep HX2.out HZ2.out) 6 _ rfl; have r7 := (HBC.out.keep HX2.out HZ2.out) 7 _ rfl; clear hb) | (go_at_call 27; (with_reducible refine (iwPots_is HSp HB2 HX2 D6).mono ?_); rintro e w' ⟨rfl, hb⟩; have HX2 := Lib.hid (HX2.out.trans (hb.mono HX2.out.size)); have r0 := (HBC.out.keep HX2.out HZ2.out) 0 _ rfl; have r1 := (HBC.out.keep HX2.out HZ2.out) 1 _ rfl; have r2 := (HBC.out.keep HX2.out HZ2.out) 2 _ rfl; have r3 := (HBC.out.keep HX2.out HZ2.out) 3 _ rfl; have r4 := (HBC.out.keep HX2.out HZ2.out) 4 _ rfl; have r5 := (HBC.out.keep HX2.out HZ2.out) 5 _ rfl; have r6 := (HBC.out.keep HX2.out HZ2.out) 6 _ rfl; have r7 := (HBC.out.keep HX2.out HZ2.out) 7 _ rfl; clear hb))
              go_ret
              exact ⟨by rw [E.out]; first | rfl | simp [*], HW.out.trans (HX2.out.mono HW.out.size)⟩
            · cases d6
              · go_wp2_with (first | (go_at_call 23; (with_reducible refine (iwTypes_is HSa HB2 HX2 D0).mono ?_); rintro e w' ⟨rfl, hb⟩; have HX2 := Lib.hid (HX2.out.trans (hb.mono HX2.out.size)); have r0 := (HBC.out.keep HX2.out HZ2.out) 0 _ rfl; have r1 := (HBC.out.keep HX2.out HZ2.out) 1 _ rfl; have r2 := (HBC.out.keep HX2.out HZ2.out) 2 _ rfl; have r3 := (HBC.out.keep HX2.out HZ2.out) 3 _ rfl; have r4 := (HBC.out.keep HX2.out HZ2.out) 4 _ rfl; have r5 := (HBC.out.keep HX2.out HZ2.out) 5 _ rfl; have r6 := (HBC.out.keep HX2.out HZ2.out) 6 _ rfl; have r7 := (HBC.out.keep HX2.out HZ2.out) 7 _ rfl; clear hb) | (go_at_call 23; (with_reducible refine (iwTypes_is HSl HB2 HX2 D1).mono ?_); rintro e w' ⟨rfl, hb⟩; have HX2 := Lib.hid (HX2.out.trans (hb.mono HX2.out.size)); have r0 := (HBC.out.keep HX2.out HZ2.out) 0 _ rfl; have r1 := (HBC.out.keep HX2.out HZ2.out) 1 _ rfl; have r2 := (HBC.out.keep HX2.out HZ2.out) 2 _ rfl; have r3 := (HBC.out.keep HX2.out HZ2.out) 3 _ rfl; have r4 := (HBC.out.keep HX2.out HZ2.out) 4 _ rfl; have r5 := (HBC.out.keep HX2.out HZ2.out) 5 _ rfl; have r6 := (HBC.out.keep HX2.out HZ2.out) 6 _ rfl; have r7 := (HBC.out.keep HX2.out HZ2.out) 7 _ rfl; clear hb) | (go_at_call 24; (with_reducible refine (ityp_is D2).mono ?_); rintro e w' ⟨rfl, hb⟩; have HX2 := Lib.hid (HX2.out.trans (hb.mono HX2.out.size)); have r0 := (HBC.out.keep HX2.out HZ2.out) 0 _ rfl; have r1 := (HBC.out.keep HX2.out HZ2.out) 1 _ rfl; have r2 := (HBC.out.keep HX2.out HZ2.out) 2 _ rfl; have r3 := (HBC.out.keep HX2.out HZ2.out) 3 _ rfl; have r4 := (HBC.out.keep HX2.out HZ2.out) 4 _ rfl; have r5 := (HBC.out.keep HX2.out HZ2.out) 5 _ rfl; have r6 := (HBC.out.keep HX2.out HZ2.out) 6 _ rfl; have r7 := (HBC.out.keep HX2.out HZ2.out) 7 _ rfl; clear hb) | (go_at_call 42; (with_reducible refine (iwCode_is HSc HB2 HX2 D3).mono ?_); rintro e w' ⟨rfl, hb⟩; have HX2 := Lib.hid (HX2.out.trans (hb.mono HX2.out.size)); have r0 := (HBC.out.keep HX2.out HZ2.out) 0 _ rfl; have r1 := (HBC.out.keep HX2.out HZ2.out) 1 _ rfl; have r2 := (HBC.out.keep HX2.out HZ2.out) 2 _ rfl; have r3 := (HBC.out.keep HX2.out HZ2.out) 3 _ rfl; have r4 := (HBC.out.keep HX2.out HZ2.out) 4 _ rfl; have r5 := (HBC.out.keep HX2.out HZ2.out) 5 _ rfl; have r6 := (HBC.out.keep HX2.out HZ2.out) 6 _ rfl; have r7 := (HBC.out.keep HX2.out HZ2.out) 7 _ rfl; clear hb) | (go_at_call 29; (with_reducible refine (iupto_is D4).mono ?_); rintro e w' ⟨rfl, hb⟩; have HX2 := Lib.hid (HX2.out.trans (hb.mono HX2.out.size)); have r0 := (HBC.out.keep HX2.out HZ2.out) 0 _ rfl; have r1 := (HBC.out.keep HX2.out HZ2.out) 1 _ rfl; have r2 := (HBC.out.keep HX2.out HZ2.out) 2 _ rfl; have r3 := (HBC.out.keep HX2.out HZ2.out) 3 _ rfl; have r4 := (HBC.out.keep HX2.out HZ2.out) 4 _ rfl; have r5 := (HBC.out.keep HX2.out HZ2.out) 5 _ rfl; have r6 := (HBC.out.keep HX2.out HZ2.out) 6 _ rfl; have r7 := (HBC.out.keep HX2.out HZ2.out) 7 _ rfl; clear hb) | (go_at_call 44; (with_reducible refine (ipot_is D5).mono ?_); rintro e w' ⟨rfl, hb⟩; have HX2 := Lib.hid (HX2.out.trans (hb.mono HX2.out.size)); have r0 := (HBC.out.keep HX2.out HZ2.out) 0 _ rfl; have r1 := (HBC.out.keep HX2.out HZ2.out) 1 _ rfl; have r2 := (HBC.out.keep HX2.out HZ2.out) 2 _ rfl; have r3 := (HBC.out.keep HX2.out HZ2.out) 3 _ rfl; have r4 := (HBC.out.keep HX2.out HZ2.out) 4 _ rfl; have r5 := (HBC.out.keep HX2.out HZ2.out) 5 _ rfl; have r6 := (HBC.out.keep HX2.out HZ2.out) 6 _ rfl; have r7 := (HBC.out.keep HX2.out HZ2.out) 7 _ rfl; clear hb) | (go_at_call 27; (with_reducible refine (iwPots_is HSp HB2 HX2 D6).mono ?_); rintro e w' ⟨rfl, hb⟩; have HX2 := Lib.hid (HX2.out.trans (hb.mono HX2.out.size)); have r0 := (HBC.out.keep HX2.out HZ2.out) 0 _ rfl; have r1 := (HBC.out.keep HX2.out HZ2.out) 1 _ rfl; have r2 := (HBC.out.keep HX2.out HZ2.out) 2 _ rfl; have r3 := (HBC.out.keep HX2.out HZ2.out) 3 _ rfl; have r4 := (HBC.out.keep HX2.out HZ2.out) 4 _ rfl; have r5 := (HBC.out.keep HX2.out HZ2.out) 5 _ rfl; have r6 := (HBC.out.keep HX2.out HZ2.out) 6 _ rfl; have r7 := (HBC.out.keep HX2.out HZ2.out) 7 _ rfl; clear hb))
                go_ret
                exact ⟨by rw [E.out]; first | rfl | simp [*], HW.out.trans (HX2.out.mono HW.out.size)⟩
              · go_wp2_with (first | (go_at_call 23; (with_reducible refine (iwTypes_is HSa HB2 HX2 D0).mono ?_); rintro e w' ⟨rfl, hb⟩; have HX2 := Lib.hid (HX2.out.trans (hb.mono HX2.out.size)); have r0 := (HBC.out.keep HX2.out HZ2.out) 0 _ rfl; have r1 := (HBC.out.keep HX2.out HZ2.out) 1 _ rfl; have r2 := (HBC.out.keep HX2.out HZ2.out) 2 _ rfl; have r3 := (HBC.out.keep HX2.out HZ2.out) 3 _ rfl; have r4 := (HBC.out.keep HX2.out HZ2.out) 4 _ rfl; have r5 := (HBC.out.keep HX2.out HZ2.out) 5 _ rfl; have r6 := (HBC.out.keep HX2.out HZ2.out) 6 _ rfl; have r7 := (HBC.out.keep HX2.out HZ2.out) 7 _ rfl; clear hb) | (go_at_call 23; (with_reducible refine (iwTypes_is HSl HB2 HX2 D1).mono ?_); rintro e w' ⟨rfl, hb⟩; have HX2 := Lib.hid (HX2.out.trans (hb.mono HX2.out.size)); have r0 := (HBC.out.keep HX2.out HZ2.out) 0 _ rfl; have r1 := (HBC.out.keep HX2.out HZ2.out) 1 _ rfl; have r2 := (HBC.out.keep HX2.out HZ2.out) 2 _ rfl; have r3 := (HBC.out.keep HX2.out HZ2.out) 3 _ rfl; have r4 := (HBC.out.keep HX2.out HZ2.out) 4 _ rfl; have r5 := (HBC.out.keep HX2.out HZ2.out) 5 _ rfl; have r6 := (HBC.out.keep HX2.out HZ2.out) 6 _ rfl; have r7 := (HBC.out.keep HX2.out HZ2.out) 7 _ rfl; clear hb) | (go_at_call 24; (with_reducible refine (ityp_is D2).mono ?_); rintro e w' ⟨rfl, hb⟩; have HX2 := Lib.hid (HX2.out.trans (hb.mono HX2.out.size)); have r0 := (HBC.out.keep HX2.out HZ2.out) 0 _ rfl; have r1 := (HBC.out.keep HX2.out HZ2.out) 1 _ rfl; have r2 := (HBC.out.keep HX2.out HZ2.out) 2 _ rfl; have r3 := (HBC.out.keep HX2.out HZ2.out) 3 _ rfl; have r4 := (HBC.out.keep HX2.out HZ2.out) 4 _ rfl; have r5 := (HBC.out.keep HX2.out HZ2.out) 5 _ rfl; have r6 := (HBC.out.keep HX2.out HZ2.out) 6 _ rfl; have r7 := (HBC.out.keep HX2.out HZ2.out) 7 _ rfl; clear hb) | (go_at_call 42; (with_reducible refine (iwCode_is HSc HB2 HX2 D3).mono ?_); rintro e w' ⟨rfl, hb⟩; have HX2 := Lib.hid (HX2.out.trans (hb.mono HX2.out.size)); have r0 := (HBC.out.keep HX2.out HZ2.out) 0 _ rfl; have r1 := (HBC.out.keep HX2.out HZ2.out) 1 _ rfl; have r2 := (HBC.out.keep HX2.out HZ2.out) 2 _ rfl; have r3 := (HBC.out.keep HX2.out HZ2.out) 3 _ rfl; have r4 := (HBC.out.keep HX2.out HZ2.out) 4 _ rfl; have r5 := (HBC.out.keep HX2.out HZ2.out) 5 _ rfl; have r6 := (HBC.out.keep HX2.out HZ2.out) 6 _ rfl; have r7 := (HBC.out.keep HX2.out HZ2.out) 7 _ rfl; clear hb) | (go_at_call 29; (with_reducible refine (iupto_is D4).mono ?_); rintro e w' ⟨rfl, hb⟩; have HX2 := Lib.hid (HX2.out.trans (hb.mono HX2.out.size)); have r0 := (HBC.out.keep HX2.out HZ2.out) 0 _ rfl; have r1 := (HBC.out.keep HX2.out HZ2.out) 1 _ rfl; have r2 := (HBC.out.keep HX2.out HZ2.out) 2 _ rfl; have r3 := (HBC.out.keep HX2.out HZ2.out) 3 _ rfl; have r4 := (HBC.out.keep HX2.out HZ2.out) 4 _ rfl; have r5 := (HBC.out.keep HX2.out HZ2.out) 5 _ rfl; have r6 := (HBC.out.keep HX2.out HZ2.out) 6 _ rfl; have r7 := (HBC.out.keep HX2.out HZ2.out) 7 _ rfl; clear hb) | (go_at_call 44; (with_reducible refine (ipot_is D5).mono ?_); rintro e w' ⟨rfl, hb⟩; have HX2 := Lib.hid (HX2.out.trans (hb.mono HX2.out.size)); have r0 := (HBC.out.keep HX2.out HZ2.out) 0 _ rfl; have r1 := (HBC.out.keep HX2.out HZ2.out) 1 _ rfl; have r2 := (HBC.out.keep HX2.out HZ2.out) 2 _ rfl; have r3 := (HBC.out.keep HX2.out HZ2.out) 3 _ rfl; have r4 := (HBC.out.keep HX2.out HZ2.out) 4 _ rfl; have r5 := (HBC.out.keep HX2.out HZ2.out) 5 _ rfl; have r6 := (HBC.out.keep HX2.out HZ2.out) 6 _ rfl; have r7 := (HBC.out.keep HX2.out HZ2.out) 7 _ rfl; clear hb) | (go_at_call 27; (with_reducible refine (iwPots_is HSp HB2 HX2 D6).mono ?_); rintro e w' ⟨rfl, hb⟩; have HX2 := Lib.hid (HX2.out.trans (hb.mono HX2.out.size)); have r0 := (HBC.out.keep HX2.out HZ2.out) 0 _ rfl; have r1 := (HBC.out.keep HX2.out HZ2.out) 1 _ rfl; have r2 := (HBC.out.keep HX2.out HZ2.out) 2 _ rfl; have r3 := (HBC.out.keep HX2.out HZ2.out) 3 _ rfl; have r4 := (HBC.out.keep HX2.out HZ2.out) 4 _ rfl; have r5 := (HBC.out.keep HX2.out HZ2.out) 5 _ rfl; have r6 := (HBC.out.keep HX2.out HZ2.out) 6 _ rfl; have r7 := (HBC.out.keep HX2.out HZ2.out) 7 _ rfl; clear hb))
                go_ret
                exact ⟨by rw [E.out]; first | rfl | simp [*], HW.out.trans (HX2.out.mono HW.out.size)⟩

set_option maxHeartbeats 1600000 in
theorem iwClasses_any (l : List (Cls)) (n : Int) (A : Option Addr) (cap B : Nat) (w : World) (hB : B ≤ w.heap.size) (h : SlcIs ClsAt 3 w B A cap l) :
    Calls Try.prog 21 #[.slice A l.length cap, .int .i64 n, .func (.func 22) #[] #[]] w fun e w' => e = .returned (.bool (fewB clsB l n)) ∧ Below w.heap.size w w' := by
  have hlc := h.le
  have hcm := h.cap
  have HL := Lib.hid h
  have HB := Lib.hid hB
  clear h hB
  by_cases hn : n < l.length
  · have E := Lib.hid (few_over (p := clsB) (show ¬ (l.length : Int) ≤ n by omega))
    go_enter Try.func21, Try.ntmps21
    go_wp2
    go_ret
    exact ⟨by rw [E.out]; rfl, Below.refl _ _⟩
  · have E := Lib.hid (few_all (p := clsB) (show (l.length : Int) ≤ n by omega))
    rw [E.out]
    clear E
    go_enter Try.func21, Try.ntmps21
    go_wp2
    go_loopw [15] (fun i wr => ∃ k : Nat, k ≤ l.length ∧ i = .int .i64 k ∧ Hid (∀ t ∈ l.take k, clsB t = true) ∧ Hid (Below w.heap.size w wr)) (fun i _ => l.length - (intOf i).toNat)
    case atStart => exact ⟨0, by omega, rfl, Lib.hid (by simp), Lib.hid (Below.refl _ _)⟩
    case round =>
      obtain ⟨k, hk, rfl, HN, HX⟩ := hrel
      by_cases hlt : k < l.length
      · obtain ⟨ad, rfl, hab, s0, ⟨A1, k1, s1, hs1⟩, ⟨A2, k2, s2, hs2⟩, hrg⟩ := (HL.out.below_to ClsAt.keeps HX.out HB.out).row.at_ hlt
        have HNOT := Lib.hid (fun g : clsB l[k] = false => all_not hlt g)
        have HYES := Lib.hid (fun g : clsB l[k] = true => all_take hlt HN.out g)
        generalize l[k] = t at *
        obtain ⟨r, hr⟩ : ∃ r, clsB t = r := ⟨_, rfl⟩
        have R := Lib.hid hr
        clear hr
        have HA := Lib.hid (HX.out.alloc HX.out.size (.cells #[.int .i64 t.sup, .slice A1 t.fields.length k1, .slice A2 t.slots.length k2] 44))
        have hBr : B ≤ wr.heap.size := Nat.le_trans HB.out HX.out.size
        have HBr2 : Hid (B ≤ (wr.alloc (.cells #[.int .i64 t.sup, .slice A1 t.fields.length k1, .slice A2 t.slots.length k2] 44)).heap.size) := Lib.hid (Nat.le_trans hBr (by simp))
        have HSf := Lib.hid (hs1.below_to TyAt.keeps ((Below.refl wr.heap.size wr).alloc (Nat.le_refl _) (.cells #[.int .i64 t.sup, .slice A1 t.fields.length k1, .slice A2 t.slots.length k2] 44)) hBr)
        have HSs := Lib.hid (hs2.below_to IntAt.keeps ((Below.refl wr.heap.size wr).alloc (Nat.le_refl _) (.cells #[.int .i64 t.sup, .slice A1 t.fields.length k1, .slice A2 t.slots.length k2] 44)) hBr)
        clear hBr hs1 hs2
        have HRG := Lib.hid hrg
        clear hrg
        cases r
        · go_wp2_with (go_at_call 22; (with_reducible refine (icls_any t A1 A2 k1 k2 B _ HBr2.out HSf.out HSs.out HRG.out).mono ?_); rintro e w1 ⟨he, hb⟩; rw [R.out] at he; subst he; have HX1 := Lib.hid (HA.out.trans (hb.mono HA.out.size)); clear hb)
          go_ret
          exact ⟨by rw [HNOT.out R.out]; rfl, HX1.out⟩
        · go_wp2_with (go_at_call 22; (with_reducible refine (icls_any t A1 A2 k1 k2 B _ HBr2.out HSf.out HSs.out HRG.out).mono ?_); rintro e w1 ⟨he, hb⟩; rw [R.out] at he; subst he; have HX1 := Lib.hid (HA.out.trans (hb.mono HA.out.size)); clear hb)
          go_roundw
          case rel => exact ⟨k + 1, by omega, by go_num, Lib.hid (HYES.out R.out), HX1⟩
          case measure => simp [intOf]; omega
      · go_wp2_with fail
        go_ret
        exact ⟨by rw [all_end HN.out (by omega)]; rfl, HX.out⟩

set_option maxHeartbeats 1600000 in
theorem iwMethods_any (l : List (Mth)) (n : Int) (A : Option Addr) (cap B : Nat) (w : World) (hB : B ≤ w.heap.size) (h : SlcIs MthAt 8 w B A cap l) :
    Calls Try.prog 25 #[.slice A l.length cap, .int .i64 n, .func (.func 26) #[] #[]] w fun e w' => e = .returned (.bool (fewB mthB l n)) ∧ Below w.heap.size w w' := by
  have hlc := h.le
  have hcm := h.cap
  have HL := Lib.hid h
  have HB := Lib.hid hB
  clear h hB
  by_cases hn : n < l.length
  · have E := Lib.hid (few_over (p := mthB) (show ¬ (l.length : Int) ≤ n by omega))
    go_enter Try.func25, Try.ntmps25
    go_wp2
    go_ret
    exact ⟨by rw [E.out]; rfl, Below.refl _ _⟩
  · have E := Lib.hid (few_all (p := mthB) (show (l.length : Int) ≤ n by omega))
    rw [E.out]
    clear E
    go_enter Try.func25, Try.ntmps25
    go_wp2
    go_loopw [15] (fun i wr => ∃ k : Nat, k ≤ l.length ∧ i = .int .i64 k ∧ Hid (∀ t ∈ l.take k, mthB t = true) ∧ Hid (Below w.heap.size w wr)) (fun i _ => l.length - (intOf i).toNat)
    case atStart => exact ⟨0, by omega, rfl, Lib.hid (by simp), Lib.hid (Below.refl _ _)⟩
    case round =>
      obtain ⟨k, hk, rfl, HN, HX⟩ := hrel
      by_cases hlt : k < l.length
      · obtain ⟨ad, rfl, hab, ⟨A0, k0, s0, hs0⟩, ⟨A1, k1, s1, hs1⟩, s2, s3, ⟨A4, k4, s4, hs4⟩, s5, s6, ⟨A7, k7, s7, hs7⟩⟩ := (HL.out.below_to MthAt.keeps HX.out HB.out).row.at_ hlt
        have HNOT := Lib.hid (fun g : mthB l[k] = false => all_not hlt g)
        have HYES := Lib.hid (fun g : mthB l[k] = true => all_take hlt HN.out g)
        generalize l[k] = t at *
        obtain ⟨r, hr⟩ : ∃ r, mthB t = r := ⟨_, rfl⟩
        have R := Lib.hid hr
        clear hr
        have HA := Lib.hid (HX.out.alloc HX.out.size (.cells #[.slice A0 t.args.length k0, .slice A1 t.locals.length k1, .int .i64 t.ret.1, .int .i64 t.ret.2, .slice A4 t.code.length k4, .int .i64 t.depth, .int .i64 t.pot, .slice A7 t.phi.length k7] 38))
        have hBr : B ≤ wr.heap.size := Nat.le_trans HB.out HX.out.size
        have HBr2 : Hid (B ≤ (wr.alloc (.cells #[.slice A0 t.args.length k0, .slice A1 t.locals.length k1, .int .i64 t.ret.1, .int .i64 t.ret.2, .slice A4 t.code.length k4, .int .i64 t.depth, .int .i64 t.pot, .slice A7 t.phi.length k7] 38)).heap.size) := Lib.hid (Nat.le_trans hBr (by simp))
        have HSa := Lib.hid (hs0.below_to TyAt.keeps ((Below.refl wr.heap.size wr).alloc (Nat.le_refl _) (.cells #[.slice A0 t.args.length k0, .slice A1 t.locals.length k1, .int .i64 t.ret.1, .int .i64 t.ret.2, .slice A4 t.code.length k4, .int .i64 t.depth, .int .i64 t.pot, .slice A7 t.phi.length k7] 38)) hBr)
        have HSl := Lib.hid (hs1.below_to TyAt.keeps ((Below.refl wr.heap.size wr).alloc (Nat.le_refl _) (.cells #[.slice A0 t.args.length k0, .slice A1 t.locals.length k1, .int .i64 t.ret.1, .int .i64 t.ret.2, .slice A4 t.code.length k4, .int .i64 t.depth, .int .i64 t.pot, .slice A7 t.phi.length k7] 38)) hBr)
        have HSc := Lib.hid (hs4.below_to CodeAt.keeps ((Below.refl wr.heap.size wr).alloc (Nat.le_refl _) (.cells #[.slice A0 t.args.length k0, .slice A1 t.locals.length k1, .int .i64 t.ret.1, .int .i64 t.ret.2, .slice A4 t.code.length k4, .int .i64 t.depth, .int .i64 t.pot, .slice A7 t.phi.length k7] 38)) hBr)
        have HSp := Lib.hid (hs7.below_to IntAt.keeps ((Below.refl wr.heap.size wr).alloc (Nat.le_refl _) (.cells #[.slice A0 t.args.length k0, .slice A1 t.locals.length k1, .int .i64 t.ret.1, .int .i64 t.ret.2, .slice A4 t.code.length k4, .int .i64 t.depth, .int .i64 t.pot, .slice A7 t.phi.length k7] 38)) hBr)
        clear hBr hs0 hs1 hs4 hs7
        cases r
        · go_wp2_with (go_at_call 26; (with_reducible refine (imth_any t A0 A1 A4 A7 k0 k1 k4 k7 B _ HBr2.out HSa.out HSl.out HSc.out HSp.out).mono ?_); rintro e w1 ⟨he, hb⟩; rw [R.out] at he; subst he; have HX1 := Lib.hid (HA.out.trans (hb.mono HA.out.size)); clear hb)
          go_ret
          exact ⟨by rw [HNOT.out R.out]; rfl, HX1.out⟩
        · go_wp2_with (go_at_call 26; (with_reducible refine (imth_any t A0 A1 A4 A7 k0 k1 k4 k7 B _ HBr2.out HSa.out HSl.out HSc.out HSp.out).mono ?_); rintro e w1 ⟨he, hb⟩; rw [R.out] at he; subst he; have HX1 := Lib.hid (HA.out.trans (hb.mono HA.out.size)); clear hb)
          go_roundw
          case rel => exact ⟨k + 1, by omega, by go_num, Lib.hid (HYES.out R.out), HX1⟩
          case measure => simp [intOf]; omega
      · go_wp2_with fail
        go_ret
        exact ⟨by rw [all_end HN.out (by omega)]; rfl, HX.out⟩

theorem iwClasses_is {l : List (Cls)} {n : Int} {A : Option Addr} {cap B : Nat} {w0 w : World} {r : Bool} (HL : Hid (SlcIs ClsAt 3 w0 B A cap l)) (HB : Hid (B ≤ w0.heap.size)) (HX : Hid (Below w0.heap.size w0 w)) (HR : Hid (fewB clsB l n = r)) :
    Calls Try.prog 21 #[.slice A l.length cap, .int .i64 n, .func (.func 22) #[] #[]] w fun e w' => e = .returned (.bool r) ∧ Below w.heap.size w w' := by
  have h := iwClasses_any l n A cap B w (Nat.le_trans HB.out HX.out.size) (HL.out.below_to ClsAt.keeps HX.out HB.out)
  rw [HR.out] at h
  exact h

theorem iwMethods_is {l : List (Mth)} {n : Int} {A : Option Addr} {cap B : Nat} {w0 w : World} {r : Bool} (HL : Hid (SlcIs MthAt 8 w0 B A cap l)) (HB : Hid (B ≤ w0.heap.size)) (HX : Hid (Below w0.heap.size w0 w)) (HR : Hid (fewB mthB l n = r)) :
    Calls Try.prog 25 #[.slice A l.length cap, .int .i64 n, .func (.func 26) #[] #[]] w fun e w' => e = .returned (.bool r) ∧ Below w.heap.size w w' := by
  have h := iwMethods_any l n A cap B w (Nat.le_trans HB.out HX.out.size) (HL.out.below_to MthAt.keeps HX.out HB.out)
  rw [HR.out] at h
  exact h

set_option maxHeartbeats 3200000 in
theorem ifits_any (m : Img) (h : Hnd) (B : Nat) (w : World) (hB : B ≤ w.heap.size) (H : ImgIn w B h m) :
    Calls Try.prog 11 #[imgV h m] w fun e w' => e = .returned (.bool (fitsB m)) ∧ Below w.heap.size w w' := by
  have HW := Lib.hid ((Below.refl w.heap.size w).alloc (Nat.le_refl _) (.cells #[.slice h.A0 m.classes.length h.c0, .slice h.A1 m.statics.length h.c1, .slice h.A2 m.ints.length h.c2, .slice h.A3 m.methods.length h.c3, .slice h.A4 m.entries.length h.c4, .int .i64 m.stack, .int .i64 m.heap] 28))
  have HZ2 : Hid (w.heap.size < (w.alloc (.cells #[.slice h.A0 m.classes.length h.c0, .slice h.A1 m.statics.length h.c1, .slice h.A2 m.ints.length h.c2, .slice h.A3 m.methods.length h.c3, .slice h.A4 m.entries.length h.c4, .int .i64 m.stack, .int .i64 m.heap] 28)).heap.size) := Lib.hid (by simp)
  have HBC := Lib.hid (cells_new w [.slice h.A0 m.classes.length h.c0, .slice h.A1 m.statics.length h.c1, .slice h.A2 m.ints.length h.c2, .slice h.A3 m.methods.length h.c3, .slice h.A4 m.entries.length h.c4, .int .i64 m.stack, .int .i64 m.heap] 28)
  have HB2 := Lib.hid (Nat.le_trans hB HW.out.size)
  have HM := Lib.hid (H.below_to HW.out hB)
  have HS0 := Lib.hid HM.out.classes
  have HS1 := Lib.hid HM.out.statics
  have HS3 := Lib.hid HM.out.methods
  have HS4 := Lib.hid HM.out.entries
  have hi1 := H.ints.le
  have hi2 := H.ints.cap
  clear H
  obtain ⟨d0, hd0⟩ : ∃ b, fewB clsB m.classes 8 = b := ⟨_, rfl⟩
  have D0 := Lib.hid hd0
  obtain ⟨d1, hd1⟩ : ∃ b, fewB typB m.statics 8 = b := ⟨_, rfl⟩
  have D1 := Lib.hid hd1
  obtain ⟨d3, hd3⟩ : ∃ b, fewB mthB m.methods 12 = b := ⟨_, rfl⟩
  have D3 := Lib.hid hd3
  obtain ⟨d4, hd4⟩ : ∃ b, fewB numB m.entries 12 = b := ⟨_, rfl⟩
  have D4 := Lib.hid hd4
  obtain ⟨d5, hd5⟩ : ∃ b, withinB m.stack 0 4096 = b := ⟨_, rfl⟩
  have D5 := Lib.hid hd5
  obtain ⟨d6, hd6⟩ : ∃ b, withinB m.heap 0 4096 = b := ⟨_, rfl⟩
  have D6 := Lib.hid hd6
  have E0 := fitsB_own m
  rw [hd0, hd1, hd3, hd4, hd5, hd6] at E0
  have E := Lib.hid E0
  clear E0 hB hd0 hd1 hd3 hd4 hd5 hd6
  go_enter Try.func11, Try.ntmps11
  go_upto_region 1 with fail
  generalize w.alloc (.cells #[.slice h.A0 m.classes.length h.c0, .slice h.A1 m.statics.length h.c1, .slice h.A2 m.ints.length h.c2, .slice h.A3 m.methods.length h.c3, .slice h.A4 m.entries.length h.c4, .int .i64 m.stack, .int .i64 m.heap] 28) = w2 at *
  have HX2 : Hid (Below w2.heap.size w2 w2) := Lib.hid (Below.refl _ _)
  have r0 := HBC.out 0 _ rfl
  have r1 := HBC.out 1 _ rfl
  have r2 := HBC.out 2 _ rfl
  have r3 := HBC.out 3 _ rfl
  have r4 := HBC.out 4 _ rfl
  have r5 := HBC.out 5 _ rfl
  have r6 := HBC.out 6 _ rfl
  cases d0
  · go_wp2_with (first | (go_at_call 21; (with_reducible refine (iwClasses_is HS0 HB2 HX2 D0).mono ?_); rintro e w' ⟨rfl, hb⟩; have HX2 := Lib.hid (HX2.out.trans (hb.mono HX2.out.size)); have r0 := (HBC.out.keep HX2.out HZ2.out) 0 _ rfl; have r1 := (HBC.out.keep HX2.out HZ2.out) 1 _ rfl; have r2 := (HBC.out.keep HX2.out HZ2.out) 2 _ rfl; have r3 := (HBC.out.keep HX2.out HZ2.out) 3 _ rfl; have r4 := (HBC.out.keep HX2.out HZ2.out) 4 _ rfl; have r5 := (HBC.out.keep HX2.out HZ2.out) 5 _ rfl; have r6 := (HBC.out.keep HX2.out HZ2.out) 6 _ rfl; clear hb) | (go_at_call 23; (with_reducible refine (iwTypes_is HS1 HB2 HX2 D1).mono ?_); rintro e w' ⟨rfl, hb⟩; have HX2 := Lib.hid (HX2.out.trans (hb.mono HX2.out.size)); have r0 := (HBC.out.keep HX2.out HZ2.out) 0 _ rfl; have r1 := (HBC.out.keep HX2.out HZ2.out) 1 _ rfl; have r2 := (HBC.out.keep HX2.out HZ2.out) 2 _ rfl; have r3 := (HBC.out.keep HX2.out HZ2.out) 3 _ rfl; have r4 := (HBC.out.keep HX2.out HZ2.out) 4 _ rfl; have r5 := (HBC.out.keep HX2.out HZ2.out) 5 _ rfl; have r6 := (HBC.out.keep HX2.out HZ2.out) 6 _ rfl; clear hb) | (go_at_call 25; (with_reducible refine (iwMethods_is HS3 HB2 HX2 D3).mono ?_); rintro e w' ⟨rfl, hb⟩; have HX2 := Lib.hid (HX2.out.trans (hb.mono HX2.out.size)); have r0 := (HBC.out.keep HX2.out HZ2.out) 0 _ rfl; have r1 := (HBC.out.keep HX2.out HZ2.out) 1 _ rfl; have r2 := (HBC.out.keep HX2.out HZ2.out) 2 _ rfl; have r3 := (HBC.out.keep HX2.out HZ2.out) 3 _ rfl; have r4 := (HBC.out.keep HX2.out HZ2.out) 4 _ rfl; have r5 := (HBC.out.keep HX2.out HZ2.out) 5 _ rfl; have r6 := (HBC.out.keep HX2.out HZ2.out) 6 _ rfl; clear hb) | (go_at_call 27; (with_reducible refine (iwNums_is HS4 HB2 HX2 D4).mono ?_); rintro e w' ⟨rfl, hb⟩; have HX2 := Lib.hid (HX2.out.trans (hb.mono HX2.out.size)); have r0 := (HBC.out.keep HX2.out HZ2.out) 0 _ rfl; have r1 := (HBC.out.keep HX2.out HZ2.out) 1 _ rfl; have r2 := (HBC.out.keep HX2.out HZ2.out) 2 _ rfl; have r3 := (HBC.out.keep HX2.out HZ2.out) 3 _ rfl; have r4 := (HBC.out.keep HX2.out HZ2.out) 4 _ rfl; have r5 := (HBC.out.keep HX2.out HZ2.out) 5 _ rfl; have r6 := (HBC.out.keep HX2.out HZ2.out) 6 _ rfl; clear hb) | (go_at_call 29; (with_reducible refine (iupto_is D5).mono ?_); rintro e w' ⟨rfl, hb⟩; have HX2 := Lib.hid (HX2.out.trans (hb.mono HX2.out.size)); have r0 := (HBC.out.keep HX2.out HZ2.out) 0 _ rfl; have r1 := (HBC.out.keep HX2.out HZ2.out) 1 _ rfl; have r2 := (HBC.out.keep HX2.out HZ2.out) 2 _ rfl; have r3 := (HBC.out.keep HX2.out HZ2.out) 3 _ rfl; have r4 := (HBC.out.keep HX2.out HZ2.out) 4 _ rfl; have r5 := (HBC.out.keep HX2.out HZ2.out) 5 _ rfl; have r6 := (HBC.out.keep HX2.out HZ2.out) 6 _ rfl; clear hb) | (go_at_call 29; (with_reducible refine (iupto_is D6).mono ?_); rintro e w' ⟨rfl, hb⟩; have HX2 := Lib.hid (HX2.out.trans (hb.mono HX2.out.size)); have r0 := (HBC.out.keep HX2.out HZ2.out) 0 _ rfl; have r1 := (HBC.out.keep HX2.out HZ2.out) 1 _ rfl; have r2 := (HBC.out.keep HX2.out HZ2.out) 2 _ rfl; have r3 := (HBC.out.keep HX2.out HZ2.out) 3 _ rfl; have r4 := (HBC.out.keep HX2.out HZ2.out) 4 _ rfl; have r5 := (HBC.out.keep HX2.out HZ2.out) 5 _ rfl; have r6 := (HBC.out.keep HX2.out HZ2.out) 6 _ rfl; clear hb))
    go_ret
    exact ⟨by rw [E.out]; first | rfl | simp [*], HW.out.trans (HX2.out.mono HW.out.size)⟩
  · cases d1
    · go_wp2_with (first | (go_at_call 21; (with_reducible refine (iwClasses_is HS0 HB2 HX2 D0).mono ?_); rintro e w' ⟨rfl, hb⟩; have HX2 := Lib.hid (HX2.out.trans (hb.mono HX2.out.size)); have r0 := (HBC.out.keep HX2.out HZ2.out) 0 _ rfl; have r1 := (HBC.out.keep HX2.out HZ2.out) 1 _ rfl; have r2 := (HBC.out.keep HX2.out HZ2.out) 2 _ rfl; have r3 := (HBC.out.keep HX2.out HZ2.out) 3 _ rfl; have r4 := (HBC.out.keep HX2.out HZ2.out) 4 _ rfl; have r5 := (HBC.out.keep HX2.out HZ2.out) 5 _ rfl; have r6 := (HBC.out.keep HX2.out HZ2.out) 6 _ rfl; clear hb) | (go_at_call 23; (with_reducible refine (iwTypes_is HS1 HB2 HX2 D1).mono ?_); rintro e w' ⟨rfl, hb⟩; have HX2 := Lib.hid (HX2.out.trans (hb.mono HX2.out.size)); have r0 := (HBC.out.keep HX2.out HZ2.out) 0 _ rfl; have r1 := (HBC.out.keep HX2.out HZ2.out) 1 _ rfl; have r2 := (HBC.out.keep HX2.out HZ2.out) 2 _ rfl; have r3 := (HBC.out.keep HX2.out HZ2.out) 3 _ rfl; have r4 := (HBC.out.keep HX2.out HZ2.out) 4 _ rfl; have r5 := (HBC.out.keep HX2.out HZ2.out) 5 _ rfl; have r6 := (HBC.out.keep HX2.out HZ2.out) 6 _ rfl; clear hb) | (go_at_call 25; (with_reducible refine (iwMethods_is HS3 HB2 HX2 D3).mono ?_); rintro e w' ⟨rfl, hb⟩; have HX2 := Lib.hid (HX2.out.trans (hb.mono HX2.out.size)); have r0 := (HBC.out.keep HX2.out HZ2.out) 0 _ rfl; have r1 := (HBC.out.keep HX2.out HZ2.out) 1 _ rfl; have r2 := (HBC.out.keep HX2.out HZ2.out) 2 _ rfl; have r3 := (HBC.out.keep HX2.out HZ2.out) 3 _ rfl; have r4 := (HBC.out.keep HX2.out HZ2.out) 4 _ rfl; have r5 := (HBC.out.keep HX2.out HZ2.out) 5 _ rfl; have r6 := (HBC.out.keep HX2.out HZ2.out) 6 _ rfl; clear hb) | (go_at_call 27; (with_reducible refine (iwNums_is HS4 HB2 HX2 D4).mono ?_); rintro e w' ⟨rfl, hb⟩; have HX2 := Lib.hid (HX2.out.trans (hb.mono HX2.out.size)); have r0 := (HBC.out.keep HX2.out HZ2.out) 0 _ rfl; have r1 := (HBC.out.keep HX2.out HZ2.out) 1 _ rfl; have r2 := (HBC.out.keep HX2.out HZ2.out) 2 _ rfl; have r3 := (HBC.out.keep HX2.out HZ2.out) 3 _ rfl; have r4 := (HBC.out.keep HX2.out HZ2.out) 4 _ rfl; have r5 := (HBC.out.keep HX2.out HZ2.out) 5 _ rfl; have r6 := (HBC.out.keep HX2.out HZ2.out) 6 _ rfl; clear hb) | (go_at_call 29; (with_reducible refine (iupto_is D5).mono ?_); rintro e w' ⟨rfl, hb⟩; have HX2 := Lib.hid (HX2.out.trans (hb.mono HX2.out.size)); have r0 := (HBC.out.keep HX2.out HZ2.out) 0 _ rfl; have r1 := (HBC.out.keep HX2.out HZ2.out) 1 _ rfl; have r2 := (HBC.out.keep HX2.out HZ2.out) 2 _ rfl; have r3 := (HBC.out.keep HX2.out HZ2.out) 3 _ rfl; have r4 := (HBC.out.keep HX2.out HZ2.out) 4 _ rfl; have r5 := (HBC.out.keep HX2.out HZ2.out) 5 _ rfl; have r6 := (HBC.out.keep HX2.out HZ2.out) 6 _ rfl; clear hb) | (go_at_call 29; (with_reducible refine (iupto_is D6).mono ?_); rintro e w' ⟨rfl, hb⟩; have HX2 := Lib.hid (HX2.out.trans (hb.mono HX2.out.size)); have r0 := (HBC.out.keep HX2.out HZ2.out) 0 _ rfl; have r1 := (HBC.out.keep HX2.out HZ2.out) 1 _ rfl; have r2 := (HBC.out.keep HX2.out HZ2.out) 2 _ rfl; have r3 := (HBC.out.keep HX2.out HZ2.out) 3 _ rfl; have r4 := (HBC.out.keep HX2.out HZ2.out) 4 _ rfl; have r5 := (HBC.out.keep HX2.out HZ2.out) 5 _ rfl; have r6 := (HBC.out.keep HX2.out HZ2.out) 6 _ rfl; clear hb))
      go_ret
      exact ⟨by rw [E.out]; first | rfl | simp [*], HW.out.trans (HX2.out.mono HW.out.size)⟩
    · by_cases c2 : (m.ints.length : Int) ≤ 16
      · cases d3
        · go_wp2_with (first | (go_at_call 21; (with_reducible refine (iwClasses_is HS0 HB2 HX2 D0).mono ?_); rintro e w' ⟨rfl, hb⟩; have HX2 := Lib.hid (HX2.out.trans (hb.mono HX2.out.size)); have r0 := (HBC.out.keep HX2.out HZ2.out) 0 _ rfl; have r1 := (HBC.out.keep HX2.out HZ2.out) 1 _ rfl; have r2 := (HBC.out.keep HX2.out HZ2.out) 2 _ rfl; have r3 := (HBC.out.keep HX2.out HZ2.out) 3 _ rfl; have r4 := (HBC.out.keep HX2.out HZ2.out) 4 _ rfl; have r5 := (HBC.out.keep HX2.out HZ2.out) 5 _ rfl; have r6 := (HBC.out.keep HX2.out HZ2.out) 6 _ rfl; clear hb) | (go_at_call 23; (with_reducible refine (iwTypes_is HS1 HB2 HX2 D1).mono ?_); rintro e w' ⟨rfl, hb⟩; have HX2 := Lib.hid (HX2.out.trans (hb.mono HX2.out.size)); have r0 := (HBC.out.keep HX2.out HZ2.out) 0 _ rfl; have r1 := (HBC.out.keep HX2.out HZ2.out) 1 _ rfl; have r2 := (HBC.out.keep HX2.out HZ2.out) 2 _ rfl; have r3 := (HBC.out.keep HX2.out HZ2.out) 3 _ rfl; have r4 := (HBC.out.keep HX2.out HZ2.out) 4 _ rfl; have r5 := (HBC.out.keep HX2.out HZ2.out) 5 _ rfl; have r6 := (HBC.out.keep HX2.out HZ2.out) 6 _ rfl; clear hb) | (go_at_call 25; (with_reducible refine (iwMethods_is HS3 HB2 HX2 D3).mono ?_); rintro e w' ⟨rfl, hb⟩; have HX2 := Lib.hid (HX2.out.trans (hb.mono HX2.out.size)); have r0 := (HBC.out.keep HX2.out HZ2.out) 0 _ rfl; have r1 := (HBC.out.keep HX2.out HZ2.out) 1 _ rfl; have r2 := (HBC.out.keep HX2.out HZ2.out) 2 _ rfl; have r3 := (HBC.out.keep HX2.out HZ2.out) 3 _ rfl; have r4 := (HBC.out.keep HX2.out HZ2.out) 4 _ rfl; have r5 := (HBC.out.keep HX2.out HZ2.out) 5 _ rfl; have r6 := (HBC.out.keep HX2.out HZ2.out) 6 _ rfl; clear hb) | (go_at_call 27; (with_reducible refine (iwNums_is HS4 HB2 HX2 D4).mono ?_); rintro e w' ⟨rfl, hb⟩; have HX2 := Lib.hid (HX2.out.trans (hb.mono HX2.out.size)); have r0 := (HBC.out.keep HX2.out HZ2.out) 0 _ rfl; have r1 := (HBC.out.keep HX2.out HZ2.out) 1 _ rfl; have r2 := (HBC.out.keep HX2.out HZ2.out) 2 _ rfl; have r3 := (HBC.out.keep HX2.out HZ2.out) 3 _ rfl; have r4 := (HBC.out.keep HX2.out HZ2.out) 4 _ rfl; have r5 := (HBC.out.keep HX2.out HZ2.out) 5 _ rfl; have r6 := (HBC.out.keep HX2.out HZ2.out) 6 _ rfl; clear hb) | (go_at_call 29; (with_reducible refine (iupto_is D5).mono ?_); rintro e w' ⟨rfl, hb⟩; have HX2 := Lib.hid (HX2.out.trans (hb.mono HX2.out.size)); have r0 := (HBC.out.keep HX2.out HZ2.out) 0 _ rfl; have r1 := (HBC.out.keep HX2.out HZ2.out) 1 _ rfl; have r2 := (HBC.out.keep HX2.out HZ2.out) 2 _ rfl; have r3 := (HBC.out.keep HX2.out HZ2.out) 3 _ rfl; have r4 := (HBC.out.keep HX2.out HZ2.out) 4 _ rfl; have r5 := (HBC.out.keep HX2.out HZ2.out) 5 _ rfl; have r6 := (HBC.out.keep HX2.out HZ2.out) 6 _ rfl; clear hb) | (go_at_call 29; (with_reducible refine (iupto_is D6).mono ?_); rintro e w' ⟨rfl, hb⟩; have HX2 := Lib.hid (HX2.out.trans (hb.mono HX2.out.size)); have r0 := (HBC.out.keep HX2.out HZ2.out) 0 _ rfl; have r1 := (HBC.out.keep HX2.out HZ2.out) 1 _ rfl; have r2 := (HBC.out.keep HX2.out HZ2.out) 2 _ rfl; have r3 := (HBC.out.keep HX2.out HZ2.out) 3 _ rfl; have r4 := (HBC.out.keep HX2.out HZ2.out) 4 _ rfl; have r5 := (HBC.out.keep HX2.out HZ2.out) 5 _ rfl; have r6 := (HBC.out.keep HX2.out HZ2.out) 6 _ rfl; clear hb))
          go_ret
          exact ⟨by rw [E.out]; first | rfl | simp [*], HW.out.trans (HX2.out.mono HW.out.size)⟩
        · cases d4
          · go_wp2_with (first | (go_at_call 21; (with_reducible refine (iwClasses_is HS0 HB2 HX2 D0).mono ?_); rintro e w' ⟨rfl, hb⟩; have HX2 := Lib.hid (HX2.out.trans (hb.mono HX2.out.size)); have r0 := (HBC.out.keep HX2.out HZ2.out) 0 _ rfl; have r1 := (HBC.out.keep HX2.out HZ2.out) 1 _ rfl; have r2 := (HBC.out.keep HX2.out HZ2.out) 2 _ rfl; have r3 := (HBC.out.keep HX2.out HZ2.out) 3 _ rfl; have r4 := (HBC.out.keep HX2.out HZ2.out) 4 _ rfl; have r5 := (HBC.out.keep HX2.out HZ2.out) 5 _ rfl; have r6 := (HBC.out.keep HX2.out HZ2.out) 6 _ rfl; clear hb) | (go_at_call 23; (with_reducible refine (iwTypes_is HS1 HB2 HX2 D1).mono ?_); rintro e w' ⟨rfl, hb⟩; have HX2 := Lib.hid (HX2.out.trans (hb.mono HX2.out.size)); have r0 := (HBC.out.keep HX2.out HZ2.out) 0 _ rfl; have r1 := (HBC.out.keep HX2.out HZ2.out) 1 _ rfl; have r2 := (HBC.out.keep HX2.out HZ2.out) 2 _ rfl; have r3 := (HBC.out.keep HX2.out HZ2.out) 3 _ rfl; have r4 := (HBC.out.keep HX2.out HZ2.out) 4 _ rfl; have r5 := (HBC.out.keep HX2.out HZ2.out) 5 _ rfl; have r6 := (HBC.out.keep HX2.out HZ2.out) 6 _ rfl; clear hb) | (go_at_call 25; (with_reducible refine (iwMethods_is HS3 HB2 HX2 D3).mono ?_); rintro e w' ⟨rfl, hb⟩; have HX2 := Lib.hid (HX2.out.trans (hb.mono HX2.out.size)); have r0 := (HBC.out.keep HX2.out HZ2.out) 0 _ rfl; have r1 := (HBC.out.keep HX2.out HZ2.out) 1 _ rfl; have r2 := (HBC.out.keep HX2.out HZ2.out) 2 _ rfl; have r3 := (HBC.out.keep HX2.out HZ2.out) 3 _ rfl; have r4 := (HBC.out.keep HX2.out HZ2.out) 4 _ rfl; have r5 := (HBC.out.keep HX2.out HZ2.out) 5 _ rfl; have r6 := (HBC.out.keep HX2.out HZ2.out) 6 _ rfl; clear hb) | (go_at_call 27; (with_reducible refine (iwNums_is HS4 HB2 HX2 D4).mono ?_); rintro e w' ⟨rfl, hb⟩; have HX2 := Lib.hid (HX2.out.trans (hb.mono HX2.out.size)); have r0 := (HBC.out.keep HX2.out HZ2.out) 0 _ rfl; have r1 := (HBC.out.keep HX2.out HZ2.out) 1 _ rfl; have r2 := (HBC.out.keep HX2.out HZ2.out) 2 _ rfl; have r3 := (HBC.out.keep HX2.out HZ2.out) 3 _ rfl; have r4 := (HBC.out.keep HX2.out HZ2.out) 4 _ rfl; have r5 := (HBC.out.keep HX2.out HZ2.out) 5 _ rfl; have r6 := (HBC.out.keep HX2.out HZ2.out) 6 _ rfl; clear hb) | (go_at_call 29; (with_reducible refine (iupto_is D5).mono ?_); rintro e w' ⟨rfl, hb⟩; have HX2 := Lib.hid (HX2.out.trans (hb.mono HX2.out.size)); have r0 := (HBC.out.keep HX2.out HZ2.out) 0 _ rfl; have r1 := (HBC.out.keep HX2.out HZ2.out) 1 _ rfl; have r2 := (HBC.out.keep HX2.out HZ2.out) 2 _ rfl; have r3 := (HBC.out.keep HX2.out HZ2.out) 3 _ rfl; have r4 := (HBC.out.keep HX2.out HZ2.out) 4 _ rfl; have r5 := (HBC.out.keep HX2.out HZ2.out) 5 _ rfl; have r6 := (HBC.out.keep HX2.out HZ2.out) 6 _ rfl; clear hb) | (go_at_call 29; (with_reducible refine (iupto_is D6).mono ?_); rintro e w' ⟨rfl, hb⟩; have HX2 := Lib.hid (HX2.out.trans (hb.mono HX2.out.size)); have r0 := (HBC.out.keep HX2.out HZ2.out) 0 _ rfl; have r1 := (HBC.out.keep HX2.out HZ2.out) 1 _ rfl; have r2 := (HBC.out.keep HX2.out HZ2.out) 2 _ rfl; have r3 := (HBC.out.keep HX2.out HZ2.out) 3 _ rfl; have r4 := (HBC.out.keep HX2.out HZ2.out) 4 _ rfl; have r5 := (HBC.out.keep HX2.out HZ2.out) 5 _ rfl; have r6 := (HBC.out.keep HX2.out HZ2.out) 6 _ rfl; clear hb))
            go_ret
            exact ⟨by rw [E.out]; first | rfl | simp [*], HW.out.trans (HX2.out.mono HW.out.size)⟩
          · cases d5
            · go_wp2_with (first | (go_at_call 21; (with_reducible refine (iwClasses_is HS0 HB2 HX2 D0).mono ?_); rintro e w' ⟨rfl, hb⟩; have HX2 := Lib.hid (HX2.out.trans (hb.mono HX2.out.size)); have r0 := (HBC.out.keep HX2.out HZ2.out) 0 _ rfl; have r1 := (HBC.out.keep HX2.out HZ2.out) 1 _ rfl; have r2 := (HBC.out.keep HX2.out HZ2.out) 2 _ rfl; have r3 := (HBC.out.keep HX2.out HZ2.out) 3 _ rfl; have r4 := (HBC.out.keep HX2.out HZ2.out) 4 _ rfl; have r5 := (HBC.out.keep HX2.out HZ2.out) 5 _ rfl; have r6 := (HBC.out.keep HX2.out HZ2.out) 6 _ rfl; clear hb) | (go_at_call 23; (with_reducible refine (iwTypes_is HS1 HB2 HX2 D1).mono ?_); rintro e w' ⟨rfl, hb⟩; have HX2 := Lib.hid (HX2.out.trans (hb.mono HX2.out.size)); have r0 := (HBC.out.keep HX2.out HZ2.out) 0 _ rfl; have r1 := (HBC.out.keep HX2.out HZ2.out) 1 _ rfl; have r2 := (HBC.out.keep HX2.out HZ2.out) 2 _ rfl; have r3 := (HBC.out.keep HX2.out HZ2.out) 3 _ rfl; have r4 := (HBC.out.keep HX2.out HZ2.out) 4 _ rfl; have r5 := (HBC.out.keep HX2.out HZ2.out) 5 _ rfl; have r6 := (HBC.out.keep HX2.out HZ2.out) 6 _ rfl; clear hb) | (go_at_call 25; (with_reducible refine (iwMethods_is HS3 HB2 HX2 D3).mono ?_); rintro e w' ⟨rfl, hb⟩; have HX2 := Lib.hid (HX2.out.trans (hb.mono HX2.out.size)); have r0 := (HBC.out.keep HX2.out HZ2.out) 0 _ rfl; have r1 := (HBC.out.keep HX2.out HZ2.out) 1 _ rfl; have r2 := (HBC.out.keep HX2.out HZ2.out) 2 _ rfl; have r3 := (HBC.out.keep HX2.out HZ2.out) 3 _ rfl; have r4 := (HBC.out.keep HX2.out HZ2.out) 4 _ rfl; have r5 := (HBC.out.keep HX2.out HZ2.out) 5 _ rfl; have r6 := (HBC.out.keep HX2.out HZ2.out) 6 _ rfl; clear hb) | (go_at_call 27; (with_reducible refine (iwNums_is HS4 HB2 HX2 D4).mono ?_); rintro e w' ⟨rfl, hb⟩; have HX2 := Lib.hid (HX2.out.trans (hb.mono HX2.out.size)); have r0 := (HBC.out.keep HX2.out HZ2.out) 0 _ rfl; have r1 := (HBC.out.keep HX2.out HZ2.out) 1 _ rfl; have r2 := (HBC.out.keep HX2.out HZ2.out) 2 _ rfl; have r3 := (HBC.out.keep HX2.out HZ2.out) 3 _ rfl; have r4 := (HBC.out.keep HX2.out HZ2.out) 4 _ rfl; have r5 := (HBC.out.keep HX2.out HZ2.out) 5 _ rfl; have r6 := (HBC.out.keep HX2.out HZ2.out) 6 _ rfl; clear hb) | (go_at_call 29; (with_reducible refine (iupto_is D5).mono ?_); rintro e w' ⟨rfl, hb⟩; have HX2 := Lib.hid (HX2.out.trans (hb.mono HX2.out.size)); have r0 := (HBC.out.keep HX2.out HZ2.out) 0 _ rfl; have r1 := (HBC.out.keep HX2.out HZ2.out) 1 _ rfl; have r2 := (HBC.out.keep HX2.out HZ2.out) 2 _ rfl; have r3 := (HBC.out.keep HX2.out HZ2.out) 3 _ rfl; have r4 := (HBC.out.keep HX2.out HZ2.out) 4 _ rfl; have r5 := (HBC.out.keep HX2.out HZ2.out) 5 _ rfl; have r6 := (HBC.out.keep HX2.out HZ2.out) 6 _ rfl; clear hb) | (go_at_call 29; (with_reducible refine (iupto_is D6).mono ?_); rintro e w' ⟨rfl, hb⟩; have HX2 := Lib.hid (HX2.out.trans (hb.mono HX2.out.size)); have r0 := (HBC.out.keep HX2.out HZ2.out) 0 _ rfl; have r1 := (HBC.out.keep HX2.out HZ2.out) 1 _ rfl; have r2 := (HBC.out.keep HX2.out HZ2.out) 2 _ rfl; have r3 := (HBC.out.keep HX2.out HZ2.out) 3 _ rfl; have r4 := (HBC.out.keep HX2.out HZ2.out) 4 _ rfl; have r5 := (HBC.out.keep HX2.out HZ2.out) 5 _ rfl; have r6 := (HBC.out.keep HX2.out HZ2.out) 6 _ rfl; clear hb))
              go_ret
              exact ⟨by rw [E.out]; first | rfl | simp [*], HW.out.trans (HX2.out.mono HW.out.size)⟩
            · cases d6
              · go_wp2_with (first | (go_at_call 21; (with_reducible refine (iwClasses_is HS0 HB2 HX2 D0).mono ?_); rintro e w' ⟨rfl, hb⟩; have HX2 := Lib.hid (HX2.out.trans (hb.mono HX2.out.size)); have r0 := (HBC.out.keep HX2.out HZ2.out) 0 _ rfl; have r1 := (HBC.out.keep HX2.out HZ2.out) 1 _ rfl; have r2 := (HBC.out.keep HX2.out HZ2.out) 2 _ rfl; have r3 := (HBC.out.keep HX2.out HZ2.out) 3 _ rfl; have r4 := (HBC.out.keep HX2.out HZ2.out) 4 _ rfl; have r5 := (HBC.out.keep HX2.out HZ2.out) 5 _ rfl; have r6 := (HBC.out.keep HX2.out HZ2.out) 6 _ rfl; clear hb) | (go_at_call 23; (with_reducible refine (iwTypes_is HS1 HB2 HX2 D1).mono ?_); rintro e w' ⟨rfl, hb⟩; have HX2 := Lib.hid (HX2.out.trans (hb.mono HX2.out.size)); have r0 := (HBC.out.keep HX2.out HZ2.out) 0 _ rfl; have r1 := (HBC.out.keep HX2.out HZ2.out) 1 _ rfl; have r2 := (HBC.out.keep HX2.out HZ2.out) 2 _ rfl; have r3 := (HBC.out.keep HX2.out HZ2.out) 3 _ rfl; have r4 := (HBC.out.keep HX2.out HZ2.out) 4 _ rfl; have r5 := (HBC.out.keep HX2.out HZ2.out) 5 _ rfl; have r6 := (HBC.out.keep HX2.out HZ2.out) 6 _ rfl; clear hb) | (go_at_call 25; (with_reducible refine (iwMethods_is HS3 HB2 HX2 D3).mono ?_); rintro e w' ⟨rfl, hb⟩; have HX2 := Lib.hid (HX2.out.trans (hb.mono HX2.out.size)); have r0 := (HBC.out.keep HX2.out HZ2.out) 0 _ rfl; have r1 := (HBC.out.keep HX2.out HZ2.out) 1 _ rfl; have r2 := (HBC.out.keep HX2.out HZ2.out) 2 _ rfl; have r3 := (HBC.out.keep HX2.out HZ2.out) 3 _ rfl; have r4 := (HBC.out.keep HX2.out HZ2.out) 4 _ rfl; have r5 := (HBC.out.keep HX2.out HZ2.out) 5 _ rfl; have r6 := (HBC.out.keep HX2.out HZ2.out) 6 _ rfl; clear hb) | (go_at_call 27; (with_reducible refine (iwNums_is HS4 HB2 HX2 D4).mono ?_); rintro e w' ⟨rfl, hb⟩; have HX2 := Lib.hid (HX2.out.trans (hb.mono HX2.out.size)); have r0 := (HBC.out.keep HX2.out HZ2.out) 0 _ rfl; have r1 := (HBC.out.keep HX2.out HZ2.out) 1 _ rfl; have r2 := (HBC.out.keep HX2.out HZ2.out) 2 _ rfl; have r3 := (HBC.out.keep HX2.out HZ2.out) 3 _ rfl; have r4 := (HBC.out.keep HX2.out HZ2.out) 4 _ rfl; have r5 := (HBC.out.keep HX2.out HZ2.out) 5 _ rfl; have r6 := (HBC.out.keep HX2.out HZ2.out) 6 _ rfl; clear hb) | (go_at_call 29; (with_reducible refine (iupto_is D5).mono ?_); rintro e w' ⟨rfl, hb⟩; have HX2 := Lib.hid (HX2.out.trans (hb.mono HX2.out.size)); have r0 := (HBC.out.keep HX2.out HZ2.out) 0 _ rfl; have r1 := (HBC.out.keep HX2.out HZ2.out) 1 _ rfl; have r2 := (HBC.out.keep HX2.out HZ2.out) 2 _ rfl; have r3 := (HBC.out.keep HX2.out HZ2.out) 3 _ rfl; have r4 := (HBC.out.keep HX2.out HZ2.out) 4 _ rfl; have r5 := (HBC.out.keep HX2.out HZ2.out) 5 _ rfl; have r6 := (HBC.out.keep HX2.out HZ2.out) 6 _ rfl; clear hb) | (go_at_call 29; (with_reducible refine (iupto_is D6).mono ?_); rintro e w' ⟨rfl, hb⟩; have HX2 := Lib.hid (HX2.out.trans (hb.mono HX2.out.size)); have r0 := (HBC.out.keep HX2.out HZ2.out) 0 _ rfl; have r1 := (HBC.out.keep HX2.out HZ2.out) 1 _ rfl; have r2 := (HBC.out.keep HX2.out HZ2.out) 2 _ rfl; have r3 := (HBC.out.keep HX2.out HZ2.out) 3 _ rfl; have r4 := (HBC.out.keep HX2.out HZ2.out) 4 _ rfl; have r5 := (HBC.out.keep HX2.out HZ2.out) 5 _ rfl; have r6 := (HBC.out.keep HX2.out HZ2.out) 6 _ rfl; clear hb))
                go_ret
                exact ⟨by rw [E.out]; first | rfl | simp [*], HW.out.trans (HX2.out.mono HW.out.size)⟩
              · go_wp2_with (first | (go_at_call 21; (with_reducible refine (iwClasses_is HS0 HB2 HX2 D0).mono ?_); rintro e w' ⟨rfl, hb⟩; have HX2 := Lib.hid (HX2.out.trans (hb.mono HX2.out.size)); have r0 := (HBC.out.keep HX2.out HZ2.out) 0 _ rfl; have r1 := (HBC.out.keep HX2.out HZ2.out) 1 _ rfl; have r2 := (HBC.out.keep HX2.out HZ2.out) 2 _ rfl; have r3 := (HBC.out.keep HX2.out HZ2.out) 3 _ rfl; have r4 := (HBC.out.keep HX2.out HZ2.out) 4 _ rfl; have r5 := (HBC.out.keep HX2.out HZ2.out) 5 _ rfl; have r6 := (HBC.out.keep HX2.out HZ2.out) 6 _ rfl; clear hb) | (go_at_call 23; (with_reducible refine (iwTypes_is HS1 HB2 HX2 D1).mono ?_); rintro e w' ⟨rfl, hb⟩; have HX2 := Lib.hid (HX2.out.trans (hb.mono HX2.out.size)); have r0 := (HBC.out.keep HX2.out HZ2.out) 0 _ rfl; have r1 := (HBC.out.keep HX2.out HZ2.out) 1 _ rfl; have r2 := (HBC.out.keep HX2.out HZ2.out) 2 _ rfl; have r3 := (HBC.out.keep HX2.out HZ2.out) 3 _ rfl; have r4 := (HBC.out.keep HX2.out HZ2.out) 4 _ rfl; have r5 := (HBC.out.keep HX2.out HZ2.out) 5 _ rfl; have r6 := (HBC.out.keep HX2.out HZ2.out) 6 _ rfl; clear hb) | (go_at_call 25; (with_reducible refine (iwMethods_is HS3 HB2 HX2 D3).mono ?_); rintro e w' ⟨rfl, hb⟩; have HX2 := Lib.hid (HX2.out.trans (hb.mono HX2.out.size)); have r0 := (HBC.out.keep HX2.out HZ2.out) 0 _ rfl; have r1 := (HBC.out.keep HX2.out HZ2.out) 1 _ rfl; have r2 := (HBC.out.keep HX2.out HZ2.out) 2 _ rfl; have r3 := (HBC.out.keep HX2.out HZ2.out) 3 _ rfl; have r4 := (HBC.out.keep HX2.out HZ2.out) 4 _ rfl; have r5 := (HBC.out.keep HX2.out HZ2.out) 5 _ rfl; have r6 := (HBC.out.keep HX2.out HZ2.out) 6 _ rfl; clear hb) | (go_at_call 27; (with_reducible refine (iwNums_is HS4 HB2 HX2 D4).mono ?_); rintro e w' ⟨rfl, hb⟩; have HX2 := Lib.hid (HX2.out.trans (hb.mono HX2.out.size)); have r0 := (HBC.out.keep HX2.out HZ2.out) 0 _ rfl; have r1 := (HBC.out.keep HX2.out HZ2.out) 1 _ rfl; have r2 := (HBC.out.keep HX2.out HZ2.out) 2 _ rfl; have r3 := (HBC.out.keep HX2.out HZ2.out) 3 _ rfl; have r4 := (HBC.out.keep HX2.out HZ2.out) 4 _ rfl; have r5 := (HBC.out.keep HX2.out HZ2.out) 5 _ rfl; have r6 := (HBC.out.keep HX2.out HZ2.out) 6 _ rfl; clear hb) | (go_at_call 29; (with_reducible refine (iupto_is D5).mono ?_); rintro e w' ⟨rfl, hb⟩; have HX2 := Lib.hid (HX2.out.trans (hb.mono HX2.out.size)); have r0 := (HBC.out.keep HX2.out HZ2.out) 0 _ rfl; have r1 := (HBC.out.keep HX2.out HZ2.out) 1 _ rfl; have r2 := (HBC.out.keep HX2.out HZ2.out) 2 _ rfl; have r3 := (HBC.out.keep HX2.out HZ2.out) 3 _ rfl; have r4 := (HBC.out.keep HX2.out HZ2.out) 4 _ rfl; have r5 := (HBC.out.keep HX2.out HZ2.out) 5 _ rfl; have r6 := (HBC.out.keep HX2.out HZ2.out) 6 _ rfl; clear hb) | (go_at_call 29; (with_reducible refine (iupto_is D6).mono ?_); rintro e w' ⟨rfl, hb⟩; have HX2 := Lib.hid (HX2.out.trans (hb.mono HX2.out.size)); have r0 := (HBC.out.keep HX2.out HZ2.out) 0 _ rfl; have r1 := (HBC.out.keep HX2.out HZ2.out) 1 _ rfl; have r2 := (HBC.out.keep HX2.out HZ2.out) 2 _ rfl; have r3 := (HBC.out.keep HX2.out HZ2.out) 3 _ rfl; have r4 := (HBC.out.keep HX2.out HZ2.out) 4 _ rfl; have r5 := (HBC.out.keep HX2.out HZ2.out) 5 _ rfl; have r6 := (HBC.out.keep HX2.out HZ2.out) 6 _ rfl; clear hb))
                go_ret
                exact ⟨by rw [E.out]; first | rfl | simp [*], HW.out.trans (HX2.out.mono HW.out.size)⟩
      · go_wp2_with (first | (go_at_call 21; (with_reducible refine (iwClasses_is HS0 HB2 HX2 D0).mono ?_); rintro e w' ⟨rfl, hb⟩; have HX2 := Lib.hid (HX2.out.trans (hb.mono HX2.out.size)); have r0 := (HBC.out.keep HX2.out HZ2.out) 0 _ rfl; have r1 := (HBC.out.keep HX2.out HZ2.out) 1 _ rfl; have r2 := (HBC.out.keep HX2.out HZ2.out) 2 _ rfl; have r3 := (HBC.out.keep HX2.out HZ2.out) 3 _ rfl; have r4 := (HBC.out.keep HX2.out HZ2.out) 4 _ rfl; have r5 := (HBC.out.keep HX2.out HZ2.out) 5 _ rfl; have r6 := (HBC.out.keep HX2.out HZ2.out) 6 _ rfl; clear hb) | (go_at_call 23; (with_reducible refine (iwTypes_is HS1 HB2 HX2 D1).mono ?_); rintro e w' ⟨rfl, hb⟩; have HX2 := Lib.hid (HX2.out.trans (hb.mono HX2.out.size)); have r0 := (HBC.out.keep HX2.out HZ2.out) 0 _ rfl; have r1 := (HBC.out.keep HX2.out HZ2.out) 1 _ rfl; have r2 := (HBC.out.keep HX2.out HZ2.out) 2 _ rfl; have r3 := (HBC.out.keep HX2.out HZ2.out) 3 _ rfl; have r4 := (HBC.out.keep HX2.out HZ2.out) 4 _ rfl; have r5 := (HBC.out.keep HX2.out HZ2.out) 5 _ rfl; have r6 := (HBC.out.keep HX2.out HZ2.out) 6 _ rfl; clear hb) | (go_at_call 25; (with_reducible refine (iwMethods_is HS3 HB2 HX2 D3).mono ?_); rintro e w' ⟨rfl, hb⟩; have HX2 := Lib.hid (HX2.out.trans (hb.mono HX2.out.size)); have r0 := (HBC.out.keep HX2.out HZ2.out) 0 _ rfl; have r1 := (HBC.out.keep HX2.out HZ2.out) 1 _ rfl; have r2 := (HBC.out.keep HX2.out HZ2.out) 2 _ rfl; have r3 := (HBC.out.keep HX2.out HZ2.out) 3 _ rfl; have r4 := (HBC.out.keep HX2.out HZ2.out) 4 _ rfl; have r5 := (HBC.out.keep HX2.out HZ2.out) 5 _ rfl; have r6 := (HBC.out.keep HX2.out HZ2.out) 6 _ rfl; clear hb) | (go_at_call 27; (with_reducible refine (iwNums_is HS4 HB2 HX2 D4).mono ?_); rintro e w' ⟨rfl, hb⟩; have HX2 := Lib.hid (HX2.out.trans (hb.mono HX2.out.size)); have r0 := (HBC.out.keep HX2.out HZ2.out) 0 _ rfl; have r1 := (HBC.out.keep HX2.out HZ2.out) 1 _ rfl; have r2 := (HBC.out.keep HX2.out HZ2.out) 2 _ rfl; have r3 := (HBC.out.keep HX2.out HZ2.out) 3 _ rfl; have r4 := (HBC.out.keep HX2.out HZ2.out) 4 _ rfl; have r5 := (HBC.out.keep HX2.out HZ2.out) 5 _ rfl; have r6 := (HBC.out.keep HX2.out HZ2.out) 6 _ rfl; clear hb) | (go_at_call 29; (with_reducible refine (iupto_is D5).mono ?_); rintro e w' ⟨rfl, hb⟩; have HX2 := Lib.hid (HX2.out.trans (hb.mono HX2.out.size)); have r0 := (HBC.out.keep HX2.out HZ2.out) 0 _ rfl; have r1 := (HBC.out.keep HX2.out HZ2.out) 1 _ rfl; have r2 := (HBC.out.keep HX2.out HZ2.out) 2 _ rfl; have r3 := (HBC.out.keep HX2.out HZ2.out) 3 _ rfl; have r4 := (HBC.out.keep HX2.out HZ2.out) 4 _ rfl; have r5 := (HBC.out.keep HX2.out HZ2.out) 5 _ rfl; have r6 := (HBC.out.keep HX2.out HZ2.out) 6 _ rfl; clear hb) | (go_at_call 29; (with_reducible refine (iupto_is D6).mono ?_); rintro e w' ⟨rfl, hb⟩; have HX2 := Lib.hid (HX2.out.trans (hb.mono HX2.out.size)); have r0 := (HBC.out.keep HX2.out HZ2.out) 0 _ rfl; have r1 := (HBC.out.keep HX2.out HZ2.out) 1 _ rfl; have r2 := (HBC.out.keep HX2.out HZ2.out) 2 _ rfl; have r3 := (HBC.out.keep HX2.out HZ2.out) 3 _ rfl; have r4 := (HBC.out.keep HX2.out HZ2.out) 4 _ rfl; have r5 := (HBC.out.keep HX2.out HZ2.out) 5 _ rfl; have r6 := (HBC.out.keep HX2.out HZ2.out) 6 _ rfl; clear hb))
        go_ret
        exact ⟨by rw [E.out]; rw [decide_eq_false (p := (m.ints.length : Int) ≤ 16) (by omega)]; first | rfl | simp, HW.out.trans (HX2.out.mono HW.out.size)⟩
end Go.Proofs.Ytjgfoialajgfhaa
