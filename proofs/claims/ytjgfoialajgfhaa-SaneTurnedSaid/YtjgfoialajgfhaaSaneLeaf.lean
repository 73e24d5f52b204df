/-
  What the small parts of the program's own sane come to: places, resultGood, allGood, supersNamed, counter and what it makes, slotsAbove, calledAlike.
-/
import Derived.Test.YtjgfoialajgfhaaSaneMath
import Derived.Test.YtjgfoialajgfhaaKindSub
import Derived.Test.YtjgfoialajgfhaaEqTypes
namespace Go.Proofs.Ytjgfoialajgfhaa
set_option maxRecDepth 100000
set_option linter.unusedVariables false
set_option linter.unusedSimpArgs false
open Go.ChangeShapes Go.WideShapes Go.ChangeAt Go.RowKit
set_option linter.unusedVariables false
set_option linter.unusedSimpArgs false

theorem splaces_any (x : Mth) (hx : MHnd) (w : World) (ha : x.args.length ≤ 1000) (hl : x.locals.length ≤ 1000) :
    Calls Try.prog 51 #[mthV hx x] w fun e w' => e = .returned (.int .i64 ((x.args.length : Int) + (x.locals.length : Int))) ∧ Below w.heap.size w w' := by
  go_enter Try.func51, Try.ntmps51
  go_wp2
  go_ret
  exact ⟨rfl, (Below.refl _ _).alloc (Nat.le_refl _) _⟩

theorem sresult_any (k n c : Int) (w : World) : Calls Try.prog 45 #[tyV k n, .int .i64 c] w fun e w' => e = .returned (.bool (retB (k, n) c)) ∧ Below w.heap.size w w' := by
  have HW := Lib.hid ((Below.refl w.heap.size w).alloc (Nat.le_refl _) (.cells #[.int .i64 k, .int .i64 n] 35))
  have c0 : ∀ w', Below (w.alloc (.cells #[.int .i64 k, .int .i64 n] 35)).heap.size (w.alloc (.cells #[.int .i64 k, .int .i64 n] 35)) w' → w'.cell? ⟨w.heap.size, 0, none⟩ = some (.int .i64 k) ∧ w'.cell? ⟨w.heap.size, 1, none⟩ = some (.int .i64 n) := fun w' hb =>
    ⟨(hb.cell (p := ⟨w.heap.size, 0, none⟩) (by simp)).trans (by rw [World.cell?_alloc_at _ _ _ _ rfl]; rfl), (hb.cell (p := ⟨w.heap.size, 1, none⟩) (by simp)).trans (by rw [World.cell?_alloc_at _ _ _ _ rfl]; rfl)⟩
  have C0 := Lib.hid c0
  clear c0
  obtain ⟨r, hr⟩ : ∃ r, goodB k n c = r := ⟨_, rfl⟩
  have R := Lib.hid hr
  have E := Lib.hid (show retB (k, n) c = (decide (k = 5 ∧ n = 0) || r) by rw [← hr]; unfold retB; rw [Bool.eq_iff_iff]; simp)
  clear hr
  cases r
  · by_cases h5 : k = 5 ∧ n = 0
    · obtain ⟨rfl, rfl⟩ := h5
      go_enter Try.func45, Try.ntmps45
      go_wp2_with (go_at_call 59; (with_reducible refine (kgood_any _ _ _ _).mono ?_); rintro e w' ⟨he, hb⟩; rw [R.out] at he; subst he; obtain ⟨q0, q1⟩ := C0.out _ hb)
      go_ret
      exact ⟨by rw [E.out]; rfl, HW.out.trans (hb.mono HW.out.size)⟩
    · have E2 := Lib.hid (show retB (k, n) c = false by rw [E.out, decide_eq_false h5]; rfl)
      have hxx : ¬ k = 5 ∨ (k = 5 ∧ ¬ n = 0) := by omega
      clear h5
      rcases hxx with hxx | ⟨rfl, hxx⟩
      all_goals
        go_enter Try.func45, Try.ntmps45
        go_wp2_with (go_at_call 59; (with_reducible refine (kgood_any _ _ _ _).mono ?_); rintro e w' ⟨he, hb⟩; rw [R.out] at he; subst he; obtain ⟨q0, q1⟩ := C0.out _ hb)
        go_ret
        exact ⟨by rw [E2.out]; rfl, HW.out.trans (hb.mono HW.out.size)⟩
  · have E2 := Lib.hid (show retB (k, n) c = true by rw [E.out]; simp)
    go_enter Try.func45, Try.ntmps45
    go_wp2_with (go_at_call 59; (with_reducible refine (kgood_any _ _ _ _).mono ?_); rintro e w' ⟨he, hb⟩; rw [R.out] at he; subst he; obtain ⟨q0, q1⟩ := C0.out _ hb)
    go_ret
    exact ⟨by rw [E2.out]; rfl, HW.out.trans (hb.mono HW.out.size)⟩

/-- Are all types of all lists good? -/
def listsB (vs : List (List (Int × Int))) (c : Int) : Bool := vs.all fun l => goodsB l c
set_option maxHeartbeats 1600000 in
theorem sallgood_any (c : Int) (vs : List (List (Int × Int))) (A : Option Addr) (cap B : Nat) (w : World) (hB : B ≤ w.heap.size) (h : SlcIs (SlcAt TyAt 2) 1 w B A cap vs) :
    Calls Try.prog 46 #[.int .i64 c, .slice A vs.length cap] w fun e w' => e = .returned (.bool (listsB vs c)) ∧ Below w.heap.size w w' := by
  have hlc := h.le
  have hcm := h.cap
  have HL := Lib.hid h
  have HB := Lib.hid hB
  obtain ⟨b, hb⟩ : ∃ b, listsB vs c = b := ⟨_, rfl⟩
  rw [hb]
  have E := Lib.hid hb.symm
  clear h hB hb
  go_enter Try.func46, Try.ntmps46
  go_wp2
  go_loopw [11] (fun i wr => ∃ k : Nat, k ≤ vs.length ∧ i = .int .i64 k ∧ Hid (∀ l ∈ vs.take k, goodsB l c = true) ∧ Hid (Below w.heap.size w wr)) (fun i _ => vs.length - (intOf i).toNat)
  case atStart => exact ⟨0, by omega, rfl, Lib.hid (by simp), Lib.hid (Below.refl _ _)⟩
  case round =>
    obtain ⟨k, hk, rfl, HN, HX⟩ := hrel
    by_cases hlt : k < vs.length
    · obtain ⟨ad, rfl, hab, A1, k1, q0, hq1⟩ := HL.out.row.at_ hlt
      rw [Nat.mul_one] at q0
      have q0 := (HX.out.cell (p := ad.add k) (by rw [addr_add_block]; exact Nat.lt_of_lt_of_le hab HB.out)).trans q0
      have HNO := Lib.hid (fun g : goodsB vs[k] c = false => (all_not hlt g : listsB vs c = false))
      have HYE := Lib.hid (fun g : goodsB vs[k] c = true => all_take hlt HN.out g)
      generalize vs[k] = l at *
      have HT := Lib.hid hq1
      have hl1 := hq1.le
      have hl2 := hq1.cap
      clear hq1
      go_wp2_with fail
      go_loopw [17] (fun i wr => ∃ k2 : Nat, k2 ≤ l.length ∧ i = .int .i64 k2 ∧ Hid (∀ t ∈ l.take k2, goodB t.1 t.2 c = true) ∧ Hid (Below w.heap.size w wr)) (fun i _ => l.length - (intOf i).toNat)
      case atStart => exact ⟨0, by omega, rfl, Lib.hid (by simp), HX⟩
      case round =>
        clear q0
        obtain ⟨k2, hk2, rfl, HN2, HX2⟩ := hrel
        by_cases hlt2 : k2 < l.length
        · obtain ⟨ad2, rfl, hab2, r0, r1⟩ := (HT.out.below_to TyAt.keeps HX2.out HB.out).row.at_ hlt2
          have HNO2 := Lib.hid (fun g : (fun t : Int × Int => goodB t.1 t.2 c) l[k2] = false => (all_not hlt2 g : goodsB l c = false))
          have HYE2 := Lib.hid (fun g : (fun t : Int × Int => goodB t.1 t.2 c) l[k2] = true => all_take hlt2 HN2.out g)
          generalize l[k2] = t at *
          obtain ⟨x, y⟩ := t
          dsimp only at r0 r1
          obtain ⟨g, hg⟩ : ∃ g, goodB x y c = g := ⟨_, rfl⟩
          have G := Lib.hid hg
          clear hg
          have HA := Lib.hid (HX2.out.alloc HX2.out.size (.cells #[.int .i64 x, .int .i64 y] 35))
          cases g
          · have E2 := Lib.hid (show b = false from E.out.trans (HNO.out (HNO2.out G.out)))
            go_wp2_with (go_at_call 59; (with_reducible refine (kgood_any _ _ _ _).mono ?_); rintro e w3 ⟨he, hb⟩; rw [G.out] at he; subst he; have HX3 := Lib.hid (HA.out.trans (hb.mono HA.out.size)); clear hb)
            go_ret
            exact ⟨by rw [E2.out]; rfl, HX3.out⟩
          · go_wp2_with (go_at_call 59; (with_reducible refine (kgood_any _ _ _ _).mono ?_); rintro e w3 ⟨he, hb⟩; rw [G.out] at he; subst he; have HX3 := Lib.hid (HA.out.trans (hb.mono HA.out.size)); clear hb)
            go_roundw
            case rel => exact ⟨k2 + 1, by omega, by go_num, Lib.hid (HYE2.out G.out), HX3⟩
            case measure => simp [intOf]; omega
        · have HY := Lib.hid (HYE.out (all_end (l := l) HN2.out (by omega)))
          go_wp2_with fail
          go_roundw
          case rel => exact ⟨k + 1, by omega, by go_num, HY, HX2⟩
          case measure => simp [intOf]; omega
    · have E2 := Lib.hid (show b = true from E.out.trans (all_end HN.out (by omega)))
      go_wp2_with fail
      go_ret
      exact ⟨by rw [E2.out]; rfl, HX.out⟩

/-- Does each class stand behind the one above it? -/
def supB (cl : List Cls) (i : Nat) : Bool := match cl[i]? with
  | some c => decide (c.sup < (i : Int))
  | none => true
def supsB (cl : List Cls) : Bool := (List.range cl.length).all (supB cl)
theorem sups_at {cl : List Cls} {i : Nat} {c : Cls} (h : supsB cl = true) (hc : cl[i]? = some c) : c.sup < (i : Int) := by
  obtain ⟨hi, _⟩ := List.getElem?_eq_some_iff.mp hc
  have := List.all_eq_true.mp h i (List.mem_range.mpr hi)
  unfold supB at this
  rw [hc] at this
  simpa using this
theorem sups_not {cl : List Cls} {i : Nat} {c : Cls} (hc : cl[i]? = some c) (h : ¬ c.sup < (i : Int)) : supsB cl = false := by
  rw [Bool.eq_false_iff]
  exact fun g => h (sups_at g hc)
set_option maxHeartbeats 1600000 in
theorem ssupers_any (cl : List Cls) (A : Option Addr) (cap B : Nat) (w : World) (hB : B ≤ w.heap.size) (h : SlcIs ClsAt 3 w B A cap cl) :
    Calls Try.prog 31 #[.slice A cl.length cap] w fun e w' => e = .returned (.bool (supsB cl)) ∧ Below w.heap.size w w' := by
  have hlc := h.le
  have hcm := h.cap
  have HL := Lib.hid h
  have HB := Lib.hid hB
  obtain ⟨b, hb⟩ : ∃ b, supsB cl = b := ⟨_, rfl⟩
  rw [hb]
  have E := Lib.hid hb.symm
  clear h hB hb
  go_enter Try.func31, Try.ntmps31
  go_wp2
  go_loopw [7] (fun i wr => ∃ k : Nat, k ≤ cl.length ∧ i = .int .i64 k ∧ Hid (∀ i < k, supB cl i = true) ∧ Hid (Below w.heap.size w wr)) (fun i _ => cl.length - (intOf i).toNat)
  case atStart => exact ⟨0, by omega, rfl, Lib.hid (by intro i hi; omega), Lib.hid (Below.refl _ _)⟩
  case round =>
    obtain ⟨k, hk, rfl, HN, HX⟩ := hrel
    by_cases hlt : k < cl.length
    · obtain ⟨ad, rfl, hab, hc⟩ := (HL.out.below_to ClsAt.keeps HX.out HB.out).row.at_ hlt
      have HG := Lib.hid (List.getElem?_eq_getElem hlt)
      generalize cl[k] = c at *
      obtain ⟨s0, ⟨A1, k1, s1, hs1⟩, ⟨A2, k2, s2, hs2⟩, sr⟩ := hc
      clear hs1 hs2
      have HA := Lib.hid (HX.out.alloc HX.out.size (.cells #[.int .i64 c.sup, .slice A1 c.fields.length k1, .slice A2 c.slots.length k2] 44))
      by_cases hc : c.sup < (k : Int)
      · have HY : Hid (∀ i < k + 1, supB cl i = true) := Lib.hid (fun i hi => by
          by_cases e : i = k
          · subst e; unfold supB; rw [HG.out]; exact decide_eq_true hc
          · exact HN.out i (by omega))
        have hc' : ¬ (k : Int) ≤ c.sup := by omega
        go_wp2_with fail
        go_roundw
        case rel => exact ⟨k + 1, by omega, by go_num, HY, HA⟩
        case measure => simp [intOf]; omega
      · have E2 := Lib.hid (show b = false from E.out.trans (sups_not HG.out hc))
        have hc' : (k : Int) ≤ c.sup := by omega
        go_wp2_with fail
        go_ret
        exact ⟨by rw [E2.out]; rfl, HA.out⟩
    · have E2 := Lib.hid (show b = true from E.out.trans (List.all_eq_true.mpr fun i hi => HN.out i (by have := List.mem_range.mp hi; omega)))
      go_wp2_with fail
      go_ret
      exact ⟨by rw [E2.out]; rfl, HX.out⟩
end Go.Proofs.Ytjgfoialajgfhaa
