/-
  What lin.Implies and lin.Proves come to.
-/
import Derived.Test.YtncbmjpfbkngdaaLinSum
import Derived.Test.YtncbmjpfbkngdaaLinHolds
import Derived.Test.YtncbmjpfbkngdaaEqInts
namespace Go.Proofs.Ytncbmjpfbkngdaa
set_option maxRecDepth 100000
set_option linter.unusedVariables false
set_option linter.unusedSimpArgs false
open Go.ChangeShapes Go.WideShapes Go.ChangeAt Go.RowKit
set_option linter.unusedVariables false
set_option linter.unusedSimpArgs false

theorem leqInts_is {l m : List Int} {A A' : Option Addr} {c c' : Nat} {w0 w : World} {r : Bool} (HL : Hid (SlcIs IntAt 1 w0 w0.heap.size A c l)) (HM : Hid (SlcIs IntAt 1 w0 w0.heap.size A' c' m)) (HX : Hid (Below w0.heap.size w0 w)) (HR : Hid (decide (l = m) = r)) :
    Calls Try.prog 26 #[.slice A l.length c, .slice A' m.length c'] w fun e w' => e = .returned (.bool r) ∧ Below w.heap.size w w' := by
  have h := eqInts_any l m A A' c c' w0.heap.size w HX.out.size (HL.out.below_to IntAt.keeps HX.out (Nat.le_refl _)) (HM.out.below_to IntAt.keeps HX.out (Nat.le_refl _))
  rw [HR.out] at h
  exact h
set_option maxHeartbeats 1600000 in
theorem limplies_any (a b : Inq) (A B : Option Addr) (c d : Nat) (w : World) (ha : SlcIs IntAt 1 w w.heap.size A c a.1) (hb : SlcIs IntAt 1 w w.heap.size B d b.1) :
    Calls Try.prog 17 #[inqV a A c, inqV b B d] w fun e w' => e = .returned (.bool (impliesB a b)) ∧ Below w.heap.size w w' := by
  show Calls Try.prog 17 #[.agg #[.slice A a.1.length c, .int .i64 a.2], .agg #[.slice B b.1.length d, .int .i64 b.2]] w _
  have HA := Lib.hid ha
  have HB := Lib.hid hb
  have ha1 := ha.le
  have ha2 := ha.cap
  have hb1 := hb.le
  have hb2 := hb.cap
  clear ha hb
  have HX : Hid (Below w.heap.size w ((w.alloc (.cells #[.slice A a.1.length c, .int .i64 a.2] 27)).alloc (.cells #[.slice B b.1.length d, .int .i64 b.2] 27))) := Lib.hid (((Below.refl w.heap.size w).alloc (Nat.le_refl _) _).alloc (by simp) _)
  have HW1 : Hid (Whole ((w.alloc (.cells #[.slice A a.1.length c, .int .i64 a.2] 27)).alloc (.cells #[.slice B b.1.length d, .int .i64 b.2] 27)) w.heap.size [.slice A a.1.length c, .int .i64 a.2] 27) := Lib.hid ((Whole.new w [.slice A a.1.length c, .int .i64 a.2] 27).keep ((Below.refl (w.heap.size + 1) _).alloc (by simp) _) (by omega))
  have HW2 : Hid (Whole ((w.alloc (.cells #[.slice A a.1.length c, .int .i64 a.2] 27)).alloc (.cells #[.slice B b.1.length d, .int .i64 b.2] 27)) (w.heap.size + 1) [.slice B b.1.length d, .int .i64 b.2] 27) := Lib.hid (Whole.at_ (by simp) [.slice B b.1.length d, .int .i64 b.2] 27)
  obtain ⟨r, hr⟩ : ∃ r, decide (a.1 = b.1) = r := ⟨_, rfl⟩
  have HR := Lib.hid hr
  have HI : Hid (impliesB a b = (r && decide (a.2 ≤ b.2))) := Lib.hid (by unfold impliesB; rw [hr])
  obtain ⟨z, hz⟩ : ∃ z, impliesB a b = z := ⟨_, rfl⟩
  rw [hz] at HI ⊢
  clear hr hz
  go_enter Try.func17, Try.ntmps17
  go_upto_region 1 with fail
  generalize (w.alloc (.cells #[.slice A a.1.length c, .int .i64 a.2] 27)).alloc (.cells #[.slice B b.1.length d, .int .i64 b.2] 27) = w1 at *
  have a0 := HW1.out.cells 0 _ rfl
  have a1 := HW1.out.cells 1 _ rfl
  have b0 := HW2.out.cells 0 _ rfl
  have b1 := HW2.out.cells 1 _ rfl
  cases r with
  | false =>
    go_wp2_with (go_at_call 26; (with_reducible refine (leqInts_is HA HB HX HR).mono ?_); rintro e w6 ⟨rfl, hb⟩; have HX6 := Lib.hid (HX.out.trans (hb.mono HX.out.size)); clear hb)
    go_ret
    exact ⟨by rw [HI.out]; rfl, HX6.out⟩
  | true =>
    go_wp2_with (go_at_call 26; (with_reducible refine (leqInts_is HA HB HX HR).mono ?_); rintro e w6 ⟨rfl, hb⟩; have HX6 := Lib.hid (HX.out.trans (hb.mono HX.out.size)); have hA6 := HW1.out.keep hb HW1.out.lt; have hB6 := HW2.out.keep hb HW2.out.lt; have a6 := hA6.cells 1 _ rfl; have b6 := hB6.cells 1 _ rfl; clear hb hA6 hB6)
    go_ret
    exact ⟨by rw [HI.out]; rfl, HX6.out⟩
theorem lsum_is {list : List Inq} {times : List Int} {n K L : Nat} {A B : Option Addr} {c d : Nat} {w0 w : World} {r : Option Inq} (HL : Hid (SlcIs IneqAt 2 w0 w0.heap.size A c list)) (HT : Hid (SlcIs IntAt 1 w0 w0.heap.size B d times)) (HX : Hid (Below w0.heap.size w0 w)) (HR : Hid (sumR list times (n : Int) = r)) (HK : Hid (list.length = K ∧ times.length = L)) :
    Calls Try.prog 11 #[.slice A K c, .slice B L d, .int .i64 (n : Int)] w (SumOut 14 r w) := by
  obtain ⟨rfl, rfl⟩ := HK.out
  have H := lsum_own list times n A B c d w (lslcUp IneqAt.keeps HL.out HX.out) (lslcUp IntAt.keeps HT.out HX.out)
  rw [HR.out] at H
  exact H
theorem limplies_is {a b : Inq} {A B : Option Addr} {c d n m : Nat} {w : World} {r : Bool} (HA : Hid (SlcIs IntAt 1 w w.heap.size A c a.1)) (HB : Hid (SlcIs IntAt 1 w w.heap.size B d b.1)) (HN : Hid (a.1.length = n ∧ b.1.length = m)) (HR : Hid (impliesB a b = r)) :
    Calls Try.prog 17 #[.agg #[.slice A n c, .int .i64 a.2], .agg #[.slice B m d, .int .i64 b.2]] w fun e w' => e = .returned (.bool r) ∧ Below w.heap.size w w' := by
  obtain ⟨rfl, rfl⟩ := HN.out
  have H := limplies_any a b A B c d w HA.out HB.out
  rw [HR.out] at H
  exact H
set_option maxHeartbeats 1600000 in
theorem lproves_any (list : List Inq) (times : List Int) (want : Inq) (A B C : Option Addr) (c d e : Nat) (w : World) (hl : SlcIs IneqAt 2 w w.heap.size A c list) (ht : SlcIs IntAt 1 w w.heap.size B d times) (hw : SlcIs IntAt 1 w w.heap.size C e want.1) (h1 : list.length ≤ 1000) (h2 : ∀ q ∈ list, q.1.length ≤ 1000) (h3 : want.1.length ≤ 1000) :
    Calls Try.prog 14 #[.slice A list.length c, .slice B times.length d, inqV want C e] w fun e w' => e = .returned (.bool (provesB list times want)) ∧ Below w.heap.size w w' := by
  show Calls Try.prog 14 #[.slice A list.length c, .slice B times.length d, .agg #[.slice C want.1.length e, .int .i64 want.2]] w _
  have HL := Lib.hid hl
  have HT := Lib.hid ht
  have HW := Lib.hid hw
  have hw1 := hw.le
  have hw2 := hw.cap
  have hl1 := hl.le
  have hl2 := hl.cap
  have ht1 := ht.le
  have ht2 := ht.cap
  clear hl ht hw h1 h2 h3
  have HX : Hid (Below w.heap.size w (w.alloc (.cells #[.slice C want.1.length e, .int .i64 want.2] 27))) := Lib.hid ((Below.refl w.heap.size w).alloc (Nat.le_refl _) _)
  have HWB : Hid (Whole (w.alloc (.cells #[.slice C want.1.length e, .int .i64 want.2] 27)) w.heap.size [.slice C want.1.length e, .int .i64 want.2] 27) := Lib.hid (Whole.new w _ 27)
  have HKK : Hid (list.length = list.length ∧ times.length = times.length) := Lib.hid ⟨rfl, rfl⟩
  obtain ⟨R, hR⟩ : ∃ R, sumR list times (want.1.length : Int) = R := ⟨_, rfl⟩
  have HR := Lib.hid hR
  obtain ⟨z, hz⟩ : ∃ z, provesB list times want = z := ⟨_, rfl⟩
  have HZ : Hid (z = (R.map fun q => impliesB q want).getD false) := Lib.hid (by rw [← hz, ← hR]; unfold provesB; cases sumR list times (want.1.length : Int) <;> rfl)
  rw [hz]
  clear hR hz
  go_enter Try.func14, Try.ntmps14
  go_upto_region 1 with fail
  generalize w.alloc (.cells #[.slice C want.1.length e, .int .i64 want.2] 27) = w1 at *
  have a0 := HWB.out.cells 0 _ rfl
  go_upto_region 2 with (go_at_call 11; (refine (lsum_is HL HT HX HR (Lib.hid ⟨rfl, rfl⟩)).mono ?_); rintro e w8 ⟨A8, c8, k8, rfl, hb, hs8, hk8, ha8⟩; have HX8 := Lib.hid (HX.out.trans (hb.mono HX.out.size)); have HS8 := Lib.hid hs8; have HK8 := Lib.hid hk8; have HW8 := Lib.hid (HWB.out.keep hb HWB.out.lt); clear hb hs8 hk8 ha8)
  clear a0
  cases R with
  | none =>
    obtain rfl : k8 = 14 := HK8.out
    go_wp2_with fail
    go_ret
    exact ⟨by rw [HZ.out]; rfl, HX8.out.alloc HX8.out.size _⟩
  | some q =>
    obtain rfl : k8 = 0 := HK8.out
    have HB9 := Lib.hid (Whole.new w8 [.slice A8 q.1.length c8, .int .i64 q.2] 27)
    have HW9 := Lib.hid (HW8.out.keep ((Below.refl _ _).alloc (Nat.le_refl _) (.cells #[.slice A8 q.1.length c8, .int .i64 q.2] 27)) HW8.out.lt)
    have HX9 := Lib.hid (HX8.out.alloc HX8.out.size (.cells #[.slice A8 q.1.length c8, .int .i64 q.2] 27))
    have HSQ := Lib.hid (lslcUp IntAt.keeps HS8.out ((Below.refl _ _).alloc (Nat.le_refl _) (.cells #[.slice A8 q.1.length c8, .int .i64 q.2] 27)))
    show Code.wp _ _ _ _ (w8.alloc (.cells #[.slice A8 q.1.length c8, .int .i64 q.2] 27))
    generalize w8.alloc (.cells #[.slice A8 q.1.length c8, .int .i64 q.2] 27) = w9 at *
    have HSW := Lib.hid (lslcUp IntAt.keeps HW.out HX9.out)
    have c0 := HW9.out.cells 0 _ rfl
    have c1 := HW9.out.cells 1 _ rfl
    have d0 := HB9.out.cells 0 _ rfl
    have d1 := HB9.out.cells 1 _ rfl
    have HZ2 : Hid (impliesB q want = z) := Lib.hid HZ.out.symm
    go_wp2_with (go_at_call 17; (refine (limplies_is HSQ HSW (Lib.hid ⟨rfl, rfl⟩) HZ2).mono ?_); rintro e w6 ⟨rfl, hb⟩; have HX6 := Lib.hid (HX9.out.trans (hb.mono HX9.out.size)); clear hb)
    go_ret
    exact ⟨rfl, HX6.out⟩
theorem lholds_any (q : Inq) (L : List Int) (A B : Option Addr) (c d : Nat) (w : World) (hq : SlcIs IntAt 1 w w.heap.size A c q.1) (hl : SlcIs IntAt 1 w w.heap.size B d L) (h1 : q.1.length ≤ 1000) (h2 : L.length ≤ 1000) :
    Calls Try.prog 15 #[inqV q A c, .slice B L.length d] w (ErrOut (holdsR q L) w) := lholds_own q L A B c d w hq hl
theorem lsum_any (list : List Inq) (times : List Int) (vars : Int) (A B : Option Addr) (c d : Nat) (w : World) (hl : SlcIs IneqAt 2 w w.heap.size A c list) (ht : SlcIs IntAt 1 w w.heap.size B d times) (h1 : list.length ≤ 1000) (h2 : ∀ q ∈ list, q.1.length ≤ 1000) :
    Calls Try.prog 11 #[.slice A list.length c, .slice B times.length d, .int .i64 vars] w (SumOut 14 (sumR list times vars) w) := lsum_own list times vars A B c d w hl ht
end Go.Proofs.Ytncbmjpfbkngdaa
