/-
  What the document's own answer for the method in a slot (Slot) comes to, and how many classes and fields there are (few).
-/
import Derived.Test.YtcehkmnneimdeaaClassSlot
namespace Go.Proofs.Ytcehkmnneimdeaa
set_option maxRecDepth 100000
set_option linter.unusedVariables false
set_option linter.unusedSimpArgs false
open Go.ChangeShapes Go.WideShapes Go.ChangeAt Go.RowKit

theorem rslot_any (m : Img) (c n : Int) (h : Hnd) (w : World) (H : ImgIn w w.heap.size h m) :
    Calls Try.prog 10 #[imgV h m, .int .i64 c, .int .i64 n] w (SlotOut (slotOf m.classes c n) w) := by
  have HW := Lib.hid ((Below.refl w.heap.size w).alloc (Nat.le_refl _) (imgO h m))
  have HIM := Lib.hid (H.now HW.out)
  have HBX := Lib.hid (img_box w h m)
  have hle := H.classes.le
  have hcap := H.classes.cap
  have hn63 : m.classes.length ≤ 9223372036854775807 := by omega
  clear H hle hcap
  by_cases hc : 0 ≤ c ∧ c < m.classes.length
  · obtain ⟨c0, c1⟩ := hc
    obtain ⟨i, rfl⟩ := Int.eq_ofNat_of_zero_le c0
    have hi : i < m.classes.length := by omega
    clear c0 c1
    obtain ⟨ad, e0, hab, s0, ⟨A1, k1, s1, hs1⟩, ⟨A2, k2, s2, hs2⟩, _⟩ := HIM.out.classes.row.at_ hi
    have HE := Lib.hid e0
    clear e0
    have l1 := hs2.le
    have l2 := hs2.cap
    have hs63 : m.classes[i].slots.length ≤ 9223372036854775807 := by omega
    have HSL := Lib.hid hs2
    clear hs1 hs2 l1 l2
    by_cases hnn : 0 ≤ n ∧ n < m.classes[i].slots.length
    · obtain ⟨n0, n1⟩ := hnn
      obtain ⟨j, rfl⟩ := Int.eq_ofNat_of_zero_le n0
      have hj : j < m.classes[i].slots.length := by omega
      clear n0 n1
      rw [slotOf_yes hi hj]
      obtain ⟨ad2, rfl, hab2, z0⟩ := HSL.out.row.at_ hj
      clear HSL
      rw [Nat.mul_one] at z0
      generalize m.classes[i].slots[j] = f at *
      generalize m.classes[i] = x at *
      have z0' : (w.alloc (imgO h m)).cell? (ad2.add j) = some (.int .i64 f) := z0
      clear z0
      go_enter Try.func10, Try.ntmps10
      go_upto_region 1 with fail
      generalize w.alloc (imgO h m) = w1 at *
      obtain ⟨q0, q1, q2, q3, q4, q5, q6⟩ := HBX.out
      rw [HE.out] at q0
      go_wp2_with fail
      go_ret2
      exact ⟨rfl, HW.out⟩
    · rw [slotOf_slot hi (by omega)]
      have hno : n < 0 ∨ (m.classes[i].slots.length : Int) ≤ n := by omega
      clear hnn HSL
      generalize m.classes[i] = x at *
      rcases hno with hno | hno
      · go_enter Try.func10, Try.ntmps10
        go_upto_region 1 with fail
        generalize w.alloc (imgO h m) = w1 at *
        obtain ⟨q0, q1, q2, q3, q4, q5, q6⟩ := HBX.out
        rw [HE.out] at q0
        go_wp2_with fail
        go_ret2
        exact ⟨rfl, HW.out⟩
      · have hn0 : 0 ≤ n := by omega
        go_enter Try.func10, Try.ntmps10
        go_upto_region 1 with fail
        generalize w.alloc (imgO h m) = w1 at *
        obtain ⟨q0, q1, q2, q3, q4, q5, q6⟩ := HBX.out
        rw [HE.out] at q0
        go_wp2_with fail
        go_ret2
        exact ⟨rfl, HW.out⟩
  · have hno : c < 0 ∨ (m.classes.length : Int) ≤ c := by omega
    rw [slotOf_class hno]
    clear hc
    rcases hno with hno | hno
    · go_enter Try.func10, Try.ntmps10
      go_upto_region 1 with fail
      generalize w.alloc (imgO h m) = w1 at *
      obtain ⟨q0, q1, q2, q3, q4, q5, q6⟩ := HBX.out
      go_wp2_with fail
      go_ret2
      exact ⟨rfl, HW.out⟩
    · have hn0 : 0 ≤ c := by omega
      go_enter Try.func10, Try.ntmps10
      go_upto_region 1 with fail
      generalize w.alloc (imgO h m) = w1 at *
      obtain ⟨q0, q1, q2, q3, q4, q5, q6⟩ := HBX.out
      go_wp2_with fail
      go_ret2
      exact ⟨rfl, HW.out⟩

/-- How many of the first classes there are, with their fields. -/
def fewN (cl : List Cls) (k : Nat) : Nat := (cl.take k).foldl (fun s c => s + (1 + c.fields.length)) 0
theorem fewN_succ {cl : List Cls} {k : Nat} (h : k < cl.length) : fewN cl (k + 1) = fewN cl k + (1 + cl[k].fields.length) := by
  unfold fewN
  rw [List.take_add_one, List.getElem?_eq_getElem h, List.foldl_append]
  rfl
theorem fewN_mono {cl : List Cls} {k : Nat} : ∀ j, k ≤ j → j ≤ cl.length → fewN cl k ≤ fewN cl j
  | 0, h, _ => by have : k = 0 := by omega
                  subst this; exact Nat.le_refl _
  | j + 1, h, hj => by
    rcases Nat.lt_or_ge j k with g | g
    · have : k = j + 1 := by omega
      subst this; exact Nat.le_refl _
    · have := fewN_mono (cl := cl) (k := k) j g (by omega)
      rw [fewN_succ (show j < cl.length by omega)]
      omega
theorem fewN_ge (cl : List Cls) : ∀ k, k ≤ cl.length → k ≤ fewN cl k
  | 0, _ => Nat.zero_le _
  | k + 1, h => by
    have := fewN_ge cl k (by omega)
    rw [fewN_succ (show k < cl.length by omega)]
    omega
/-- Are they few? Then there are few classes, with few fields each. -/
def fewB (cl : List Cls) : Bool := decide (fewN cl cl.length < 200)
theorem fewB_yes {cl : List Cls} (h : fewB cl = true) : cl.length ≤ 1000 ∧ ∀ x ∈ cl, x.fields.length ≤ 1000 := by
  have h := of_decide_eq_true h
  have h1 := fewN_ge cl cl.length (Nat.le_refl _)
  refine ⟨by omega, fun x hx => ?_⟩
  obtain ⟨i, hi, rfl⟩ := List.mem_iff_getElem.mp hx
  have h2 := fewN_mono (cl := cl) (k := i + 1) cl.length (by omega) (Nat.le_refl _)
  rw [fewN_succ hi] at h2
  omega

set_option maxHeartbeats 1600000 in
theorem few_any (m : Img) (h : Hnd) (w : World) (H : ImgIn w w.heap.size h m) (hf : ∀ x ∈ m.classes, x.fields.length ≤ 140737488355328) :
    Calls Try.prog 7 #[imgV h m] w fun e w' => e = .returned (.bool (fewB m.classes)) ∧ Below w.heap.size w w' := by
  have HW := Lib.hid ((Below.refl w.heap.size w).alloc (Nat.le_refl _) (imgO h m))
  have HIM := Lib.hid (H.now HW.out)
  have HBX := Lib.hid (img_box w h m)
  have HF := Lib.hid hf
  have hle := H.classes.le
  have hcap := H.classes.cap
  have hn63 : m.classes.length ≤ 9223372036854775807 := by omega
  obtain ⟨b, hb⟩ : ∃ b, fewB m.classes = b := ⟨_, rfl⟩
  rw [hb]
  have HB := Lib.hid hb
  clear H hle hcap hf hb
  go_enter Try.func7, Try.ntmps7
  go_upto_region 1 with fail
  generalize w.alloc (imgO h m) = w1 at *
  obtain ⟨q0, q1, q2, q3, q4, q5, q6⟩ := HBX.out
  go_wp2
  go_loop [3, 4] (fun s i => ∃ k n : Nat, k ≤ m.classes.length ∧ i = .int .i64 k ∧ s = .int .i64 n ∧ n = fewN m.classes k ∧ n ≤ 140737488360000) (fun _ i => m.classes.length - (intOf i).toNat)
  case atStart => exact ⟨0, 0, Nat.zero_le _, rfl, rfl, rfl, by omega⟩
  case round =>
    obtain ⟨k, n, hk, rfl, rfl, hn, hn1⟩ := hrel
    have HN := Lib.hid hn
    clear hn
    by_cases hlt : k < m.classes.length
    · by_cases h2 : n < 2000
      · obtain ⟨ad, e0, hab, s0, ⟨A1, k1, s1, hs1⟩, ⟨A2, k2, s2, hs2⟩, _⟩ := HIM.out.classes.row.at_ hlt
        have hfl := HF.out _ (List.getElem_mem hlt)
        have HN2 := Lib.hid (fewN_succ hlt)
        generalize m.classes[k] = x at *
        clear hs1 hs2
        rw [e0] at q0
        clear e0
        go_wp2_with fail
        go_round
        case rel => exact ⟨k + 1, n + (1 + x.fields.length), by omega, by go_num, by congr 1, by rw [HN2.out, ← HN.out], by omega⟩
        case measure => simp [intOf]; omega
      · have E2 : Hid (b = false) := Lib.hid (by
          rw [← HB.out]
          unfold fewB
          have := fewN_mono (cl := m.classes) (k := k) m.classes.length hk (Nat.le_refl _)
          have := HN.out
          exact decide_eq_false (by omega))
        have h200 : decide ((n : Int) < 200) = false := decide_eq_false (by omega)
        go_wp2_with fail
        go_ret
        exact ⟨by rw [E2.out]; first | rfl | simp; omega, HW.out⟩
    · obtain rfl : k = m.classes.length := by omega
      have E2 : Hid (b = decide ((n : Int) < 200)) := Lib.hid (by
        rw [← HB.out]
        unfold fewB
        rw [← HN.out, decide_eq_decide]
        omega)
      go_wp2_with fail
      go_ret
      exact ⟨by rw [E2.out]; rfl, HW.out⟩
end Go.Proofs.Ytcehkmnneimdeaa
