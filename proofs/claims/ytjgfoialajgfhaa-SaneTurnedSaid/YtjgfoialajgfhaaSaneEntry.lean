/-
  What the program's own entryNamed comes to.
-/
import Derived.Test.YtjgfoialajgfhaaSaneCount
namespace Go.Proofs.Ytjgfoialajgfhaa
set_option maxRecDepth 100000
set_option linter.unusedVariables false
set_option linter.unusedSimpArgs false
open Go.ChangeShapes Go.WideShapes Go.ChangeAt Go.RowKit
set_option linter.unusedVariables false
set_option linter.unusedSimpArgs false

/-- Is it a method that can be run from without, by numbers? -/
def enamedB (m : Img) (n : Int) : Bool := match m.methods[n.toNat]? with
  | none => false
  | some f => (f.args.all fun t => decide (t = (1, 0))) && (decide (f.ret = (1, 0)) || decide (f.ret = (5, 0)))
theorem ename_none {m : Img} {n : Nat} (h : m.methods.length ≤ n) : enamedB m (n : Int) = false := by
  unfold enamedB
  rw [Int.toNat_natCast, List.getElem?_eq_none h]
theorem ename_some {m : Img} {n : Nat} {f : Mth} (h : m.methods[n]? = some f) : enamedB m (n : Int) = ((f.args.all fun t => decide (t = (1, 0))) && (decide (f.ret = (1, 0)) || decide (f.ret = (5, 0)))) := by
  unfold enamedB
  rw [Int.toNat_natCast, h]

set_option maxHeartbeats 3200000 in
theorem sentry_any (m : Img) (n : Nat) (h : Hnd) (w : World) (H : ImgIn w w.heap.size h m) :
    Calls Try.prog 35 #[imgV h m, .int .i64 (n : Int)] w fun e w' => e = .returned (.bool (enamedB m (n : Int))) ∧ Below w.heap.size w w' := by
  have HW0 := Lib.hid (below_box (w := w) (h := h) (m := m))
  have HBX0 := Lib.hid (img_box w h m)
  have HZ0 : Hid (w.heap.size < (w.alloc (imgO h m)).heap.size) := Lib.hid (by simp)
  have HI0 := Lib.hid (H.now HW0.out)
  have l3 := H.methods.le
  have l3c := H.methods.cap
  clear H
  go_enter Try.func35, Try.ntmps35
  go_upto_region 1 with fail
  have hz1 : (w.alloc (imgO h m)).heap.size = w.heap.size + 1 := by simp
  have HZ1 := Lib.hid hz1
  clear hz1
  generalize w.alloc (imgO h m) = w0 at *
  obtain ⟨q0, q1, q2, q3, q4, q5, q6⟩ := HBX0.out
  by_cases hnl : n < m.methods.length
  · obtain ⟨adm, e3, habm, hcm⟩ := HI0.out.methods.row.at_ hnl
    have HES := Lib.hid (ename_some (List.getElem?_eq_getElem hnl))
    have HE3 := Lib.hid e3
    generalize m.methods[n] = f at *
    obtain ⟨fa, fl, ⟨fr0, fr1⟩, fc, fd, fp, fh⟩ := f
    obtain ⟨⟨A0f, j0, f0, hf0⟩, _, f2, f3, _, _, _, _⟩ := hcm
    dsimp only at f0 f2 f3 hf0
    rw [e3] at q3
    go_upto_region 4 with fail
    have hw1 := (Below.refl w0.heap.size w0).alloc (Nat.le_refl _) (.cells #[.int .i64 1, .int .i64 0] 35)
    have HNB := Lib.hid (cells_new w0 [.int .i64 1, .int .i64 0] 35)
    have HNZ : Hid (w0.heap.size < (w0.alloc (.cells #[.int .i64 1, .int .i64 0] 35)).heap.size) := Lib.hid (by simp)
    have HBX := Lib.hid (HBX0.out.keep hw1 HZ0.out)
    have HZ := Lib.hid (Nat.lt_of_lt_of_le HZ0.out hw1.size)
    have HZw := Lib.hid (Nat.le_of_lt (Nat.lt_of_lt_of_le HZ0.out hw1.size))
    have HW := Lib.hid (HW0.out.trans (hw1.mono (Nat.le_of_lt HZ0.out)))
    have HSfa := Lib.hid ((hf0.below_to TyAt.keeps hw1 (Nat.le_refl _)).keep' TyAt.keeps hw1.size (fun _ _ => rfl))
    have hPm : (adm.add (n * 8)).block < w0.heap.size := by rw [addr_add_block]; exact habm
    have f0 := (hw1.cell (p := adm.add (n * 8)) hPm).trans f0
    have f2 := (hw1.cell (p := off_ (adm.add (n * 8)) 2) hPm).trans f2
    have f3 := (hw1.cell (p := off_ (adm.add (n * 8)) 3) hPm).trans f3
    have HPm := Lib.hid (Nat.lt_of_lt_of_le hPm hw1.size)
    have HF0 : Hid ((w0.alloc (.cells #[.int .i64 1, .int .i64 0] 35)).cell? (adm.add (n * 8)) = some (.slice A0f fa.length j0) ∧ (w0.alloc (.cells #[.int .i64 1, .int .i64 0] 35)).cell? (off_ (adm.add (n * 8)) 2) = some (.int .i64 fr0) ∧ (w0.alloc (.cells #[.int .i64 1, .int .i64 0] 35)).cell? (off_ (adm.add (n * 8)) 3) = some (.int .i64 fr1)) := Lib.hid ⟨f0, f2, f3⟩
    have hj0 := hf0.le
    have hj0c := hf0.cap
    have NN := Lib.hid HZ1.out
    rw [HZ1.out] at HNB HNZ
    try rw [HZ1.out]
    clear e3 hw1 hf0 f0 f2 f3 hPm habm q0 q1 q2 q3 q4 q5 q6
    generalize w0.alloc (.cells #[.int .i64 1, .int .i64 0] 35) = w1 at *
    have HX : Hid (Below w1.heap.size w1 w1) := Lib.hid (Below.refl _ _)
    obtain ⟨q0, q1, q2, q3, q4, q5, q6⟩ := HBX.out.keep HX.out HZ.out
    rw [HE3.out] at q3
    obtain ⟨f0, f2, f3⟩ := HF0.out
    have n0 := HNB.out 0 _ rfl
    have n1 := HNB.out 1 _ rfl
    go_wp2_with fail
    go_loopw [22] (fun i wr => ∃ k : Nat, k ≤ fa.length ∧ i = .int .i64 k ∧ Hid (∀ t ∈ fa.take k, decide (t = (1, 0)) = true) ∧ Hid (Below w1.heap.size w1 wr)) (fun i _ => fa.length - (intOf i).toNat)
    case atStart => exact ⟨0, by omega, rfl, Lib.hid (by simp), HX⟩
    case round =>
      clear HX q0 q1 q2 q3 q4 q5 q6 f0 f2 f3 n0 n1
      obtain ⟨k, hk, rfl, HN, HX⟩ := hrel
      obtain ⟨q0, q1, q2, q3, q4, q5, q6⟩ := HBX.out.keep HX.out HZ.out
      rw [HE3.out] at q3
      have f2 := (HX.out.cell (p := off_ (adm.add (n * 8)) 2) HPm.out).trans HF0.out.2.1
      have f3 := (HX.out.cell (p := off_ (adm.add (n * 8)) 3) HPm.out).trans HF0.out.2.2
      have n0 := (HNB.out.keep HX.out HNZ.out) 0 _ rfl
      have n1 := (HNB.out.keep HX.out HNZ.out) 1 _ rfl
      have hnz : w.heap.size + 1 < wr.heap.size := Nat.lt_of_lt_of_le HNZ.out HX.out.size
      have hne : ¬ w.heap.size + 1 = wr.heap.size := by omega
      by_cases hlt : k < fa.length
      · obtain ⟨ad, rfl, hab, t0, t1⟩ := HSfa.out.row.at_ hlt
        have t0 := (HX.out.cell (p := ad.add (k * 2)) (by rw [addr_add_block]; exact hab)).trans t0
        have t1 := (HX.out.cell (p := off_ (ad.add (k * 2)) 1) (by show (ad.add _).block < _; rw [addr_add_block]; exact hab)).trans t1
        have HNO := Lib.hid (fun g : (fun t : Int × Int => decide (t = (1, 0))) fa[k] = false => (all_not hlt g : (fa.all fun t => decide (t = (1, 0))) = false))
        have HYE := Lib.hid (fun g : (fun t : Int × Int => decide (t = (1, 0))) fa[k] = true => all_take hlt HN.out g)
        generalize fa[k] = t at *
        obtain ⟨x, y⟩ := t
        dsimp only at t0 t1
        by_cases hxy : x = 1 ∧ y = 0
        · obtain ⟨rfl, rfl⟩ := hxy
          have HY := Lib.hid (HYE.out rfl)
          go_wp2_with fail
          go_roundw
          case rel => exact ⟨k + 1, by omega, by go_num, HY, Lib.hid (HX.out.alloc HX.out.size _)⟩
          case measure => simp [intOf]; omega
        · have ES := Lib.hid (show enamedB m (n : Int) = false by rw [HES.out]; (try dsimp only); rw [HNO.out (decide_eq_false (by simpa using hxy))]; rfl)
          have hxx : ¬ x = 1 ∨ (x = 1 ∧ ¬ y = 0) := by omega
          clear hxy
          rcases hxx with hxx | ⟨rfl, hxx⟩
          all_goals
            go_wp2_with fail
            go_ret
            exact ⟨by rw [ES.out]; rfl, HW.out.trans ((HX.out.alloc HX.out.size _).mono HZw.out)⟩
      · have HA := Lib.hid (show (fa.all fun t => decide (t = (1, 0))) = true from all_end (l := fa) HN.out (by omega))
        by_cases h1 : fr0 = 1 ∧ fr1 = 0
        · obtain ⟨rfl, rfl⟩ := h1
          have ES := Lib.hid (show enamedB m (n : Int) = true by rw [HES.out]; (try dsimp only); rw [HA.out]; rfl)
          go_wp2_with fail
          go_ret
          exact ⟨by rw [ES.out]; rfl, HW.out.trans ((HX.out.alloc HX.out.size _).mono HZw.out)⟩
        · by_cases h5 : fr0 = 5 ∧ fr1 = 0
          · obtain ⟨rfl, rfl⟩ := h5
            have ES := Lib.hid (show enamedB m (n : Int) = true by rw [HES.out]; (try dsimp only); rw [HA.out]; rfl)
            go_wp2_with fail
            go_ret
            exact ⟨by rw [ES.out]; rfl, HW.out.trans ((HX.out.alloc HX.out.size _).mono HZw.out)⟩
          · have ES := Lib.hid (show enamedB m (n : Int) = false by rw [HES.out]; (try dsimp only); rw [HA.out, decide_eq_false (by simpa using h1), decide_eq_false (by simpa using h5)]; rfl)
            rcases (show (¬ fr0 = 1 ∧ ¬ fr0 = 5) ∨ (fr0 = 1 ∧ ¬ fr1 = 0) ∨ (fr0 = 5 ∧ ¬ fr1 = 0) by omega) with ⟨g1, g5⟩ | ⟨rfl, g⟩ | ⟨rfl, g⟩
            all_goals
              clear h1 h5
              go_wp2_with fail
              go_ret
              exact ⟨by rw [ES.out]; rfl, HW.out.trans ((HX.out.alloc HX.out.size _).mono HZw.out)⟩
  · have ES := Lib.hid (ename_none (m := m) (Nat.le_of_not_lt hnl))
    go_wp2_with fail
    go_ret
    exact ⟨by rw [ES.out]; rfl, HW0.out⟩
end Go.Proofs.Ytjgfoialajgfhaa
