/-
  What the document's own step (Step) comes to: outside.
-/
import Derived.Test.YtgpmdhdooglkfaaM19
import Derived.RegionTactic
import Derived.ChangeAlike
import Derived.Deep.RegionHeld3
import Derived.Deep.QuietTactic
import Derived.BigQuiet
import Derived.IntWalk
namespace Go.Proofs.Ytgpmdhdooglkfaa
set_option maxRecDepth 100000
set_option linter.unusedVariables false
set_option linter.unusedSimpArgs false
open Go.ChangeShapes Go.WideShapes Go.ChangeAt Go.RowKit

theorem rstep_out1 (m : Img) (f pc : Int) (st : List (Int × Int)) (A : Option Addr) (cap : Nat) (h : Hnd) (w : World) (H : ImgIn w w.heap.size h m) (hf : f < 0) :
    Calls Try.prog 24 #[imgV h m, .int .i64 f, .int .i64 pc, .slice A st.length cap] w (StepIs (stepOf m f pc st) w) := by
  have e0 : stepOf m f pc st = badStep 1 := by unfold stepOf; rw [if_neg (by omega)]
  rw [e0]
  clear e0
  have hle := H.methods.le
  have hcap := H.methods.cap
  have HW := Lib.hid (((Below.refl w.heap.size w).alloc (Nat.le_refl _) (imgO h m)))
  have HIM := Lib.hid (H.now HW.out)
  have HBX := Lib.hid (img_box w h m)
  have HZ : Hid (w.heap.size < (w.alloc (imgO h m)).heap.size) := Lib.hid (by simp)
  clear H
  go_enter Try.func24, Try.ntmps24
  go_upto_region 1 with fail
  generalize w.alloc (imgO h m) = w1 at *
  obtain ⟨q0, q1, q2, q3, q4, q5, q6⟩ := HBX.out
  go_wp2_with fail
  go_ret3
  exact step_bad 1 HW.out

theorem rstep_out2 (m : Img) (f pc : Int) (st : List (Int × Int)) (A : Option Addr) (cap : Nat) (h : Hnd) (w : World) (H : ImgIn w w.heap.size h m) (hf0 : 0 ≤ f) (hf : (m.methods.length : Int) ≤ f) :
    Calls Try.prog 24 #[imgV h m, .int .i64 f, .int .i64 pc, .slice A st.length cap] w (StepIs (stepOf m f pc st) w) := by
  have e0 : stepOf m f pc st = badStep 1 := by unfold stepOf; rw [if_neg (by omega)]
  rw [e0]
  clear e0
  have hle := H.methods.le
  have hcap := H.methods.cap
  have HW := Lib.hid (((Below.refl w.heap.size w).alloc (Nat.le_refl _) (imgO h m)))
  have HIM := Lib.hid (H.now HW.out)
  have HBX := Lib.hid (img_box w h m)
  have HZ : Hid (w.heap.size < (w.alloc (imgO h m)).heap.size) := Lib.hid (by simp)
  clear H
  go_enter Try.func24, Try.ntmps24
  go_upto_region 1 with fail
  generalize w.alloc (imgO h m) = w1 at *
  obtain ⟨q0, q1, q2, q3, q4, q5, q6⟩ := HBX.out
  have g0 : ¬ f < 0 := by omega
  go_wp2_with fail
  go_ret3
  exact step_bad 1 HW.out

theorem rstep_out3 (m : Img) (f pc : Int) (st : List (Int × Int)) (A : Option Addr) (cap : Nat) (h : Hnd) (w : World) (H : ImgIn w w.heap.size h m) (hf0 : 0 ≤ f) (hf : f < (m.methods.length : Int)) (hp : pc < 0) :
    Calls Try.prog 24 #[imgV h m, .int .i64 f, .int .i64 pc, .slice A st.length cap] w (StepIs (stepOf m f pc st) w) := by
  have e0 : stepOf m f pc st = badStep 1 := by unfold stepOf; rw [if_neg (by omega)]
  rw [e0]
  clear e0
  have hle := H.methods.le
  have hcap := H.methods.cap
  have HW := Lib.hid (((Below.refl w.heap.size w).alloc (Nat.le_refl _) (imgO h m)))
  have HIM := Lib.hid (H.now HW.out)
  have HBX := Lib.hid (img_box w h m)
  have HZ : Hid (w.heap.size < (w.alloc (imgO h m)).heap.size) := Lib.hid (by simp)
  clear H
  go_enter Try.func24, Try.ntmps24
  go_upto_region 1 with fail
  generalize w.alloc (imgO h m) = w1 at *
  obtain ⟨q0, q1, q2, q3, q4, q5, q6⟩ := HBX.out
  have g0 : ¬ f < 0 := by omega
  have g1 : ¬ (m.methods.length : Int) ≤ f := by omega
  go_wp2_with fail
  go_ret3
  exact step_bad 1 HW.out

theorem rstep_out4 (m : Img) (x : Mth) (f : Nat) (pc : Int) (st : List (Int × Int)) (A : Option Addr) (cap : Nat) (h : Hnd) (w : World) (H : ImgIn w w.heap.size h m) (hg : m.methods[f]? = some x) (hp0 : 0 ≤ pc) (hp : (x.code.length : Int) ≤ pc) :
    Calls Try.prog 24 #[imgV h m, .int .i64 f, .int .i64 pc, .slice A st.length cap] w (StepIs (stepOf m f pc st) w) := by
  have hk : f < m.methods.length := (List.getElem?_eq_some_iff.mp hg).1
  have hx : m.methods[f] = x := (List.getElem?_eq_some_iff.mp hg).2
  have e0 : stepOf m f pc st = badStep 1 := by unfold stepOf mthN; rw [Int.toNat_natCast, hg, Option.getD_some, if_neg (by omega)]
  rw [e0]
  clear e0
  have hle := H.methods.le
  have hcap := H.methods.cap
  have HW := Lib.hid (((Below.refl w.heap.size w).alloc (Nat.le_refl _) (imgO h m)))
  have HIM := Lib.hid (H.now HW.out)
  have HBX := Lib.hid (img_box w h m)
  have HZ : Hid (w.heap.size < (w.alloc (imgO h m)).heap.size) := Lib.hid (by simp)
  clear H hg
  go_enter Try.func24, Try.ntmps24
  go_upto_region 1 with fail
  generalize w.alloc (imgO h m) = w1 at *
  obtain ⟨q0, q1, q2, q3, q4, q5, q6⟩ := HBX.out
  obtain ⟨ad, hx', eA, hab, hin, hc⟩ := img_mth HIM.out hk
  rw [hx] at hin hc
  have ccap := hin.code.cap
  have cle := hin.code.le
  have c4 := hc.c4
  rw [eA] at q3
  clear hin hc eA
  have g0 : ¬ (f : Int) < 0 := by omega
  have g1 : ¬ (m.methods.length : Int) ≤ f := by omega
  have g2 : ¬ pc < 0 := by omega
  go_wp2_with fail
  go_ret3
  exact step_bad 1 HW.out

end Go.Proofs.Ytgpmdhdooglkfaa
