/-
  What the document's own step (Step) comes to, at any place of a sane image.
  When two lists of numbers are one, as the document says it.
-/
import Derived.Test.YtndacljmcofopaaM37
import Derived.Test.YtndacljmcofopaaM38
import Derived.Test.YtndacljmcofopaaM39
import Derived.Test.YtndacljmcofopaaM40
import Derived.Test.YtndacljmcofopaaM41
import Derived.Test.YtndacljmcofopaaM42
import Derived.Test.YtndacljmcofopaaM19
namespace Go.Proofs.Ytndacljmcofopaa
set_option maxRecDepth 100000
set_option linter.unusedVariables false
set_option linter.unusedSimpArgs false
open Go.ChangeShapes Go.WideShapes Go.ChangeAt Go.RowKit

theorem rstep_any (m : Img) (f pc : Int) (st : List (Int × Int)) (A : Option Addr) (cap : Nat) (h : Hnd) (w : World) (H : ImgIn w w.heap.size h m) (hm : SaneI m) (hst : SlcIs TyAt 2 w w.heap.size A cap st) (hs : st.length ≤ 1000) :
    Calls Try.prog 10 #[imgV h m, .int .i64 f, .int .i64 pc, .slice A st.length cap] w (StepIs (stepOf m f pc st) w) := by
  by_cases f0 : f < 0
  · exact rstep_out1 m f pc st A cap h w H f0
  by_cases f1 : (m.methods.length : Int) ≤ f
  · exact rstep_out2 m f pc st A cap h w H (by omega) f1
  by_cases p0 : pc < 0
  · exact rstep_out3 m f pc st A cap h w H (by omega) (by omega) p0
  obtain ⟨F, rfl⟩ := Int.eq_ofNat_of_zero_le (show 0 ≤ f by omega)
  obtain ⟨P, rfl⟩ := Int.eq_ofNat_of_zero_le (show 0 ≤ pc by omega)
  have hF : F < m.methods.length := by omega
  obtain ⟨x, hx⟩ : ∃ x, m.methods[F]? = some x := ⟨_, List.getElem?_eq_getElem hF⟩
  by_cases p1 : (x.code.length : Int) ≤ P
  · exact rstep_out4 m x F P st A cap h w H hx (by omega) p1
  have hP : P < x.code.length := by omega
  obtain ⟨⟨op, a, b⟩, hi⟩ : ∃ i, x.code[P]? = some i := ⟨_, List.getElem?_eq_getElem hP⟩
  have e : stepOf m (F : Int) (P : Int) st = stepIn m x P op a b st := by
    unfold stepOf mthN
    rw [Int.toNat_natCast, hx, Option.getD_some, if_pos ⟨by omega, by omega, by omega, by omega⟩, Int.toNat_natCast, hi]
  rw [e]
  have hxm := hm.method (List.mem_of_getElem? hx)
  have him := List.mem_of_getElem? hi
  have hin : instrB op a b = true := hxm.fits.ct _ him
  have hna : namedB m x op a b = true := hxm.co _ him
  by_cases n18 : op = 18
  · exact rstep_J m x F P op a b st A cap h w H hm hx hin hna hi hst hs (Lib.hid n18)
  by_cases n19 : op = 19
  · exact rstep_Z m x F P op a b st A cap h w H hm hx hin hna hi hst hs (Lib.hid n19)
  by_cases n33 : op = 33
  · exact rstep_R m x F P op a b st A cap h w H hm hx hin hna hi hst hs (Lib.hid n33)
  by_cases n6 : op = 6
  · exact rstep_D m x F P op a b st A cap h w H hm hx hin hna hi hst hs (Lib.hid n6)
  exact rstep_A m x F P op a b st A cap h w H hm hx hin hna hi hst hs n18 n19 n33 n6
end Go.Proofs.Ytndacljmcofopaa
namespace Go.Proofs.Ytndacljmcofopaa
set_option maxRecDepth 100000
set_option linter.unusedVariables false
set_option linter.unusedSimpArgs false
open Go.ChangeShapes Go.WideShapes Go.ChangeAt Go.RowKit
set_option linter.unusedVariables false

theorem rsameInts_any (l m : List Int) (A A' : Option Addr) (cap cap' B : Nat) (w : World) (hB : B ≤ w.heap.size) (h : SlcIs IntAt 1 w B A cap l) (h' : SlcIs IntAt 1 w B A' cap' m) :
    Calls Try.prog 12 #[.slice A l.length cap, .slice A' m.length cap'] w fun e w' => e = .returned (.bool (decide (l = m))) ∧ Below w.heap.size w w' := by
  have hlc := h.le
  have hcm := h.cap
  have hlc' := h'.le
  have hcm' := h'.cap
  have HL := Lib.hid h
  have HM := Lib.hid h'
  have HB := Lib.hid hB
  clear h h' hB
  obtain ⟨b, hb⟩ : ∃ b, decide (l = m) = b := ⟨_, rfl⟩
  rw [hb]
  have E := Lib.hid hb.symm
  clear hb
  by_cases hn : l.length = m.length
  · have HLN := Lib.hid hn
    have hlen : m.length = l.length := hn.symm
    rw [hlen]
    clear hn
    go_enter Try.func12, Try.ntmps12
    go_wp2
    go_loopw [5] (fun i wr => ∃ k : Nat, k ≤ l.length ∧ i = .int .i64 k ∧ Hid (l.take k = m.take k) ∧ Hid (Below w.heap.size w wr)) (fun i _ => l.length - (intOf i).toNat)
    case atStart => exact ⟨0, by omega, rfl, Lib.hid (by simp), Lib.hid (Below.refl _ _)⟩
    case round =>
      obtain ⟨k, hk, rfl, HN, HX⟩ := hrel
      by_cases hlt : k < l.length
      · have hltm : k < m.length := by omega
        obtain ⟨ad, rfl, hab, q0⟩ := (HL.out.below_to IntAt.keeps HX.out HB.out).row.at_ hlt
        obtain ⟨ad', rfl, hab', q0'⟩ := (HM.out.below_to IntAt.keeps HX.out HB.out).row.at_ hltm
        have HNE := Lib.hid (fun g => list_ne_at hlt hltm g)
        have HEQ := Lib.hid (fun g => take_both hlt hltm HN.out g)
        generalize l[k] = t at *
        generalize m[k] = s at *
        rw [Nat.mul_one] at q0 q0'
        have r0 : wr.cell? (ad.add k) = some (.int .i64 t) := q0
        have r0' : wr.cell? (ad'.add k) = some (.int .i64 s) := q0'
        by_cases hx : t = s
        · obtain rfl := hx
          have E2 := Lib.hid (HEQ.out rfl)
          go_wp2_with fail
          go_quiet (fail)
          go_wp2
          go_roundw
          case rel => exact ⟨k + 1, by omega, by go_num, E2, Lib.hid (below_drewN' HX.out _)⟩
          case measure => simp [intOf]; omega
        · have E2 := Lib.hid (show b = false by rw [E.out]; exact decide_eq_false (HNE.out (by simpa using hx)))
          go_wp2_with fail
          go_quiet (fail)
          go_wp2
          go_ret
          exact ⟨by rw [E2.out]; rfl, (below_drewN' HX.out _)⟩
      · have E2 := Lib.hid (show b = true by rw [E.out]; exact decide_eq_true (list_eq_ends HLN.out k HN.out (by omega)))
        go_wp2_with fail
        go_ret
        exact ⟨by rw [E2.out]; rfl, HX.out⟩
  · have E2 := Lib.hid (show b = false by rw [E.out]; exact decide_eq_false (fun g => hn (by rw [g])))
    have hn' : ((l.length : Int) == (m.length : Int)) = false := beq_eq_false_iff_ne.mpr (by omega)
    go_enter Try.func12, Try.ntmps12
    go_wp2
    go_ret
    exact ⟨by rw [E2.out]; rfl, Below.refl _ _⟩
end Go.Proofs.Ytndacljmcofopaa
