/-
  What the program's own named comes to: types, classes, methods, entries one behind the other.
-/
import Derived.Test.YtjgfoialajgfhaaSaneClass
import Derived.Test.YtjgfoialajgfhaaSaneMethod
import Derived.Test.YtjgfoialajgfhaaSaneEntry
import Derived.Test.YtjgfoialajgfhaaSaneTypes
import Derived.Test.YtjgfoialajgfhaaFitsDefs
namespace Go.Proofs.Ytjgfoialajgfhaa
set_option maxRecDepth 100000
set_option linter.unusedVariables false
set_option linter.unusedSimpArgs false
open Go.ChangeShapes Go.WideShapes Go.ChangeAt Go.RowKit
set_option linter.unusedVariables false
set_option linter.unusedSimpArgs false

/-- Is a class right, but for its types and its Super? -/
def clsAtB (m : Img) (i : Nat) : Bool := match m.classes[i]? with
  | some x => decide ((fieldsOf m.classes (i : Int)).length ≤ 8) && slotsB m i x
  | none => true
def clsOwnB (m : Img) : Bool := (List.range m.classes.length).all (clsAtB m)
theorem clsAt_some {m : Img} {i : Nat} {x : Cls} (h : m.classes[i]? = some x) : clsAtB m i = (decide ((fieldsOf m.classes (i : Int)).length ≤ 8) && slotsB m i x) := by
  unfold clsAtB
  rw [h]
theorem clsOwn_not {m : Img} {i : Nat} (hi : i < m.classes.length) (h : clsAtB m i = false) : clsOwnB m = false := by
  rw [Bool.eq_false_iff]
  intro g
  have := List.all_eq_true.mp g i (List.mem_range.mpr hi)
  rw [h] at this
  cases this
theorem above_own {m : Img} {i : Nat} {x : Cls} (h : ∀ j < i, clsAtB m j = true) (hs : x.sup < (i : Int)) (hp : ∀ y ∈ m.classes, ∀ s ∈ y.slots, 0 ≤ s) : ∀ q ∈ aboveSlots m x, 0 ≤ q ∧ ∃ g, m.methods[q.toNat]? = some g ∧ 0 < g.args.length := fun q hq => by
  unfold aboveSlots at hq
  split at hq
  · cases hy : m.classes[x.sup.toNat]? with
    | none => rw [hy] at hq; simp at hq
    | some y =>
      rw [hy] at hq
      have h1 := h x.sup.toNat (by omega)
      rw [clsAt_some hy] at h1
      simp only [Bool.and_eq_true] at h1
      have h2 := h1.2
      unfold slotsB at h2
      simp only [Bool.and_eq_true] at h2
      obtain ⟨j, hj⟩ := slotsFrom_at _ _ h2.2 q hq
      exact ⟨hp y (List.mem_of_getElem? hy) q hq, slotB_method hj⟩
  · simp at hq
/-- Is all there that an image names? (The program's own order.) -/
def snamedB (m : Img) : Bool := tnamedB m && (supsB m.classes && (clsOwnB m && (m.methods.all (mnamedB m) && m.entries.all (enamedB m))))

theorem stypes_is {m : Img} {h : Hnd} {w0 w : World} {r : Bool} (HI : Hid (ImgIn w0 w0.heap.size h m)) (HX : Hid (Below w0.heap.size w0 w)) (HN : Hid (m.classes.length ≤ 1000)) (HN' : Hid (m.methods.length ≤ 1000)) (HR : Hid (tnamedB m = r)) :
    Calls Try.prog 30 #[imgV h m] w fun e w' => e = .returned (.bool r) ∧ Below w.heap.size w w' := by
  have H := stypes_any m h w (HI.out.now HX.out) HN.out HN'.out
  rw [HR.out] at H
  exact H
theorem ssupers_is {m : Img} {h : Hnd} {w0 w : World} {r : Bool} (HI : Hid (ImgIn w0 w0.heap.size h m)) (HX : Hid (Below w0.heap.size w0 w)) (HR : Hid (supsB m.classes = r)) :
    Calls Try.prog 31 #[.slice h.A0 m.classes.length h.c0] w fun e w' => e = .returned (.bool r) ∧ Below w.heap.size w w' := by
  have H := ssupers_any m.classes h.A0 h.c0 w.heap.size w (Nat.le_refl _) (HI.out.now HX.out).classes
  rw [HR.out] at H
  exact H
theorem sslots_is {m : Img} {x : Cls} {i : Nat} {h : Hnd} {w0 w : World} {r : Bool} (HI : Hid (ImgIn w0 w0.heap.size h m)) (HX : Hid (Below w0.heap.size w0 w)) (HG : Hid (m.classes[i]? = some x)) (HP : Hid (∀ y ∈ m.classes, ∀ s ∈ y.slots, 0 ≤ s)) (HS : Hid (x.sup < m.classes.length)) (HT : Hid (Tame m))
    (HQ : Hid (∀ q ∈ aboveSlots m x, 0 ≤ q ∧ ∃ g, m.methods[q.toNat]? = some g ∧ 0 < g.args.length)) (HR : Hid (slotsB m i x = r)) :
    Calls Try.prog 33 #[imgV h m, .int .i64 (i : Int)] w fun e w' => e = .returned (.bool r) ∧ Below w.heap.size w w' := by
  have H := sslots_any m x i h w (HI.out.now HX.out) HG.out HP.out HS.out HT.out.n HQ.out
  rw [HR.out] at H
  exact H
theorem smethod_is {m : Img} {x : Mth} {N : Nat} {h : Hnd} {hx : MHnd} {w0 w : World} {r : Bool} (HI : Hid (ImgIn w0 w0.heap.size h m)) (HM : Hid (MthIn w0 w0.heap.size hx x)) (HX : Hid (Below w0.heap.size w0 w)) (HK : Hid (CntIn w N h m)) (HT : Hid (Tame m)) (HU : Hid (TameM x)) (HS : Hid (supsB m.classes = true)) (HR : Hid (mnamedB m x = r)) :
    Calls Try.prog 34 #[imgV h m, mthV hx x, cntV N] w fun e w' => e = .returned (.bool r) ∧ Below w.heap.size w w' := by
  have H := smethod_any m x N h hx w (HI.out.now HX.out) (HM.out.now HX.out) HK.out HT.out HU.out HS.out
  rw [HR.out] at H
  exact H
theorem sentry_is {m : Img} {n : Nat} {h : Hnd} {w0 w : World} {r : Bool} (HI : Hid (ImgIn w0 w0.heap.size h m)) (HX : Hid (Below w0.heap.size w0 w)) (HR : Hid (enamedB m (n : Int) = r)) :
    Calls Try.prog 35 #[imgV h m, .int .i64 (n : Int)] w fun e w' => e = .returned (.bool r) ∧ Below w.heap.size w w' := by
  have H := sentry_any m n h w (HI.out.now HX.out)
  rw [HR.out] at H
  exact H
theorem count_at {m : Img} {c : Int} {h : Hnd} {N : Nat} {w0 w : World} {L : List (Int × Int)} (HI : Hid (ImgIn w0 w0.heap.size h m)) (HX : Hid (Below w0.heap.size w0 w)) (HK : Hid (CntIn w N h m)) (HS : Hid (supsB m.classes = true)) (HT : Hid (Tame m)) (h1 : c < m.classes.length) (HL : Hid (fieldsOf m.classes c = L)) :
    Calls Try.prog 47 #[.int .i64 c, .pointer (some ⟨N, 0, none⟩)] w fun e w' => e = .returned (.int .i64 (L.length : Int)) ∧ w = w' := by
  have H := scount_any m.classes c N h.A0 h.c0 w.heap.size w (Nat.le_refl _) (HI.out.now HX.out).classes HK.out.cell HS.out HT.out.f HT.out.n h1
  rw [HL.out] at H
  exact H
theorem cnt_new (h : Hnd) (m : Img) (w : World) : CntIn (w.alloc (.cells #[.slice h.A0 m.classes.length h.c0] 22)) w.heap.size h m :=
  ⟨cells_new w [.slice h.A0 m.classes.length h.c0] 22 0 _ rfl, by simp⟩

set_option maxHeartbeats 6400000 in
theorem snamed_any (m : Img) (h : Hnd) (w : World) (H : ImgIn w w.heap.size h m) (hf : ImgFits m) :
    Calls Try.prog 12 #[imgV h m] w fun e w' => e = .returned (.bool (snamedB m)) ∧ Below w.heap.size w w' := by
  have HW := Lib.hid (below_box (w := w) (h := h) (m := m))
  have HBX := Lib.hid (img_box w h m)
  have HZ : Hid (w.heap.size < (w.alloc (imgO h m)).heap.size) := Lib.hid (by simp)
  have HI := Lib.hid (H.now HW.out)
  have HN : Hid (m.classes.length ≤ 1000) := Lib.hid (by have := hf.cl; omega)
  have HNM : Hid (m.methods.length ≤ 1000) := Lib.hid (by have := hf.ml; omega)
  have HT : Hid (Tame m) := Lib.hid ⟨by have := hf.cl; omega, fun x hx => by have := (hf.ct x hx).fl; omega⟩
  have HTM : Hid (∀ x ∈ m.methods, TameM x) := Lib.hid (fun x hx => ⟨by have := (hf.mt x hx).al; omega, by have := (hf.mt x hx).ll; omega, fun i hi => (instr_bounds ((hf.mt x hx).ct i hi)).2.2.1⟩)
  have HP : Hid (∀ y ∈ m.classes, ∀ s ∈ y.slots, 0 ≤ s) := Lib.hid (fun y hy s hs => ((hf.ct y hy).st s hs).1)
  have HPE : Hid (∀ n ∈ m.entries, 0 ≤ n) := Lib.hid (fun n hn => (hf.et n hn).1)
  have l0 := H.classes.le
  have l0c := H.classes.cap
  have l3 := H.methods.le
  have l3c := H.methods.cap
  have l4 := H.entries.le
  have l4c := H.entries.cap
  clear H hf
  obtain ⟨d1, hd1⟩ : ∃ d, tnamedB m = d := ⟨_, rfl⟩
  have D1 := Lib.hid hd1
  obtain ⟨d2, hd2⟩ : ∃ d, supsB m.classes = d := ⟨_, rfl⟩
  have D2 := Lib.hid hd2
  clear hd1 hd2
  go_enter Try.func12, Try.ntmps12
  go_upto_region 1 with fail
  generalize w.alloc (imgO h m) = w1 at *
  obtain ⟨q0, q1, q2, q3, q4, q5, q6⟩ := HBX.out
  have HX : Hid (Below w1.heap.size w1 w1) := Lib.hid (Below.refl _ _)
  cases d1
  · have E2 := Lib.hid (show snamedB m = false by unfold snamedB; rw [D1.out]; rfl)
    go_wp2_with (go_at_call 30; (with_reducible refine (stypes_is HI HX HN HNM D1).mono ?_); rintro e w5 ⟨rfl, hb⟩; have HX := Lib.hid (HX.out.trans (hb.mono HX.out.size)); obtain ⟨q0, q1, q2, q3, q4, q5, q6⟩ := HBX.out.keep HX.out HZ.out; clear hb)
    go_ret
    exact ⟨by rw [E2.out]; rfl, HW.out.trans (HX.out.mono (Nat.le_of_lt HZ.out))⟩
  · cases d2
    · have E2 := Lib.hid (show snamedB m = false by unfold snamedB; rw [D1.out, D2.out]; rfl)
      go_wp2_with (first | (go_at_call 30; (with_reducible refine (stypes_is HI HX HN HNM D1).mono ?_); rintro e w5 ⟨rfl, hb⟩; have HX := Lib.hid (HX.out.trans (hb.mono HX.out.size)); obtain ⟨q0, q1, q2, q3, q4, q5, q6⟩ := HBX.out.keep HX.out HZ.out; clear hb) | (go_at_call 31; (with_reducible refine (ssupers_is HI HX D2).mono ?_); rintro e w5 ⟨rfl, hb⟩; have HX := Lib.hid (HX.out.trans (hb.mono HX.out.size)); obtain ⟨q0, q1, q2, q3, q4, q5, q6⟩ := HBX.out.keep HX.out HZ.out; clear hb))
      go_ret
      exact ⟨by rw [E2.out]; rfl, HW.out.trans (HX.out.mono (Nat.le_of_lt HZ.out))⟩
    · have HS := D2
      go_upto_region 4 with (first | (go_at_call 30; (with_reducible refine (stypes_is HI HX HN HNM D1).mono ?_); rintro e w5 ⟨rfl, hb⟩; have HX := Lib.hid (HX.out.trans (hb.mono HX.out.size)); obtain ⟨q0, q1, q2, q3, q4, q5, q6⟩ := HBX.out.keep HX.out HZ.out; clear hb) | (go_at_call 31; (with_reducible refine (ssupers_is HI HX D2).mono ?_); rintro e w5 ⟨rfl, hb⟩; have HX := Lib.hid (HX.out.trans (hb.mono HX.out.size)); obtain ⟨q0, q1, q2, q3, q4, q5, q6⟩ := HBX.out.keep HX.out HZ.out; clear hb) | (go_at_call 32; (with_reducible refine (scounter_any _ _ _ _).mono ?_); rintro e w6 ⟨rfl, hw6⟩; have HK : Hid (CntIn w6 w5.heap.size h m) := Lib.hid (by rw [hw6]; exact cnt_new h m w5); have HX := Lib.hid (show Below w1.heap.size w1 w6 by rw [hw6]; exact HX.out.alloc HX.out.size _); obtain ⟨q0, q1, q2, q3, q4, q5, q6⟩ := HBX.out.keep HX.out HZ.out; clear hw6))
      generalize w5.heap.size = N at *
      go_wp2_with fail
      go_loopw [24] (fun i wr => ∃ k : Nat, k ≤ m.classes.length ∧ i = .int .i64 k ∧ Hid (∀ j < k, clsAtB m j = true) ∧ Hid (CntIn wr N h m) ∧ Hid (Below w1.heap.size w1 wr)) (fun i _ => m.classes.length - (intOf i).toNat)
      case atStart => exact ⟨0, by omega, rfl, Lib.hid (by intro j hj; omega), HK, HX⟩
      case round =>
        clear HX HK q0 q1 q2 q3 q4 q5 q6
        obtain ⟨k, hk, rfl, HNC, HK, HX⟩ := hrel
        obtain ⟨q0, q1, q2, q3, q4, q5, q6⟩ := HBX.out.keep HX.out HZ.out
        by_cases hlt : k < m.classes.length
        · have HG := Lib.hid (List.getElem?_eq_getElem hlt)
          generalize m.classes[k] = x at *
          have hsx := sups_at D2.out HG.out
          have HSX : Hid (x.sup < m.classes.length) := Lib.hid (by omega)
          have HPQ := Lib.hid (above_own HNC.out hsx HP.out)
          have HCA := Lib.hid (clsAt_some HG.out)
          have hki : (k : Int) < (m.classes.length : Int) := by omega
          obtain ⟨L, hL⟩ : ∃ L, fieldsOf m.classes (k : Int) = L := ⟨_, rfl⟩
          rw [hL] at HCA
          have HL := Lib.hid hL
          obtain ⟨d3, hd3⟩ : ∃ d, slotsB m k x = d := ⟨_, rfl⟩
          have D3 := Lib.hid hd3
          clear hd3 hL hsx
          by_cases c8 : L.length ≤ 8
          · have ct8 : ¬ (8 : Int) < (L.length : Int) := by omega
            cases d3
            · have E2 := Lib.hid (show snamedB m = false by unfold snamedB; rw [D1.out, D2.out, clsOwn_not hlt (HCA.out.trans (by rw [D3.out]; simp))]; rfl)
              go_wp2_with (first | (go_at_call 47; (with_reducible refine (count_at HI HX HK HS HT hki HL).mono ?_); rintro e w7 ⟨rfl, rfl⟩) | (go_at_call 33; (with_reducible refine (sslots_is HI HX HG HP HSX HT HPQ D3).mono ?_); rintro e w7 ⟨rfl, hb⟩; have HX := Lib.hid (HX.out.trans (hb.mono HX.out.size)); obtain ⟨q0, q1, q2, q3, q4, q5, q6⟩ := HBX.out.keep HX.out HZ.out; have HK := Lib.hid (HK.out.now hb); clear hb))
              go_ret
              exact ⟨by rw [E2.out]; rfl, HW.out.trans (HX.out.mono (Nat.le_of_lt HZ.out))⟩
            · have HY : Hid (∀ j < k + 1, clsAtB m j = true) := Lib.hid (fun j hj => by
                by_cases e : j = k
                · subst e; rw [HCA.out, D3.out, decide_eq_true c8]; rfl
                · exact HNC.out j (by omega))
              go_wp2_with (first | (go_at_call 47; (with_reducible refine (count_at HI HX HK HS HT hki HL).mono ?_); rintro e w7 ⟨rfl, rfl⟩) | (go_at_call 33; (with_reducible refine (sslots_is HI HX HG HP HSX HT HPQ D3).mono ?_); rintro e w7 ⟨rfl, hb⟩; have HX := Lib.hid (HX.out.trans (hb.mono HX.out.size)); obtain ⟨q0, q1, q2, q3, q4, q5, q6⟩ := HBX.out.keep HX.out HZ.out; have HK := Lib.hid (HK.out.now hb); clear hb))
              go_roundw
              case rel => exact ⟨k + 1, by omega, by go_num, HY, HK, HX⟩
              case measure => simp [intOf]; omega
          · have ct8 : (8 : Int) < (L.length : Int) := by omega
            have E2 := Lib.hid (show snamedB m = false by unfold snamedB; rw [D1.out, D2.out, clsOwn_not hlt (HCA.out.trans (by rw [decide_eq_false c8]; rfl))]; rfl)
            go_wp2_with (go_at_call 47; (with_reducible refine (count_at HI HX HK HS HT hki HL).mono ?_); rintro e w7 ⟨rfl, rfl⟩)
            go_ret
            exact ⟨by rw [E2.out]; rfl, HW.out.trans (HX.out.mono (Nat.le_of_lt HZ.out))⟩
        · have HCO := Lib.hid (show clsOwnB m = true from List.all_eq_true.mpr fun j hj => HNC.out j (by have := List.mem_range.mp hj; omega))
          go_wp2_with fail
          go_loopw [41] (fun i wr => ∃ k : Nat, k ≤ m.methods.length ∧ i = .int .i64 k ∧ Hid (∀ x ∈ m.methods.take k, mnamedB m x = true) ∧ Hid (CntIn wr N h m) ∧ Hid (Below w1.heap.size w1 wr)) (fun i _ => m.methods.length - (intOf i).toNat)
          case atStart => exact ⟨0, by omega, rfl, Lib.hid (by simp), HK, HX⟩
          case round =>
            clear HX HK q0 q1 q2 q3 q4 q5 q6 hlt hk
            obtain ⟨k, hk, rfl, HNM2, HK, HX⟩ := hrel
            obtain ⟨q0, q1, q2, q3, q4, q5, q6⟩ := HBX.out.keep HX.out HZ.out
            by_cases hlt : k < m.methods.length
            · obtain ⟨ad, e0, hab, hc⟩ := HI.out.methods.row.at_ hlt
              have HNO := Lib.hid (fun g : mnamedB m m.methods[k] = false => all_not hlt g)
              have HYE := Lib.hid (fun g : mnamedB m m.methods[k] = true => all_take hlt HNM2.out g)
              have HU := Lib.hid (HTM.out _ (List.getElem_mem hlt))
              generalize m.methods[k] = x at *
              obtain ⟨⟨A0, k0, s0, hs0⟩, ⟨A1, k1, s1, hs1⟩, s2, s3, ⟨A4, k4, s4, hs4⟩, s5, s6, ⟨A7, k7, s7, hs7⟩⟩ := hc
              have hP : (ad.add (k * 8)).block < w1.heap.size := by rw [addr_add_block]; exact hab
              have s0 := (HX.out.cell hP).trans s0
              have s1 := (HX.out.cell (p := off_ (ad.add (k * 8)) 1) hP).trans s1
              have s2 := (HX.out.cell (p := off_ (ad.add (k * 8)) 2) hP).trans s2
              have s3 := (HX.out.cell (p := off_ (ad.add (k * 8)) 3) hP).trans s3
              have s4 := (HX.out.cell (p := off_ (ad.add (k * 8)) 4) hP).trans s4
              have s5 := (HX.out.cell (p := off_ (ad.add (k * 8)) 5) hP).trans s5
              have s6 := (HX.out.cell (p := off_ (ad.add (k * 8)) 6) hP).trans s6
              have s7 := (HX.out.cell (p := off_ (ad.add (k * 8)) 7) hP).trans s7
              have HMX : Hid (MthIn w1 w1.heap.size ⟨A0, A1, A4, A7, k0, k1, k4, k7⟩ x) := Lib.hid ⟨hs0, hs1, hs4, hs7⟩
              rw [e0]
              obtain ⟨d4, hd4⟩ : ∃ d, mnamedB m x = d := ⟨_, rfl⟩
              have D4 := Lib.hid hd4
              clear hd4 e0 hs0 hs1 hs4 hs7 hP hab
              go_upto_region 13 with fail
              have HB3 := Lib.hid (cells_new wr [.slice A0 x.args.length k0, .slice A1 x.locals.length k1, .int .i64 x.ret.1, .int .i64 x.ret.2, .slice A4 x.code.length k4, .int .i64 x.depth, .int .i64 x.pot, .slice A7 x.phi.length k7] 38)
              have HK := Lib.hid (HK.out.now ((Below.refl wr.heap.size wr).alloc (Nat.le_refl _) (.cells ([.slice A0 x.args.length k0, .slice A1 x.locals.length k1, .int .i64 x.ret.1, .int .i64 x.ret.2, .slice A4 x.code.length k4, .int .i64 x.depth, .int .i64 x.pot, .slice A7 x.phi.length k7] : List Value).toArray 38)))
              have HX := Lib.hid (HX.out.alloc HX.out.size (.cells ([.slice A0 x.args.length k0, .slice A1 x.locals.length k1, .int .i64 x.ret.1, .int .i64 x.ret.2, .slice A4 x.code.length k4, .int .i64 x.depth, .int .i64 x.pot, .slice A7 x.phi.length k7] : List Value).toArray 38))
              have HB3 : Hid (Cells (wr.alloc (.cells ([.slice A0 x.args.length k0, .slice A1 x.locals.length k1, .int .i64 x.ret.1, .int .i64 x.ret.2, .slice A4 x.code.length k4, .int .i64 x.depth, .int .i64 x.pot, .slice A7 x.phi.length k7] : List Value).toArray 38)) wr.heap.size [.slice A0 x.args.length k0, .slice A1 x.locals.length k1, .int .i64 x.ret.1, .int .i64 x.ret.2, .slice A4 x.code.length k4, .int .i64 x.depth, .int .i64 x.pot, .slice A7 x.phi.length k7]) := HB3
              clear q0 q1 q2 q3 q4 q5 q6 s0 s1 s2 s3 s4 s5 s6 s7
              generalize wr.alloc (.cells ([.slice A0 x.args.length k0, .slice A1 x.locals.length k1, .int .i64 x.ret.1, .int .i64 x.ret.2, .slice A4 x.code.length k4, .int .i64 x.depth, .int .i64 x.pot, .slice A7 x.phi.length k7] : List Value).toArray 38) = w3 at *
              generalize wr.heap.size = gb at *
              have b0 := HB3.out 0 _ rfl
              have b1 := HB3.out 1 _ rfl
              have b2 := HB3.out 2 _ rfl
              have b3 := HB3.out 3 _ rfl
              have b4 := HB3.out 4 _ rfl
              have b5 := HB3.out 5 _ rfl
              have b6 := HB3.out 6 _ rfl
              have b7 := HB3.out 7 _ rfl
              obtain ⟨q0, q1, q2, q3, q4, q5, q6⟩ := HBX.out.keep HX.out HZ.out
              cases d4
              · have E2 := Lib.hid (show snamedB m = false by unfold snamedB; rw [D1.out, D2.out, HCO.out, HNO.out D4.out]; rfl)
                go_wp2_with (go_at_call 34; (with_reducible refine (smethod_is HI HMX HX HK HT HU HS D4).mono ?_); rintro e w7 ⟨rfl, hb⟩; have HX := Lib.hid (HX.out.trans (hb.mono HX.out.size)); obtain ⟨q0, q1, q2, q3, q4, q5, q6⟩ := HBX.out.keep HX.out HZ.out; have HK := Lib.hid (HK.out.now hb); clear hb)
                go_ret
                exact ⟨by rw [E2.out]; rfl, HW.out.trans (HX.out.mono (Nat.le_of_lt HZ.out))⟩
              · have HY := Lib.hid (HYE.out D4.out)
                go_wp2_with (go_at_call 34; (with_reducible refine (smethod_is HI HMX HX HK HT HU HS D4).mono ?_); rintro e w7 ⟨rfl, hb⟩; have HX := Lib.hid (HX.out.trans (hb.mono HX.out.size)); obtain ⟨q0, q1, q2, q3, q4, q5, q6⟩ := HBX.out.keep HX.out HZ.out; have HK := Lib.hid (HK.out.now hb); clear hb)
                go_roundw
                case rel => exact ⟨k + 1, by omega, by go_num, HY, HK, HX⟩
                case measure => simp [intOf]; omega
            · have HMA := Lib.hid (show m.methods.all (mnamedB m) = true from all_end HNM2.out (by omega))
              go_wp2_with fail
              go_loopw [54] (fun i wr => ∃ k : Nat, k ≤ m.entries.length ∧ i = .int .i64 k ∧ Hid (∀ n ∈ m.entries.take k, enamedB m n = true) ∧ Hid (CntIn wr N h m) ∧ Hid (Below w1.heap.size w1 wr)) (fun i _ => m.entries.length - (intOf i).toNat)
              case atStart => exact ⟨0, by omega, rfl, Lib.hid (by simp), HK, HX⟩
              case round =>
                clear HX HK q0 q1 q2 q3 q4 q5 q6 hlt hk
                obtain ⟨k, hk, rfl, HNE, HK, HX⟩ := hrel
                obtain ⟨q0, q1, q2, q3, q4, q5, q6⟩ := HBX.out.keep HX.out HZ.out
                by_cases hlt : k < m.entries.length
                · obtain ⟨ad, e0, hab, hc⟩ := HI.out.entries.row.at_ hlt
                  have hp := HPE.out _ (List.getElem_mem hlt)
                  have HNO := Lib.hid (fun g : enamedB m m.entries[k] = false => all_not hlt g)
                  have HYE := Lib.hid (fun g : enamedB m m.entries[k] = true => all_take hlt HNE.out g)
                  generalize m.entries[k] = n0 at *
                  obtain ⟨n, rfl⟩ := Int.eq_ofNat_of_zero_le hp
                  rw [Nat.mul_one] at hc
                  have t0 := (HX.out.cell (p := ad.add k) (by rw [addr_add_block]; exact hab)).trans hc
                  rw [e0]
                  obtain ⟨d5, hd5⟩ : ∃ d, enamedB m (n : Int) = d := ⟨_, rfl⟩
                  have D5 := Lib.hid hd5
                  clear hd5 e0 hc hab hp
                  cases d5
                  · have E2 := Lib.hid (show snamedB m = false by unfold snamedB; rw [D1.out, D2.out, HCO.out, HMA.out, HNO.out D5.out]; rfl)
                    go_wp2_with (go_at_call 35; (with_reducible refine (sentry_is HI HX D5).mono ?_); rintro e w7 ⟨rfl, hb⟩; have HX := Lib.hid (HX.out.trans (hb.mono HX.out.size)); obtain ⟨q0, q1, q2, q3, q4, q5, q6⟩ := HBX.out.keep HX.out HZ.out; have HK := Lib.hid (HK.out.now hb); clear hb)
                    go_ret
                    exact ⟨by rw [E2.out]; rfl, HW.out.trans (HX.out.mono (Nat.le_of_lt HZ.out))⟩
                  · have HY := Lib.hid (HYE.out D5.out)
                    go_wp2_with (go_at_call 35; (with_reducible refine (sentry_is HI HX D5).mono ?_); rintro e w7 ⟨rfl, hb⟩; have HX := Lib.hid (HX.out.trans (hb.mono HX.out.size)); obtain ⟨q0, q1, q2, q3, q4, q5, q6⟩ := HBX.out.keep HX.out HZ.out; have HK := Lib.hid (HK.out.now hb); clear hb)
                    go_roundw
                    case rel => exact ⟨k + 1, by omega, by go_num, HY, HK, HX⟩
                    case measure => simp [intOf]; omega
                · have E2 := Lib.hid (show snamedB m = true by unfold snamedB; rw [D1.out, D2.out, HCO.out, HMA.out, show m.entries.all (enamedB m) = true from all_end HNE.out (by omega)]; rfl)
                  go_wp2_with fail
                  go_ret
                  exact ⟨by rw [E2.out]; rfl, HW.out.trans (HX.out.mono (Nat.le_of_lt HZ.out))⟩
end Go.Proofs.Ytjgfoialajgfhaa
