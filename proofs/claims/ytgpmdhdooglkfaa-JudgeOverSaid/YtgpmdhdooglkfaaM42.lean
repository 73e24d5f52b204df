/-
  What the program's own step (flow.Step) comes to, at any place of a sane image.
-/
import Derived.Test.YtgpmdhdooglkfaaM41
import Derived.Test.YtgpmdhdooglkfaaM19
namespace Go.Proofs.Ytgpmdhdooglkfaa
set_option maxRecDepth 100000
set_option linter.unusedVariables false
set_option linter.unusedSimpArgs false
open Go.ChangeShapes Go.WideShapes Go.ChangeAt Go.RowKit

theorem slcNow {α : Type} {At : AtP α} (hK : Keeps At) {k : Nat} {w w' : World} {A : Option Addr} {c : Nat} {l : List α} (h : SlcIs At k w w.heap.size A c l) (hb : Below w.heap.size w w') : SlcIs At k w' w'.heap.size A c l :=
  (h.below_to hK hb (Nat.le_refl _)).keep' hK hb.size (fun _ _ => rfl)
theorem lenb_ite {c : Prop} [Decidable c] {A B : List (Int × Int)} {n : Nat} (hA : c → A.length ≤ n) (hB : ¬ c → B.length ≤ n) : (if c then A else B).length ≤ n := by
  by_cases g : c
  · rw [if_pos g]; exact hA g
  · rw [if_neg g]; exact hB g
theorem take_len {m : Img} {x : Mth} {f : Nat} {op a b : Int} (hm : SaneI m) (hg : m.methods[f]? = some x) (hi : instrB op a b = true) (hn : namedB m x op a b = true) : (takeOf m x op a b).length ≤ 1000 := by
  obtain ⟨o0, o1, a0, a1, b0, b1⟩ := instr_bounds hi
  unfold takeOf
  iterate 13 refine lenb_ite (fun _ => (by simp)) (fun _ => ?_)
  refine lenb_ite (fun _ => Nat.le_trans (givesOf_len x) (by decide)) (fun _ => ?_)
  refine lenb_ite (fun h => ?_) (fun _ => ?_)
  · subst h
    have h1 := named_call hn
    have h2 : a.toNat < m.methods.length := by omega
    have h3 : mthN m a ∈ m.methods := by unfold mthN; rw [List.getElem?_eq_getElem h2]; exact List.getElem_mem h2
    have := (hm.method h3).all
    omega
  refine lenb_ite (fun h => ?_) (fun _ => ?_)
  · subst h
    obtain ⟨_, k, y, hk, hy, _⟩ := named_virt hm a0 b0 hn
    have h3 : mthN m (slotN m a b) = y := by unfold mthN slotN; rw [hk, Option.getD_some, Int.toNat_natCast, hy]; rfl
    rw [h3, List.length_cons, List.length_drop]
    have := (hm.method (List.mem_of_getElem? hy)).all
    omega
  exact lenb_ite (fun _ => (by simp)) (fun _ => (by simp))
/-- A step's answer, its lists in memory that was not there. -/
def StepOwn (r : StepR) (w : World) (e : Ending) (w' : World) : Prop :=
  ∃ A c A' c', e = .returned (.tuple #[.slice A r.after.length c, .slice A' r.next.length c', .int .i64 r.err]) ∧ SlcIs TyAt 2 w' w'.heap.size A c r.after ∧ SlcIs IntAt 1 w' w'.heap.size A' c' r.next ∧ (∀ ad, A = some ad → w.heap.size ≤ ad.block) ∧ (∀ ad, A' = some ad → w.heap.size ≤ ad.block) ∧ Below w.heap.size w w'
theorem StepOwn.is {r : StepR} {w w' : World} {e : Ending} (h : StepOwn r w e w') : StepIs r w e w' := by
  obtain ⟨A, c, A', c', h1, h2, h3, _, _, h6⟩ := h
  exact ⟨A, c, A', c', h1, h2, h3, h6⟩
theorem stepo_bad (n : Int) {w w' : World} (hb : Below w.heap.size w w') : StepOwn (badStep n) w (.returned (.tuple #[.slice none 0 0, .slice none 0 0, .int .i64 n])) w' :=
  ⟨none, 0, none, 0, rfl, ⟨Nat.le_refl _, by omega, fun i t hi => by simp [badStep] at hi⟩, ⟨Nat.le_refl _, by omega, fun i t hi => by simp [badStep] at hi⟩, (fun ad e => by cases e), (fun ad e => by cases e), hb⟩
theorem own_at {w : World} {B e n : Nat} {A : Option Addr} {m c : Nat} {xs : List Value} {k : Nat} (h : w.ownsRow B e k (.slice A m c) n xs) : ∀ ad, A = some ad → B ≤ ad.block := fun ad ea => by
  subst ea
  have := (h.lt ad.block rfl).1
  exact this
theorem fstep_out1 (m : Img) (f pc : Int) (st : List (Int × Int)) (A : Option Addr) (cap : Nat) (h : Hnd) (w : World) (H : ImgIn w w.heap.size h m) (hf : f < 0 ∨ (m.methods.length : Int) ≤ f) :
    Calls Try.prog 32 #[imgV h m, .int .i64 f, .int .i64 pc, .slice A st.length cap] w (StepOwn (stepOf m f pc st) w) := by
  have e0 : stepOf m f pc st = badStep 1 := by unfold stepOf; rw [if_neg (by omega)]
  rw [e0]
  have hle := H.methods.le
  have hcap := H.methods.cap
  have HF := Lib.hid hf
  have hpc : pc < 0 ∨ ((0 : Nat) : Int) ≤ pc := by omega
  have HPC := Lib.hid hpc
  have HW := Lib.hid ((Below.refl w.heap.size w).alloc (Nat.le_refl _) (imgO h m))
  have HBX := Lib.hid (img_box w h m)
  clear H e0 hf hpc
  go_enter Try.func32, Try.ntmps32
  go_upto_region 1 with fail
  generalize w.alloc (imgO h m) = w1 at *
  obtain ⟨q0, q1, q2, q3, q4, q5, q6⟩ := HBX.out
  go_upto_region 2 with (go_at_call 53; (with_reducible refine (fatmth0_no f m.methods.length h.c3 h.A3 w1 (by omega) HF.out).mono ?_); rintro e w2 ⟨rfl, hb⟩; have HB2 := Lib.hid hb; clear hb)
  have HC := Lib.hid (cells_new w2 [.slice none 0 0, .slice none 0 0, .int .i64 0, .int .i64 0, .slice none 0 0, .int .i64 0, .int .i64 0, .slice none 0 0] 52)
  have HB3 : Hid (Below w1.heap.size w1 (w2.alloc (.cells ([.slice none 0 0, .slice none 0 0, .int .i64 0, .int .i64 0, .slice none 0 0, .int .i64 0, .int .i64 0, .slice none 0 0] : List Value).toArray 52))) := Lib.hid (HB2.out.alloc HB2.out.size _)
  change Code.wp _ _ _ _ (w2.alloc (.cells ([.slice none 0 0, .slice none 0 0, .int .i64 0, .int .i64 0, .slice none 0 0, .int .i64 0, .int .i64 0, .slice none 0 0] : List Value).toArray 52))
  generalize w2.alloc (.cells ([.slice none 0 0, .slice none 0 0, .int .i64 0, .int .i64 0, .slice none 0 0, .int .i64 0, .int .i64 0, .slice none 0 0] : List Value).toArray 52) = w3 at *
  have c4 := HC.out 4 _ rfl
  go_wp2_with (go_at_call 54; (with_reducible refine (fatins_no pc 0 0 none w3 (by omega) HPC.out).mono ?_); rintro e w4 ⟨rfl, hb⟩; have HB4 := Lib.hid (HB3.out.trans (hb.mono HB3.out.size)); clear hb)
  go_ret3
  exact stepo_bad 1 (HW.out.trans ((HB4.out.alloc HB4.out.size _).mono HW.out.size))
theorem fstep_out2 (m : Img) (x : Mth) (F : Nat) (pc : Int) (st : List (Int × Int)) (A : Option Addr) (cap : Nat) (h : Hnd) (w : World) (H : ImgIn w w.heap.size h m) (hx : m.methods[F]? = some x) (hp : pc < 0 ∨ (x.code.length : Int) ≤ pc) :
    Calls Try.prog 32 #[imgV h m, .int .i64 F, .int .i64 pc, .slice A st.length cap] w (StepOwn (stepOf m F pc st) w) := by
  have e0 : stepOf m F pc st = badStep 1 := by
    unfold stepOf mthN
    rw [Int.toNat_natCast, hx, Option.getD_some, if_neg (by omega)]
  rw [e0]
  have HP := Lib.hid hp
  have HG := Lib.hid hx
  have HW := Lib.hid ((Below.refl w.heap.size w).alloc (Nat.le_refl _) (imgO h m))
  have HI := Lib.hid (H.now HW.out)
  have HBX := Lib.hid (img_box w h m)
  clear H e0 hp hx
  go_enter Try.func32, Try.ntmps32
  go_upto_region 1 with fail
  generalize w.alloc (imgO h m) = w1 at *
  obtain ⟨q0, q1, q2, q3, q4, q5, q6⟩ := HBX.out
  have HX0 : Hid (Below w1.heap.size w1 w1) := Lib.hid (Below.refl _ _)
  go_upto_region 2 with (go_at_call 53; (with_reducible refine (fatmth_is HI HX0 HG.out).mono ?_); rintro e w2 ⟨hn, rfl, hmi, hb⟩; have HM2 := Lib.hid hmi; have HB2 := Lib.hid hb; clear hmi hb)
  have hc1 := HM2.out.code.le
  have hc2 := HM2.out.code.cap
  have HC := Lib.hid (cells_new w2 (mthL hn x) 52)
  have HB3 : Hid (Below w1.heap.size w1 (w2.alloc (.cells (mthL hn x).toArray 52))) := Lib.hid (HB2.out.alloc HB2.out.size _)
  generalize w2.alloc (.cells (mthL hn x).toArray 52) = w3 at *
  have c4 := HC.out 4 _ rfl
  go_wp2_with (go_at_call 54; (with_reducible refine (fatins_no pc x.code.length hn.k4 hn.A4 w3 (by omega) HP.out).mono ?_); rintro e w4 ⟨rfl, hb⟩; have HB4 := Lib.hid (HB3.out.trans (hb.mono HB3.out.size)); clear hb)
  go_ret3
  exact stepo_bad 1 (HW.out.trans ((HB4.out.alloc HB4.out.size _).mono HW.out.size))

set_option maxHeartbeats 3200000 in
theorem fstep_in (m : Img) (x : Mth) (F P : Nat) (op a b : Int) (st : List (Int × Int)) (A : Option Addr) (cap : Nat) (h : Hnd) (w : World) (H : ImgIn w w.heap.size h m) (hm : SaneI m) (hx : m.methods[F]? = some x) (hin : instrB op a b = true) (hna : namedB m x op a b = true)
    (hi : x.code[P]? = some (op, a, b)) (hst : SlcIs TyAt 2 w w.heap.size A cap st) (hs : st.length ≤ 4000) (r : StepR) (hr : stepIn m x P op a b st = r) :
    Calls Try.prog 32 #[imgV h m, .int .i64 F, .int .i64 P, .slice A st.length cap] w (StepOwn r w) := by
  have HR := Lib.hid hr.symm
  have hxm := hm.method (List.mem_of_getElem? hx)
  have HFI := Lib.hid hi
  have HG := Lib.hid hx
  have HN := Lib.hid (And.intro hin hna)
  have hcl : m.classes.length ≤ 1000 := by have := hm.fits.cl; omega
  have hP : P < x.code.length := by
    rcases Nat.lt_or_ge P x.code.length with g | g
    · exact g
    · rw [List.getElem?_eq_none g] at hi; cases hi
  have hPm : P ≤ 1000000 := by have := hxm.fits.cl; omega
  obtain ⟨NL, hNL⟩ : ∃ NL, nextOfOp (P : Int) op a = NL := ⟨_, rfl⟩
  obtain ⟨W, hW⟩ : ∃ W, wantsOf m x op a b = W := ⟨_, rfl⟩
  have HNL := Lib.hid hNL
  have HWL := Lib.hid hW
  have hWl : W.length ≤ 1000 := by
    rw [← hW, wants_len hm hx hin hna]
    split
    · omega
    · exact take_len hm hx hin hna
  obtain ⟨d, hd⟩ : ∃ d, st.length - W.length = d := ⟨_, rfl⟩
  have HD := Lib.hid hd
  obtain ⟨RS, hRS⟩ : ∃ RS, st.take d = RS := ⟨_, rfl⟩
  obtain ⟨TK, hTK⟩ : ∃ TK, st.drop d = TK := ⟨_, rfl⟩
  obtain ⟨GV, hGV⟩ : ∃ GV, givesP m x op a b TK = GV := ⟨_, rfl⟩
  have hTl : TK.length ≤ 1000 := by rw [← hTK, List.length_drop]; omega
  have hRl : RS.length ≤ 4000 := by rw [← hRS, List.length_take]; omega
  have hGl : GV.length ≤ 1000 ∨ op = 6 := by
    by_cases h6 : op = 6
    · exact .inr h6
    · refine .inl ?_
      rw [← hGV]
      unfold givesP
      rw [if_neg h6]
      have := giveOf_len m x op a b
      omega
  obtain ⟨AF, hAF⟩ : ∃ AF, RS ++ GV = AF := ⟨_, rfl⟩
  have HAF := Lib.hid hAF
  have HGV := Lib.hid hGV
  have HRS := Lib.hid hRS
  have HTK := Lib.hid hTK
  obtain ⟨r1, hr1⟩ : ∃ r, farB x.code.length NL = r := ⟨_, rfl⟩
  obtain ⟨r2, hr2⟩ : ∃ r, allFitB (supsOf m.classes) TK W = r := ⟨_, rfl⟩
  have HR1 := Lib.hid hr1
  have HR2 := Lib.hid hr2
  have HE1 : Hid (r1 = true → r = badStep 4) := Lib.hid (fun g => by rw [← hr]; exact step_far hna (by rw [hNL, hr1, g]))
  have HE2 : Hid (r1 = false → r = if r2 = true then (if 8 < AF.length then badStep 4 else ⟨AF, NL, 0⟩) else badStep 4) := Lib.hid (fun g => by
    rw [← hr, step_prog hm hx hin hna (by rw [hNL, hr1, g]), hW, hNL]
    unfold stepTailP
    rw [hd, hTK, hRS, hGV, hAF, hr2])
  have h2 := H.methods.le
  have hGl2 : r2 = true → GV.length ≤ 1000 := fun g => by
    rcases hGl with q | q
    · exact q
    · subst q
      have e1 : W = [(6, 0)] := by rw [← hW]; simp [wantsOf]
      rw [← hr2] at g
      unfold allFitB at g
      rw [Bool.and_eq_true, decide_eq_true_eq, e1] at g
      have e2 : GV = TK ++ TK := by rw [← hGV]; unfold givesP; rw [if_pos rfl]
      rw [e2, List.length_append, g.1]
      decide
  have HGL := Lib.hid hGl2
  have HW0 := Lib.hid ((Below.refl w.heap.size w).alloc (Nat.le_refl _) (imgO h m))
  have HI := Lib.hid (H.now HW0.out)
  have HBX := Lib.hid (img_box w h m)
  have HZ1 : Hid (w.heap.size < (w.alloc (imgO h m)).heap.size) := Lib.hid (by simp)
  have HST := Lib.hid (slcNow TyAt.keeps hst HW0.out)
  clear H hr hNL hW hd hRS hTK hGV hAF hr1 hr2 hGl hGl2 hin hna hi hx hst hxm hP
  go_enter Try.func32, Try.ntmps32
  go_upto_region 1 with fail
  generalize w.alloc (imgO h m) = w1 at *
  obtain ⟨q0, q1, q2, q3, q4, q5, q6⟩ := HBX.out
  have HX0 : Hid (Below w1.heap.size w1 w1) := Lib.hid (Below.refl _ _)
  go_upto_region 2 with (go_at_call 53; (with_reducible refine (fatmth_is HI HX0 HG.out).mono ?_); rintro e w2 ⟨hn, rfl, hmi, hb⟩; have HM2 := Lib.hid hmi; have HB2 := Lib.hid hb; clear hmi hb)
  have HC := Lib.hid (cells_new w2 (mthL hn x) 52)
  have HA : Hid (Below w2.heap.size w2 (w2.alloc (.cells (mthL hn x).toArray 52))) := Lib.hid ((Below.refl _ _).alloc (Nat.le_refl _) _)
  have HZ3 : Hid (w2.heap.size < (w2.alloc (.cells (mthL hn x).toArray 52)).heap.size) := Lib.hid (by simp)
  have HM3 := Lib.hid (HM2.out.now HA.out)
  have HB3 := Lib.hid (HB2.out.trans (HA.out.mono HB2.out.size))
  generalize w2.alloc (.cells (mthL hn x).toArray 52) = w3 at *
  have c4 := HC.out 4 _ rfl
  go_upto_region 3 with (go_at_call 54; (with_reducible refine (fatins_is HM3.out.code HFI.out).mono ?_); rintro e w4 ⟨rfl, hb⟩; have HY4 := Lib.hid hb; have HB4 := Lib.hid (HB3.out.trans (hb.mono HB3.out.size)); clear hb)
  have HC5 := Lib.hid (cells_new w4 [.int .i64 op, .int .i64 a, .int .i64 b] 49)
  have HZ5 : Hid (w4.heap.size < (w4.alloc (.cells #[.int .i64 op, .int .i64 a, .int .i64 b] 49)).heap.size) := Lib.hid (by simp)
  have HY5 : Hid (Below w3.heap.size w3 (w4.alloc (.cells #[.int .i64 op, .int .i64 a, .int .i64 b] 49))) := Lib.hid (HY4.out.alloc HY4.out.size _)
  have HB5 : Hid (Below w1.heap.size w1 (w4.alloc (.cells #[.int .i64 op, .int .i64 a, .int .i64 b] 49))) := Lib.hid (HB4.out.alloc HB4.out.size _)
  clear q0 q1 q2 q3 q4 q5 q6 c4
  generalize w4.alloc (.cells #[.int .i64 op, .int .i64 a, .int .i64 b] 49) = w5 at *
  have HC3 := Lib.hid (HC.out.keep HY5.out HZ3.out)
  have HBX5 := Lib.hid (HBX.out.keep HB5.out HZ1.out)
  have HI5 := Lib.hid (HI.out.now HB5.out)
  have HST5 := Lib.hid (slcNow TyAt.keeps HST.out HB5.out)
  have HM5 : Hid (w2.heap.size < w5.heap.size) := Lib.hid (Nat.lt_of_lt_of_le HZ3.out HY5.out.size)
  have HN5 : Hid (w.heap.size < w5.heap.size) := Lib.hid (Nat.lt_of_lt_of_le HZ1.out HB5.out.size)
  have HW5 := Lib.hid (HW0.out.trans (HB5.out.mono HW0.out.size))
  clear HC HM2 HB2 HM3 HB3 HA HB4 HY4 HY5 HBX HI HST HB5 HX0
  have o0 := HC5.out 0 _ rfl
  have o1 := HC5.out 1 _ rfl
  have o2 := HC5.out 2 _ rfl
  go_upto_region 6 with (go_at_call 55; (with_reducible refine (fgoes_nis HNL hPm).mono ?_); rintro e w6 ⟨An, cn, rfl, hs6, hna, hb⟩; have HX6 := Lib.hid hb; have HS6 := Lib.hid hs6; have HNA := Lib.hid hna; clear hs6 hb hna)
  have d4 := (HC3.out.keep HX6.out HM5.out) 4 _ rfl
  cases r1
  · have HX6' := HX6
    go_upto_region 8 with (go_at_call 56; (with_reducible refine (fleaves_is HS6.out HR1).mono ?_); rintro e w7 ⟨rfl, hb⟩; have HX7 := Lib.hid (HX6.out.trans (hb.mono HX6.out.size)); have HS7 := Lib.hid (slcNow IntAt.keeps HS6.out hb); clear hb)
    clear o0 o1 o2 d4
    have o0 := (HC5.out.keep HX7.out HZ5.out) 0 _ rfl
    have o1 := (HC5.out.keep HX7.out HZ5.out) 1 _ rfl
    have o2 := (HC5.out.keep HX7.out HZ5.out) 2 _ rfl
    obtain ⟨q0, q1, q2, q3, q4, q5, q6⟩ := HBX5.out.keep HX7.out HN5.out
    go_upto_region 9 with (go_at_call 57; (with_reducible refine (ftakes_is HI5 HX7 hm HG HN HWL).mono ?_); rintro e w8 ⟨Aw, cw, rfl, hs8, hb⟩; have HX8 := Lib.hid (HX7.out.trans (hb.mono HX7.out.size)); have HS8 := Lib.hid (slcNow IntAt.keeps HS7.out hb); have HWS8 := Lib.hid hs8; clear hb hs8)
    have HST8 := Lib.hid (slcNow TyAt.keeps HST5.out HX8.out)
    go_upto_region 10 with (go_at_call 58; (with_reducible refine (fcut_any st W.length (by omega) (by omega) A cap _ HST8.out).mono ?_); rintro e w9 ⟨A1, c1, A2, c2, rfl, hs1, hs2, hb, hh⟩; rw [HD.out] at *; rw [HRS.out] at *; rw [HTK.out] at *; have HX9 := Lib.hid (HX8.out.trans (hb.mono HX8.out.size)); have HS9 := Lib.hid (slcNow IntAt.keeps HS8.out hb); have HWS9 := Lib.hid (slcNow TyAt.keeps HWS8.out hb); have HRS9 := Lib.hid (slcNow TyAt.keeps hs1 hb); have HTK9 := Lib.hid (slcNow TyAt.keeps hs2 hb); clear hb hs1 hs2 hh)
    clear q0 q1 q2 q3 q4 q5 q6 o0 o1 o2
    obtain ⟨q0, q1, q2, q3, q4, q5, q6⟩ := HBX5.out.keep HX9.out HN5.out
    cases r2
    · go_wp2_with (go_at_call 59; (with_reducible refine (fallfit_is HI5 HX9 hcl HTK9.out HWS9.out HR2).mono ?_); rintro e w10 ⟨rfl, hb⟩; have HX10 := Lib.hid (HX9.out.trans (hb.mono HX9.out.size)); have HS10 := Lib.hid (slcNow IntAt.keeps HS9.out hb); have HRS10 := Lib.hid (slcNow TyAt.keeps HRS9.out hb); have HTK10 := Lib.hid (slcNow TyAt.keeps HTK9.out hb); clear hb)
      go_ret3
      rw [HE2.out (by simp), if_neg (by simp)]
      exact stepo_bad 4 (HW5.out.trans (HX10.out.mono HW5.out.size))
    · go_upto_region 12 with (go_at_call 59; (with_reducible refine (fallfit_is HI5 HX9 hcl HTK9.out HWS9.out HR2).mono ?_); rintro e w10 ⟨rfl, hb⟩; have HX10 := Lib.hid (HX9.out.trans (hb.mono HX9.out.size)); have HS10 := Lib.hid (slcNow IntAt.keeps HS9.out hb); have HRS10 := Lib.hid (slcNow TyAt.keeps HRS9.out hb); have HTK10 := Lib.hid (slcNow TyAt.keeps HTK9.out hb); clear hb)
      clear q0 q1 q2 q3 q4 q5 q6
      have o0 := (HC5.out.keep HX10.out HZ5.out) 0 _ rfl
      have o1 := (HC5.out.keep HX10.out HZ5.out) 1 _ rfl
      have o2 := (HC5.out.keep HX10.out HZ5.out) 2 _ rfl
      obtain ⟨q0, q1, q2, q3, q4, q5, q6⟩ := HBX5.out.keep HX10.out HN5.out
      have hGl := HGL.out (by simp)
      go_upto_region 13 with (first
        | (go_at_call 61; (with_reducible refine (fgives_is HI5 HX10 hm HG HN HGV hTl HTK10.out).mono ?_); rintro e w11 ⟨Ag, cg, rfl, hsg, hb⟩; have HX11 := Lib.hid (HX10.out.trans (hb.mono HX10.out.size)); have HS11 := Lib.hid (slcNow IntAt.keeps HS10.out hb); have HRS11 := Lib.hid (slcNow TyAt.keeps HRS10.out hb); have HGV11 := Lib.hid hsg; clear hb hsg)
        | (go_at_call 60; (with_reducible refine (fconcat_more (g := w11.heap.size) HAF (ftslc_alloc HRS11.out _) (ftslc_alloc HGV11.out _) (by simp) (cells_new w11 [.slice A1 RS.length c1, .slice Ag GV.length cg] 23) hRl hGl).mono ?_); rintro e w12 ⟨v12, rfl, ho, hb⟩; have hb' := ((Below.refl w11.heap.size w11).alloc (Nat.le_refl _) (.cells #[.slice A1 RS.length c1, .slice Ag GV.length cg] 23)).trans (hb.mono (by simp)); obtain ⟨Af, cf, rfl, hsf, _⟩ := own_types ho; have HFA := Lib.hid (own_at ho); have HX12 := Lib.hid (HX11.out.trans (hb'.mono HX11.out.size)); have HS12 := Lib.hid (slcNow IntAt.keeps HS11.out hb'); have HAF12 := Lib.hid hsf; clear hb hb' ho hsf))
      by_cases h8 : 8 < AF.length
      · have h8' : (AF.length : Int) > 8 := by omega
        have H8 := Lib.hid h8
        go_wp2_with fail
        go_ret3
        rw [HE2.out (by simp), if_pos trivial, if_pos H8.out]
        exact stepo_bad 4 (HW5.out.trans (HX12.out.mono HW5.out.size))
      · have h8' : ¬ (AF.length : Int) > 8 := by omega
        have H8 := Lib.hid h8
        go_wp2_with fail
        go_ret3
        rw [HE2.out (by simp), if_pos trivial, if_neg H8.out]
        exact ⟨_, _, _, _, rfl, HAF12.out, HS12.out, fun ad ea => Nat.le_trans (Nat.le_trans (Nat.le_trans HW5.out.size HX11.out.size) (by simp)) (HFA.out ad ea), fun ad ea => Nat.le_trans HW5.out.size (HNA.out ad ea), HW5.out.trans (HX12.out.mono HW5.out.size)⟩
  · go_wp2_with (go_at_call 56; (with_reducible refine (fleaves_is HS6.out HR1).mono ?_); rintro e w7 ⟨rfl, hb⟩; have HX7 := Lib.hid (HX6.out.trans (hb.mono HX6.out.size)); clear hb)
    go_ret3
    rw [HE1.out (by simp)]
    exact stepo_bad 4 (HW5.out.trans (HX7.out.mono HW5.out.size))
theorem fstep_own (m : Img) (f pc : Int) (st : List (Int × Int)) (A : Option Addr) (cap : Nat) (h : Hnd) (w : World) (H : ImgIn w w.heap.size h m) (hm : SaneI m) (hst : SlcIs TyAt 2 w w.heap.size A cap st) (hs : st.length ≤ 4000) :
    Calls Try.prog 32 #[imgV h m, .int .i64 f, .int .i64 pc, .slice A st.length cap] w (StepOwn (stepOf m f pc st) w) := by
  by_cases f0 : f < 0 ∨ (m.methods.length : Int) ≤ f
  · exact fstep_out1 m f pc st A cap h w H f0
  obtain ⟨F, rfl⟩ := Int.eq_ofNat_of_zero_le (show 0 ≤ f by omega)
  have hF : F < m.methods.length := by omega
  obtain ⟨x, hx⟩ : ∃ x, m.methods[F]? = some x := ⟨_, List.getElem?_eq_getElem hF⟩
  by_cases p0 : pc < 0 ∨ (x.code.length : Int) ≤ pc
  · exact fstep_out2 m x F pc st A cap h w H hx p0
  obtain ⟨P, rfl⟩ := Int.eq_ofNat_of_zero_le (show 0 ≤ pc by omega)
  have hP : P < x.code.length := by omega
  obtain ⟨⟨op, a, b⟩, hi⟩ : ∃ i, x.code[P]? = some i := ⟨_, List.getElem?_eq_getElem hP⟩
  have e : stepOf m (F : Int) (P : Int) st = stepIn m x P op a b st := by
    unfold stepOf mthN
    rw [Int.toNat_natCast, hx, Option.getD_some, if_pos ⟨by omega, by omega, by omega, by omega⟩, Int.toNat_natCast, hi]
  rw [e]
  have hxm := hm.method (List.mem_of_getElem? hx)
  have him := List.mem_of_getElem? hi
  exact fstep_in m x F P op a b st A cap h w H hm hx (hxm.fits.ct _ him) (hxm.co _ him) hi hst hs _ rfl
theorem fstep_any (m : Img) (f pc : Int) (st : List (Int × Int)) (A : Option Addr) (cap : Nat) (h : Hnd) (w : World) (H : ImgIn w w.heap.size h m) (hm : SaneI m) (hst : SlcIs TyAt 2 w w.heap.size A cap st) (hs : st.length ≤ 4000) :
    Calls Try.prog 32 #[imgV h m, .int .i64 f, .int .i64 pc, .slice A st.length cap] w (StepIs (stepOf m f pc st) w) :=
  (fstep_own m f pc st A cap h w H hm hst hs).mono fun _ _ h => h.is
end Go.Proofs.Ytgpmdhdooglkfaa
