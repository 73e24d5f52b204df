/-
  What flow's word for whether all operands fit where others are wanted (allFit) comes to.
  What the program wants of operands, and what the document does, come to the same at any instruction of a sane image. Plain lemmas; no conditions.
  What flow.takes, flow.gives and flow.Takes come to at any instruction of a sane image.
  What flow's word for cutting a stack (cut) comes to.
-/
import Derived.Test.YtgpmdhdooglkfaaM40
import Derived.Test.YtgpmdhdooglkfaaM36
import Derived.Test.YtgpmdhdooglkfaaM23
import Derived.Test.YtgpmdhdooglkfaaM37
import Derived.Test.YtgpmdhdooglkfaaM38
import Derived.Test.YtgpmdhdooglkfaaM39
import Derived.Test.YtgpmdhdooglkfaaM35
import Derived.IntWalk
namespace Go.Proofs.Ytgpmdhdooglkfaa
set_option maxRecDepth 100000
set_option linter.unusedVariables false
set_option linter.unusedSimpArgs false
open Go.ChangeShapes Go.WideShapes Go.ChangeAt Go.RowKit

theorem zip_at {L U : List (Int × Int)} {k : Nat} (h : k < L.length) (h' : k < U.length) : ∃ hz : k < (L.zip U).length, (L.zip U)[k] = (L[k], U[k]) := ⟨by rw [List.length_zip]; omega, by simp⟩
theorem supers_up {w w' : World} {A : Option Addr} {sup : List Int} (h : Supers w w.heap.size A sup) (hb : Below w.heap.size w w') : Supers w' w'.heap.size A sup := fun i s hs => by
  obtain ⟨ad, e, hlt, hc⟩ := h i s hs
  exact ⟨ad, e, Nat.lt_of_lt_of_le hlt hb.size, (hb.cell (by rw [addr_add_block]; omega)).trans hc⟩
theorem ffit1_is {sup : List Int} {t u : Int × Int} {A : Option Addr} {c N : Nat} {w0 w : World} {r : Bool} (hl : sup.length ≤ 1048576) (HS : Hid (Supers w0 w0.heap.size A sup)) (HN : Hid (N < w0.heap.size)) (HC : Hid (w0.cell? ⟨N, 0, none⟩ = some (.slice A sup.length c))) (HX : Hid (Below w0.heap.size w0 w)) (HR : Hid (fitB sup t u = r)) :
    Calls Try.prog 83 #[tyV t.1 t.2, tyV u.1 u.2, .pointer (some ⟨N, 0, none⟩)] w fun e w' => e = .returned (.bool r) ∧ Below w.heap.size w w' := by
  have H := ffit1_any sup t.1 t.2 u.1 u.2 A c N w hl (supers_up HS.out HX.out) (Nat.lt_of_lt_of_le HN.out HX.out.size) ((HX.out.cell (p := ⟨N, 0, none⟩) HN.out).trans HC.out)
  rw [HR.out] at H
  exact H

set_option maxHeartbeats 3200000 in
theorem fequal_any (sup : List Int) (L U : List (Int × Int)) (A A' A'' : Option Addr) (c c' c'' N : Nat) (w : World) (hl : sup.length ≤ 1048576) (hS : Supers w w.heap.size A'' sup) (hN : N < w.heap.size) (hc : w.cell? ⟨N, 0, none⟩ = some (.slice A'' sup.length c''))
    (h : SlcIs TyAt 2 w w.heap.size A c L) (h' : SlcIs TyAt 2 w w.heap.size A' c' U) :
    Calls Try.prog 35 #[.slice A L.length c, .slice A' U.length c', fitF N] w fun e w' => e = .returned (.bool (allFitB sup L U)) ∧ Below w.heap.size w w' := by
  have hlc := h.le
  have hcm := h.cap
  have hlc' := h'.le
  have hcm' := h'.cap
  have HL := Lib.hid h
  have HM := Lib.hid h'
  have HS := Lib.hid hS
  have HN := Lib.hid hN
  have HC := Lib.hid hc
  clear h h' hS hN hc
  obtain ⟨b, hb⟩ : ∃ b, allFitB sup L U = b := ⟨_, rfl⟩
  rw [hb]
  have E := Lib.hid hb.symm
  clear hb
  by_cases hn : L.length = U.length
  · have HLN := Lib.hid hn
    have hlen : U.length = L.length := hn.symm
    have HE2 : Hid (b = (L.zip U).all (fun p => fitB sup p.1 p.2)) := Lib.hid (by rw [E.out]; unfold allFitB; rw [decide_eq_true hn, Bool.true_and])
    rw [hlen]
    clear hn
    go_enter Try.func35, Try.ntmps35
    go_wp2
    go_loopw [17] (fun i wr => ∃ k : Nat, k ≤ L.length ∧ i = .int .i64 k ∧ Hid (∀ p ∈ (L.zip U).take k, fitB sup p.1 p.2 = true) ∧ Hid (Below w.heap.size w wr)) (fun i _ => L.length - (intOf i).toNat)
    case atStart => exact ⟨0, by omega, rfl, Lib.hid (by simp), Lib.hid (Below.refl _ _)⟩
    case round =>
      obtain ⟨k, hk, rfl, HA, HX⟩ := hrel
      by_cases hlt : k < L.length
      · have hltm : k < U.length := by omega
        obtain ⟨ad, rfl, hab, s0, s1⟩ := (HL.out.below_to TyAt.keeps HX.out (Nat.le_refl _)).row.at_ hlt
        obtain ⟨ad', rfl, hab', t0, t1⟩ := (HM.out.below_to TyAt.keeps HX.out (Nat.le_refl _)).row.at_ hltm
        obtain ⟨hz, hze⟩ := zip_at hlt hltm
        obtain ⟨r, hr⟩ : ∃ r, fitB sup L[k] U[k] = r := ⟨_, rfl⟩
        have HR := Lib.hid hr
        have HT : Hid (r = true → ∀ p ∈ (L.zip U).take (k + 1), fitB sup p.1 p.2 = true) := Lib.hid (fun g => all_take (f := fun p : (Int × Int) × (Int × Int) => fitB sup p.1 p.2) hz HA.out (by rw [hze]; show fitB sup L[k] U[k] = true; rw [hr, g]))
        have HF : Hid (r = false → b = false) := Lib.hid (fun g => by rw [HE2.out]; exact all_not (f := fun p : (Int × Int) × (Int × Int) => fitB sup p.1 p.2) hz (by rw [hze]; show fitB sup L[k] U[k] = false; rw [hr, g]))
        clear hr hze hz
        generalize L[k] = t at *
        generalize U[k] = u at *
        have hA1 : Below wr.heap.size wr (wr.alloc (.cells #[.int .i64 t.1, .int .i64 t.2] 39)) := (Below.refl _ _).alloc (Nat.le_refl _) _
        have hsz := HX.out.size
        have u0 := (hA1.cell (p := ad'.add (k * 2)) (by rw [addr_add_block]; omega)).trans t0
        have u1 := (hA1.cell (p := off_ (ad'.add (k * 2)) 1) (by show (ad'.add _).block < _; rw [addr_add_block]; omega)).trans t1
        obtain ⟨c1, c2, hb, hzz⟩ := two_ty wr t.1 t.2 u.1 u.2
        have HC1 := Lib.hid c1
        have HC2 := Lib.hid c2
        have HX3 := Lib.hid (HX.out.trans (hb.mono hsz))
        clear c1 c2 hb hzz hA1
        go_upto_region 7 with fail
        generalize (wr.alloc (.cells #[.int .i64 t.1, .int .i64 t.2] 39)).alloc (.cells #[.int .i64 u.1, .int .i64 u.2] 39) = w3 at *
        have d0 := HC1.out 0 _ rfl
        have d1 := HC1.out 1 _ rfl
        have e0 := HC2.out 0 _ rfl
        have e1 := HC2.out 1 _ rfl
        cases r
        · go_wp2_with (go_at_call 83; (with_reducible refine (ffit1_is hl HS HN HC HX3 HR).mono ?_); rintro e w4 ⟨rfl, hb⟩; have HX4 := Lib.hid (HX3.out.trans (hb.mono HX3.out.size)); clear hb)
          go_ret
          exact ⟨by rw [HF.out (by simp)]; rfl, HX4.out⟩
        · go_wp2_with (go_at_call 83; (with_reducible refine (ffit1_is hl HS HN HC HX3 HR).mono ?_); rintro e w4 ⟨rfl, hb⟩; have HX4 := Lib.hid (HX3.out.trans (hb.mono HX3.out.size)); clear hb)
          go_roundw
          case rel => exact ⟨k + 1, by omega, by go_num, Lib.hid (HT.out (by simp)), HX4⟩
          case measure => simp [intOf]; omega
      · have E2 := Lib.hid (show b = true by rw [HE2.out]; exact all_end (f := fun p : (Int × Int) × (Int × Int) => fitB sup p.1 p.2) HA.out (by rw [List.length_zip]; omega))
        go_wp2_with fail
        go_ret
        exact ⟨by rw [E2.out]; rfl, HX.out⟩
  · have E2 := Lib.hid (show b = false by rw [E.out]; unfold allFitB; rw [decide_eq_false hn, Bool.false_and])
    have hn' : ((L.length : Int) == (U.length : Int)) = false := beq_eq_false_iff_ne.mpr (by omega)
    go_enter Try.func35, Try.ntmps35
    go_wp2
    go_ret
    exact ⟨by rw [E2.out]; rfl, Below.refl _ _⟩
theorem fallfit_any (sup : List Int) (L U : List (Int × Int)) (A A' A'' : Option Addr) (c c' c'' : Nat) (w : World) (hl : sup.length ≤ 1048576) (hS : Supers w w.heap.size A'' sup) (h : SlcIs TyAt 2 w w.heap.size A c L) (h' : SlcIs TyAt 2 w w.heap.size A' c' U) :
    Calls Try.prog 59 #[.slice A'' sup.length c'', .slice A L.length c, .slice A' U.length c'] w fun e w' => e = .returned (.bool (allFitB sup L U)) ∧ Below w.heap.size w w' := by
  have hA : Below w.heap.size w (w.alloc (.cells #[.slice A'' sup.length c''] 22)) := (Below.refl _ _).alloc (Nat.le_refl _) _
  have HA := Lib.hid hA
  have HL : Hid (SlcIs TyAt 2 (w.alloc (.cells #[.slice A'' sup.length c''] 22)) (w.alloc (.cells #[.slice A'' sup.length c''] 22)).heap.size A c L) := Lib.hid ((h.below_to TyAt.keeps hA (Nat.le_refl _)).keep' TyAt.keeps hA.size (fun _ _ => rfl))
  have HU : Hid (SlcIs TyAt 2 (w.alloc (.cells #[.slice A'' sup.length c''] 22)) (w.alloc (.cells #[.slice A'' sup.length c''] 22)).heap.size A' c' U) := Lib.hid ((h'.below_to TyAt.keeps hA (Nat.le_refl _)).keep' TyAt.keeps hA.size (fun _ _ => rfl))
  have HS := Lib.hid (supers_up hS hA)
  have HC := Lib.hid (cells_new w [.slice A'' sup.length c''] 22)
  have HZ : Hid (w.heap.size < (w.alloc (.cells #[.slice A'' sup.length c''] 22)).heap.size) := Lib.hid (by simp)
  clear h h' hA hS
  go_enter Try.func59, Try.ntmps59
  go_upto_region 1 with fail
  generalize w.alloc (.cells #[.slice A'' sup.length c''] 22) = w1 at *
  have c0 := HC.out 0 _ rfl
  go_wp2_with (go_at_call 35; (with_reducible refine (fequal_any sup L U A A' A'' c c' c'' w.heap.size w1 hl HS.out HZ.out c0 HL.out HU.out).mono ?_); rintro e w2 ⟨rfl, hb⟩; have HB2 := Lib.hid hb; clear hb)
  go_ret
  exact ⟨rfl, HA.out.trans (HB2.out.mono HA.out.size)⟩
theorem fallfit_is {m : Img} {h : Hnd} {L U : List (Int × Int)} {A A' : Option Addr} {c c' : Nat} {w0 w : World} {r : Bool} (HI : Hid (ImgIn w0 w0.heap.size h m)) (HX : Hid (Below w0.heap.size w0 w)) (hn : m.classes.length ≤ 1000) (HL : SlcIs TyAt 2 w w.heap.size A c L) (HU : SlcIs TyAt 2 w w.heap.size A' c' U) (HR : Hid (allFitB (supsOf m.classes) L U = r)) :
    Calls Try.prog 59 #[.slice h.A0 m.classes.length h.c0, .slice A L.length c, .slice A' U.length c'] w fun e w' => e = .returned (.bool r) ∧ Below w.heap.size w w' := by
  have H := fallfit_any (supsOf m.classes) L U A A' h.A0 c c' h.c0 w (by rw [supsOf_len]; omega) (supers_of (HI.out.now HX.out).classes.row) HL HU
  rw [HR.out, supsOf_len] at H
  exact H
end Go.Proofs.Ytgpmdhdooglkfaa
namespace Go.Proofs.Ytgpmdhdooglkfaa
set_option maxRecDepth 100000
set_option linter.unusedVariables false
set_option linter.unusedSimpArgs false

/-- The program's wish and the document's. -/
def wantRel (op : Int) (u v : Int × Int) : Prop := (u.1 = 6 ∧ v.1 = 0) ∨ (u.1 = 7 ∧ v.1 = 4 ∧ ¬ op = 34) ∨ (u.1 = 8 ∧ v.1 = 4 ∧ op = 34) ∨ (u = v ∧ (u.1 = 1 ∨ u.1 = 2 ∨ u.1 = 3))
def WR (op : Int) : List (Int × Int) → List (Int × Int) → Prop
  | [], [] => True
  | u :: W, v :: T => wantRel op u v ∧ WR op W T
  | _, _ => False
theorem fit_does {sup : List Int} {op : Int} {t u v : Int × Int} (h : wantRel op u v) : fitB sup t u = doesB sup op t v := by
  unfold fitB doesB
  rcases h with ⟨h1, h2⟩ | ⟨h1, h2, h3⟩ | ⟨h1, h2, h3⟩ | ⟨rfl, h2⟩
  · rw [if_pos h1, if_pos h2]
  · rw [if_neg (by omega), if_pos h1, if_neg (by omega), if_pos h2, decide_eq_false h3]
    simp
  · rw [if_neg (by omega), if_neg (by omega), if_pos h1, if_neg (by omega), if_pos h2, decide_eq_true h3]
    simp
  · rw [if_neg (by omega), if_neg (by omega), if_neg (by omega), if_neg (by omega), if_neg (by omega)]
theorem wr_len {op : Int} : ∀ {W T : List (Int × Int)}, WR op W T → W.length = T.length
  | [], [], _ => rfl
  | _ :: W, _ :: T, h => by rw [List.length_cons, List.length_cons, wr_len h.2]
  | [], _ :: _, h => h.elim
  | _ :: _, [], h => h.elim
theorem wr_all {sup : List Int} {op : Int} : ∀ {W T : List (Int × Int)} (L : List (Int × Int)), WR op W T → (L.zip W).all (fun p => fitB sup p.1 p.2) = (L.zip T).all (fun p => doesB sup op p.1 p.2)
  | [], [], L, _ => by simp
  | u :: W, v :: T, [], h => by simp
  | u :: W, v :: T, t :: L, h => by
    rw [List.zip_cons_cons, List.zip_cons_cons, List.all_cons, List.all_cons, wr_all L h.2]
    show (fitB sup t u && _) = (doesB sup op t v && _)
    rw [fit_does h.1]
  | [], _ :: _, _, h => h.elim
  | _ :: _, [], _, h => h.elim
theorem good_kind {k n c : Int} (h : goodB k n c = true) : k = 1 ∨ k = 2 ∨ k = 3 := by
  unfold goodB at h
  rw [decide_eq_true_eq] at h
  omega
theorem wr_good {op : Int} {c : Int} : ∀ {L : List (Int × Int)}, (∀ t ∈ L, goodB t.1 t.2 c = true) → WR op L L
  | [], _ => trivial
  | t :: L, h => ⟨.inr (.inr (.inr ⟨rfl, good_kind (h t (List.mem_cons_self ..))⟩)), wr_good fun u hu => h u (List.mem_cons_of_mem _ hu)⟩
theorem wr_one {op : Int} {c : Int} {t : Int × Int} (h : goodB t.1 t.2 c = true) : WR op [t] [t] := ⟨.inr (.inr (.inr ⟨rfl, good_kind h⟩)), trivial⟩
theorem wants_rel {m : Img} {x : Mth} {f : Nat} {op a b : Int} (hm : SaneI m) (hg : m.methods[f]? = some x) (hi : instrB op a b = true) (hn : namedB m x op a b = true) (h6 : ¬ op = 6) : WR op (wantsOf m x op a b) (takeOf m x op a b) := by
  obtain ⟨o0, o1, a0, a1, b0, b1⟩ := instr_bounds hi
  have hx := hm.method (List.mem_of_getElem? hg)
  have hc : op = 1 ∨ op = 2 ∨ op = 3 ∨ op = 4 ∨ op = 5 ∨ op = 7 ∨ op = 8 ∨ op = 9 ∨ op = 10 ∨ op = 11 ∨ op = 12 ∨ op = 13 ∨ op = 14 ∨ op = 15 ∨ op = 16 ∨ op = 17 ∨ op = 18 ∨ op = 19 ∨ op = 20 ∨ op = 21 ∨ op = 22 ∨ op = 23 ∨ op = 24 ∨ op = 25 ∨ op = 26 ∨ op = 27 ∨ op = 28 ∨ op = 29 ∨ op = 30 ∨ op = 31 ∨ op = 32 ∨ op = 33 ∨ op = 34 := by omega
  rcases hc with rfl | rfl | rfl | rfl | rfl | rfl | rfl | rfl | rfl | rfl | rfl | rfl | rfl | rfl | rfl | rfl | rfl | rfl | rfl | rfl | rfl | rfl | rfl | rfl | rfl | rfl | rfl | rfl | rfl | rfl | rfl | rfl | rfl
  all_goals first | (simp [wantsOf, takeOf, WR, wantRel]; done) | skip
  · have e1 : wantsOf m x 4 a b = [localOf x a] := by simp [wantsOf]
    have e2 : takeOf m x 4 a b = [localOf x a] := by simp [takeOf]
    rw [e1, e2]
    have hl := named_get (op := 4) (.inr rfl) hn
    have hmem := at_getD (l := x.args ++ x.locals) a0 (by rw [List.length_append]; omega)
    have hlo : localOf x a = (x.args ++ x.locals)[a.toNat]?.getD (0, 0) := by unfold localOf; rw [if_pos a0]
    rw [hlo]
    rcases List.mem_append.mp hmem with q | q
    · exact wr_one (hx.at_ _ q)
    · exact wr_one (hx.lt _ q)
  · have e1 : wantsOf m x 28 a b = [(3, a), fieldN m a b] := by simp [wantsOf]
    have e2 : takeOf m x 28 a b = [(3, a), fieldN m a b] := by simp [takeOf]
    rw [e1, e2]
    exact ⟨.inr (.inr (.inr ⟨rfl, .inr (.inr rfl)⟩)), wr_one (fields_good hm (at_getD b0 (named_field (op := 28) (.inr rfl) hn).2))⟩
  · have e1 : wantsOf m x 30 a b = [staticN m a] := by simp [wantsOf]
    have e2 : takeOf m x 30 a b = [staticN m a] := by simp [takeOf]
    rw [e1, e2]
    exact wr_one (hm.st _ (at_getD a0 (named_static (op := 30) (.inr rfl) hn)))
  · have e1 : wantsOf m x 31 a b = (mthN m a).args := by simp [wantsOf]
    have e2 : takeOf m x 31 a b = (mthN m a).args := by simp [takeOf]
    rw [e1, e2]
    have h1 := named_call hn
    have h2 : a.toNat < m.methods.length := by omega
    have h3 : mthN m a ∈ m.methods := by unfold mthN; rw [List.getElem?_eq_getElem h2]; exact List.getElem_mem h2
    exact wr_good (hm.method h3).at_
  · have e1 : wantsOf m x 32 a b = (3, a) :: (mthN m (slotN m a b)).args.drop 1 := by simp [wantsOf]
    have e2 : takeOf m x 32 a b = (3, a) :: (mthN m (slotN m a b)).args.drop 1 := by simp [takeOf]
    rw [e1, e2]
    obtain ⟨_, k, y, hk, hy, _⟩ := named_virt hm a0 b0 hn
    have h3 : mthN m (slotN m a b) = y := by unfold mthN slotN; rw [hk, Option.getD_some, Int.toNat_natCast, hy]; rfl
    rw [h3]
    exact ⟨.inr (.inr (.inr ⟨rfl, .inr (.inr rfl)⟩)), wr_good fun t ht => (hm.method (List.mem_of_getElem? hy)).at_ t (List.mem_of_mem_drop ht)⟩
  · have e1 : wantsOf m x 33 a b = givesOf x := by simp [wantsOf]
    have e2 : takeOf m x 33 a b = givesOf x := by simp [takeOf]
    rw [e1, e2]
    unfold givesOf
    by_cases h5 : x.ret.1 = 5
    · rw [if_pos h5]; trivial
    · rw [if_neg h5]
      rcases hx.rt with h | h
      · rw [h] at h5; exact absurd rfl h5
      · exact wr_one h
/-- How a step ends, in the program's words. -/
def stepTailP (sup : List Int) (W gv : List (Int × Int)) (nl : List Int) (st : List (Int × Int)) : StepR :=
  if allFitB sup (st.drop (st.length - W.length)) W = true then (if 8 < (st.take (st.length - W.length) ++ gv).length then badStep 4 else ⟨st.take (st.length - W.length) ++ gv, nl, 0⟩) else badStep 4
theorem tailP_same {sup : List Int} {op : Int} {W TK GV : List (Int × Int)} {nl : List Int} {st : List (Int × Int)} (h : WR op W TK) : stepTailP sup W GV nl st = stepTail sup op TK GV nl st := by
  have hl := wr_len h
  unfold stepTailP stepTail allFitB
  rw [hl, wr_all _ h]
  have hd : (st.drop (st.length - TK.length)).length = st.length - (st.length - TK.length) := List.length_drop
  by_cases g : st.length < TK.length
  · rw [decide_eq_false (by omega), Bool.false_and, if_neg (by simp), if_pos (.inl g)]
  · rw [decide_eq_true (by omega), Bool.true_and]
    have ht : (st.take (st.length - TK.length) ++ GV).length = st.length - TK.length + GV.length := by rw [List.length_append, List.length_take]; omega
    rw [ht]
    by_cases g8 : 8 < st.length - TK.length + GV.length
    · rw [if_pos g8, if_pos (Or.inr g8)]
      split <;> rfl
    · rw [if_neg g8, if_neg (show ¬ (st.length < TK.length ∨ 8 < st.length - TK.length + GV.length) from fun q => q.elim g g8)]
theorem far_same {m : Img} {x : Mth} {pc op a b : Int} (hn : namedB m x op a b = true) : farB x.code.length (nextOfOp pc op a) = (nextOfOp pc op a).head?.any (fun n => decide ((x.code.length : Int) ≤ n)) := by
  unfold nextOfOp farB
  by_cases h18 : op = 18
  · rw [if_pos h18]; simp
  · rw [if_neg h18]
    by_cases h19 : op = 19
    · rw [if_pos h19]
      have := named_jump (.inr h19) hn
      simp
      omega
    · rw [if_neg h19]
      by_cases h33 : op = 33
      · rw [if_pos h33]; rfl
      · rw [if_neg h33]; simp
theorem step_far {m : Img} {x : Mth} {pc op a b : Int} {st : List (Int × Int)} (hn : namedB m x op a b = true) (h : farB x.code.length (nextOfOp pc op a) = true) : stepIn m x pc op a b st = badStep 4 := by
  unfold stepIn
  rw [if_pos (by rw [← far_same hn]; exact h)]
theorem drop_last {st : List (Int × Int)} (h : st ≠ []) : st.drop (st.length - 1) = [st.getLast?.getD (0, 0)] := by
  have h0 : 0 < st.length := List.length_pos_iff.mpr h
  rw [List.drop_eq_getElem_cons (by omega), List.drop_of_length_le (by omega), List.getLast?_eq_getElem?, List.getElem?_eq_getElem (by omega)]
  rfl
/-- A step that stays within the method, in the program's words. -/
theorem step_prog {m : Img} {x : Mth} {f : Nat} {pc op a b : Int} {st : List (Int × Int)} (hm : SaneI m) (hg : m.methods[f]? = some x) (hi : instrB op a b = true) (hn : namedB m x op a b = true) (h : farB x.code.length (nextOfOp pc op a) = false) :
    stepIn m x pc op a b st = stepTailP (supsOf m.classes) (wantsOf m x op a b) (givesP m x op a b (st.drop (st.length - (wantsOf m x op a b).length))) (nextOfOp pc op a) st := by
  have hf : ¬ (nextOfOp pc op a).head?.any (fun n => decide ((x.code.length : Int) ≤ n)) = true := by rw [← far_same hn, h]; simp
  by_cases h6 : op = 6
  · subst h6
    have e1 : wantsOf m x 6 a b = [(6, 0)] := by simp [wantsOf]
    rw [e1]
    by_cases hs : st = []
    · subst hs
      rw [step_none]
      rfl
    · rw [step_tail hf (fun q => hs q.2)]
      have e2 : takes m x 6 a b st = [(0, 0)] := by unfold takes; rw [if_pos ⟨rfl, hs⟩]
      have e3 : gives m x 6 a b st = [st.getLast?.getD (0, 0), st.getLast?.getD (0, 0)] := by unfold gives; rw [if_pos ⟨rfl, hs⟩]
      have e4 : givesP m x 6 a b (st.drop (st.length - [((6 : Int), (0 : Int))].length)) = [st.getLast?.getD (0, 0), st.getLast?.getD (0, 0)] := by
        unfold givesP
        rw [if_pos rfl]
        show st.drop (st.length - 1) ++ st.drop (st.length - 1) = _
        rw [drop_last hs]
        rfl
      rw [e2, e3, e4]
      exact (tailP_same (show WR 6 [(6, 0)] [(0, 0)] from ⟨.inl ⟨rfl, rfl⟩, trivial⟩)).symm
  · rw [step_tail hf (fun q => h6 q.1)]
    have e2 : takes m x op a b st = takeOf m x op a b := by unfold takes; rw [if_neg (fun q => h6 q.1)]
    have e3 : gives m x op a b st = giveOf m x op a b := by unfold gives; rw [if_neg (fun q => h6 q.1)]
    have e4 : ∀ tk, givesP m x op a b tk = giveOf m x op a b := fun tk => by unfold givesP; rw [if_neg h6]
    rw [e2, e3, e4]
    exact (tailP_same (wants_rel hm hg hi hn h6)).symm
/-- How many the program takes. -/
theorem wants_len {m : Img} {x : Mth} {f : Nat} {op a b : Int} (hm : SaneI m) (hg : m.methods[f]? = some x) (hi : instrB op a b = true) (hn : namedB m x op a b = true) : (wantsOf m x op a b).length = if op = 6 then 1 else (takeOf m x op a b).length := by
  by_cases h6 : op = 6
  · subst h6
    rw [if_pos rfl]
    simp [wantsOf]
  · rw [if_neg h6]
    exact wr_len (wants_rel hm hg hi hn h6)
end Go.Proofs.Ytgpmdhdooglkfaa
namespace Go.Proofs.Ytgpmdhdooglkfaa
set_option maxRecDepth 100000
set_option linter.unusedVariables false
set_option linter.unusedSimpArgs false
open Go.ChangeShapes Go.WideShapes Go.ChangeAt Go.RowKit

theorem ftakes_any (m : Img) (x : Mth) (f : Nat) (op a b : Int) (h : Hnd) (w : World) (H : ImgIn w w.heap.size h m) (hm : SaneI m) (hg : m.methods[f]? = some x) (hi : instrB op a b = true) (hn : namedB m x op a b = true) :
    Calls Try.prog 57 #[imgV h m, insV op a b, .int .i64 f] w (SomeTypes (wantsOf m x op a b) w) := by
  obtain ⟨o0, o1, a0, a1, b0, b1⟩ := instr_bounds hi
  have hx := hm.method (List.mem_of_getElem? hg)
  have hcl : m.classes.length ≤ 1000 := by have := hm.fits.cl; omega
  have hfl : ∀ c ∈ m.classes, c.fields.length ≤ 1000 := fun c hc => by have := (hm.fits.ct c hc).fl; omega
  by_cases hmath : 7 ≤ op ∧ op ≤ 17
  · exact ftk_math m x f op a b hmath.1 hmath.2 h w H
  by_cases n4 : op = 4
  · subst n4
    exact ftk_4 m x f a b hg (by omega) h w H
  by_cases n5 : op = 5
  · subst n5
    exact ftk_5 m x f a b h w H
  by_cases n6 : op = 6
  · subst n6
    exact ftk_6 m x f a b h w H
  by_cases n19 : op = 19
  · subst n19
    exact ftk_19 m x f a b h w H
  by_cases n20 : op = 20
  · subst n20
    exact ftk_20 m x f a b h w H
  by_cases n21 : op = 21
  · subst n21
    exact ftk_21 m x f a b h w H
  by_cases n23 : op = 23
  · subst n23
    exact ftk_23 m x f a b h w H
  by_cases n24 : op = 24
  · subst n24
    exact ftk_24 m x f a b h w H
  by_cases n25 : op = 25
  · subst n25
    exact ftk_25 m x f a b h w H
  by_cases n26 : op = 26
  · subst n26
    exact ftk_26 m x f a b h w H
  by_cases n27 : op = 27
  · subst n27
    exact ftk_27 m x f a b h w H
  by_cases n28 : op = 28
  · subst n28
    obtain ⟨k, rfl⟩ := Int.eq_ofNat_of_zero_le b0
    have hk : k < (fieldsOf m.classes a).length := by have := (named_field (op := 28) (by omega) hn).2; omega
    exact ftk_28 m x f a k _ (List.getElem?_eq_getElem hk) hcl hfl h w H
  by_cases n30 : op = 30
  · subst n30
    obtain ⟨j, rfl⟩ := Int.eq_ofNat_of_zero_le a0
    have hj : j < m.statics.length := by have := named_static (op := 30) (by omega) hn; omega
    exact ftk_30 m x f j b _ (List.getElem?_eq_getElem hj) h w H
  by_cases n31 : op = 31
  · subst n31
    obtain ⟨j, rfl⟩ := Int.eq_ofNat_of_zero_le a0
    have hj : j < m.methods.length := by have := named_call hn; omega
    exact ftk_31 m x f j b _ (List.getElem?_eq_getElem hj) h w H
  by_cases n32 : op = 32
  · subst n32
    obtain ⟨_, k, y, hs, hy, hp⟩ := named_virt hm a0 b0 hn
    exact ftk_32 m x f a b k hs y hy hp (by have := (hm.method (List.mem_of_getElem? hy)).all; omega) h w H
  by_cases n33 : op = 33
  · subst n33
    exact ftk_33 m x f a b hg h w H
  by_cases n34 : op = 34
  · subst n34
    exact ftk_34 m x f a b h w H
  exact ftk_none m x f op a b (by omega) n4 n5 n6 n19 n20 n21 n23 n24 n25 n26 n27 n28 n30 n31 n32 n33 n34 h w H

theorem fgives_any (m : Img) (x : Mth) (f : Nat) (op a b : Int) (tk : List (Int × Int)) (A : Option Addr) (c : Nat) (htl : tk.length ≤ 1000) (h : Hnd) (w : World) (H : ImgIn w w.heap.size h m) (hm : SaneI m) (hg : m.methods[f]? = some x) (hi : instrB op a b = true) (hn : namedB m x op a b = true) (HT : SlcIs TyAt 2 w w.heap.size A c tk) :
    Calls Try.prog 61 #[imgV h m, insV op a b, .int .i64 f, .slice A tk.length c] w (SomeTypes (givesP m x op a b tk) w) := by
  obtain ⟨o0, o1, a0, a1, b0, b1⟩ := instr_bounds hi
  have hx := hm.method (List.mem_of_getElem? hg)
  have hcl : m.classes.length ≤ 1000 := by have := hm.fits.cl; omega
  have hfl : ∀ c ∈ m.classes, c.fields.length ≤ 1000 := fun c hc => by have := (hm.fits.ct c hc).fl; omega
  by_cases hmath : 7 ≤ op ∧ op ≤ 17
  · exact fgv_math m x f op a b hmath.1 hmath.2 tk A c h w H
  by_cases n1 : op = 1
  · subst n1
    exact fgv_1 m x f a b tk A c h w H
  by_cases n2 : op = 2
  · subst n2
    exact fgv_2 m x f a b tk A c h w H
  by_cases n3 : op = 3
  · subst n3
    exact fgv_3 m x f a b hg (by omega) tk A c h w H
  by_cases n6 : op = 6
  · subst n6
    exact fgv_6 m x f a b tk A c htl h w H HT
  by_cases n20 : op = 20
  · subst n20
    exact fgv_20 m x f a b tk A c h w H
  by_cases n21 : op = 21
  · subst n21
    exact fgv_21 m x f a b tk A c h w H
  by_cases n22 : op = 22
  · subst n22
    exact fgv_22 m x f a b tk A c h w H
  by_cases n23 : op = 23
  · subst n23
    exact fgv_23 m x f a b tk A c h w H
  by_cases n24 : op = 24
  · subst n24
    exact fgv_24 m x f a b tk A c h w H
  by_cases n26 : op = 26
  · subst n26
    exact fgv_26 m x f a b tk A c h w H
  by_cases n27 : op = 27
  · subst n27
    obtain ⟨k, rfl⟩ := Int.eq_ofNat_of_zero_le b0
    have hk : k < (fieldsOf m.classes a).length := by have := (named_field (op := 27) (by omega) hn).2; omega
    exact fgv_27 m x f a k _ (List.getElem?_eq_getElem hk) hcl hfl tk A c h w H
  by_cases n29 : op = 29
  · subst n29
    obtain ⟨j, rfl⟩ := Int.eq_ofNat_of_zero_le a0
    have hj : j < m.statics.length := by have := named_static (op := 29) (by omega) hn; omega
    exact fgv_29 m x f j b _ (List.getElem?_eq_getElem hj) tk A c h w H
  by_cases n31 : op = 31
  · subst n31
    obtain ⟨j, rfl⟩ := Int.eq_ofNat_of_zero_le a0
    have hj : j < m.methods.length := by have := named_call hn; omega
    exact fgv_31 m x f j b _ (List.getElem?_eq_getElem hj) tk A c h w H
  by_cases n32 : op = 32
  · subst n32
    obtain ⟨_, k, y, hs, hy, hp⟩ := named_virt hm a0 b0 hn
    exact fgv_32 m x f a b k hs y hy tk A c h w H
  by_cases n34 : op = 34
  · subst n34
    exact fgv_34 m x f a b tk A c h w H
  exact fgv_none m x f op a b (by omega) n1 n2 n3 n6 n20 n21 n22 n23 n24 n26 n27 n29 n31 n32 n34 tk A c h w H

theorem ftakes_is {m : Img} {x : Mth} {f : Nat} {op a b : Int} {h : Hnd} {w0 w : World} {L : List (Int × Int)} (HI : Hid (ImgIn w0 w0.heap.size h m)) (HX : Hid (Below w0.heap.size w0 w)) (hm : SaneI m) (HG : Hid (m.methods[f]? = some x)) (HN : Hid (instrB op a b = true ∧ namedB m x op a b = true)) (HL : Hid (wantsOf m x op a b = L)) :
    Calls Try.prog 57 #[imgV h m, insV op a b, .int .i64 f] w (SomeTypes L w) := by
  have H := ftakes_any m x f op a b h w (HI.out.now HX.out) hm HG.out HN.out.1 HN.out.2
  rw [HL.out] at H
  exact H
theorem fgives_is {m : Img} {x : Mth} {f : Nat} {op a b : Int} {h : Hnd} {w0 w : World} {tk L : List (Int × Int)} {A : Option Addr} {c : Nat} (HI : Hid (ImgIn w0 w0.heap.size h m)) (HX : Hid (Below w0.heap.size w0 w)) (hm : SaneI m) (HG : Hid (m.methods[f]? = some x)) (HN : Hid (instrB op a b = true ∧ namedB m x op a b = true)) (HL : Hid (givesP m x op a b tk = L)) (htl : tk.length ≤ 1000) (HT : SlcIs TyAt 2 w w.heap.size A c tk) :
    Calls Try.prog 61 #[imgV h m, insV op a b, .int .i64 f, .slice A tk.length c] w (SomeTypes L w) := by
  have H := fgives_any m x f op a b tk A c htl h w (HI.out.now HX.out) hm HG.out HN.out.1 HN.out.2 HT
  rw [HL.out] at H
  exact H
end Go.Proofs.Ytgpmdhdooglkfaa
namespace Go.Proofs.Ytgpmdhdooglkfaa
set_option maxRecDepth 100000
set_option linter.unusedVariables false
set_option linter.unusedSimpArgs false
open Go.ChangeShapes Go.WideShapes Go.ChangeAt Go.RowKit

theorem ftslc_take {w : World} {B c n : Nat} {A : Option Addr} {L : List (Int × Int)} (h : SlcIs TyAt 2 w B A c L) : SlcIs TyAt 2 w B A c (L.take n) :=
  ⟨Nat.le_trans (by rw [List.length_take]; omega) h.le, h.cap, h.row.take_ n⟩
theorem fcut_any (st : List (Int × Int)) (n : Nat) (hn : n ≤ 1000000) (hs : st.length ≤ 1000000) (A : Option Addr) (c : Nat) (w : World) (h : SlcIs TyAt 2 w w.heap.size A c st) :
    Calls Try.prog 58 #[.slice A st.length c, .int .i64 n] w fun e w' => ∃ A1 c1 A2 c2, e = .returned (.tuple #[.slice A1 (st.take (st.length - n)).length c1, .slice A2 (st.drop (st.length - n)).length c2]) ∧
      SlcIs TyAt 2 w w.heap.size A1 c1 (st.take (st.length - n)) ∧ SlcIs TyAt 2 w w.heap.size A2 c2 (st.drop (st.length - n)) ∧ Below w.heap.size w w' ∧ w'.heap = w.heap := by
  have hle := h.le
  have hcap := h.cap
  have HS := Lib.hid h
  obtain ⟨d, hd⟩ : ∃ d, st.length - n = d := ⟨_, rfl⟩
  have htl : (st.take (st.length - n)).length = d := by rw [List.length_take]; omega
  have hdl : (st.drop (st.length - n)).length = st.length - d := by rw [List.length_drop]; omega
  have HTL := Lib.hid htl
  have HDL := Lib.hid hdl
  rw [hd] at HTL HDL
  rw [hd]
  have hw1 : IntKind.i64.wrap ((st.length : Int) - (n : Int)) = (st.length : Int) - (n : Int) := IntWalk.i64_in _ (by omega)
  have hdl0 : d ≤ st.length := by omega
  have hd0 : (0 : Int) ≤ (d : Int) := by omega
  have hd1 : (d : Int) ≤ (st.length : Int) := by omega
  have hd2 : (d : Int) ≤ (c : Int) := by omega
  have hd3 : (st.length : Int) ≤ (c : Int) := by omega
  have hmx : max ((st.length : Int) - (n : Int)) 0 = (d : Int) := by omega
  clear h htl hdl
  rcases A with _ | ad
  · have hst : st = [] := by
      cases st with
      | nil => rfl
      | cons t r =>
        obtain ⟨ad, e, _⟩ := HS.out.row.at_ (i := 0) (by simp)
        cases e
    subst hst
    obtain rfl : d = 0 := by simp at hdl0; exact hdl0
    clear hd hmx HTL HDL hle hs hdl0 hd0 hd1 hd2
    have hw1 : IntKind.i64.wrap (((0 : Nat) : Int) - (n : Int)) = 0 - (n : Int) := hw1
    by_cases hn0 : n = 0
    · subst hn0
      go_enter Try.func58, Try.ntmps58
      go_upto_region 2 with fail
      go_quiet (fail)
      all_goals
        go_wp2_with fail
        go_ret2
        exact ⟨none, _, none, _, rfl, ftslc_end rfl hcap, ftslc_end rfl hcap, below_drewN' (Below.refl _ _) _, rfl⟩
    · have hng : -(n : Int) < 0 := by omega
      go_enter Try.func58, Try.ntmps58
      go_upto_region 2 with fail
      go_quiet (fail)
      all_goals
        go_wp2_with fail
        go_ret2
        exact ⟨none, _, none, _, rfl, ftslc_end rfl hcap, ftslc_end rfl hcap, below_drewN' (Below.refl _ _) _, rfl⟩
  · by_cases hlt : (st.length : Int) - (n : Int) < 0
    · obtain rfl : d = 0 := by omega
      go_enter Try.func58, Try.ntmps58
      go_upto_region 2 with fail
      go_quiet (fail)
      go_wp2_with fail
      go_ret2
      exact ⟨some ad, c, some ad, c, by first | rfl | (rw [HTL.out, HDL.out]; rfl), ftslc_take HS.out, HS.out, below_drewN' (Below.refl _ _) _, rfl⟩
    · have hde : (st.length : Int) - (n : Int) = (d : Int) := by omega
      rw [hde] at hw1 hmx hlt
      have hw1 : IntKind.i64.wrap ((st.length : Int) - (n : Int)) = (d : Int) := by rw [hde]; exact hw1
      by_cases hcd : c = d
      · subst hcd
        go_enter Try.func58, Try.ntmps58
        go_upto_region 2 with fail
        go_quiet (fail)
        go_wp2_with fail
        go_ret2
        exact ⟨some ad, c, some ad, 0, by first | rfl | (rw [HTL.out, HDL.out]; rfl) | (rw [HDL.out]; rfl), ftslc_take HS.out, ftslc_end (List.eq_nil_of_length_eq_zero (by rw [HDL.out]; omega)) (by omega), below_drewN' (Below.refl _ _) _, rfl⟩
      · go_enter Try.func58, Try.ntmps58
        go_upto_region 2 with fail
        go_quiet (fail)
        go_wp2_with fail
        go_ret2
        exact ⟨some ad, c, some (ad.add (d * 2)), c - d, by first | rfl | (rw [HTL.out, HDL.out]; rfl) | (rw [HDL.out]; rfl), ftslc_take HS.out, ftslc_drop HS.out hdl0, below_drewN' (Below.refl _ _) _, rfl⟩
end Go.Proofs.Ytgpmdhdooglkfaa
