/-
  What flow's word for whether all operands fit where others are wanted (allFit) comes to.
  What a step comes to when the stack holds more below. Plain lemmas; no conditions.
  Plain facts of when a type fits another: through a third, itself. No conditions.
  What a step comes to when the stack's types fit another stack's. Plain lemmas; no conditions.
-/
import Derived.Test.YtndacljmcofopaaM30
import Derived.Test.YtndacljmcofopaaM23
import Derived.Test.YtndacljmcofopaaM02
namespace Go.Proofs.Ytndacljmcofopaa
set_option maxRecDepth 100000
set_option linter.unusedVariables false
set_option linter.unusedSimpArgs false
open Go.ChangeShapes Go.WideShapes Go.ChangeAt Go.RowKit

theorem zip_at {L U : List (Int × Int)} {k : Nat} (h : k < L.length) (h' : k < U.length) : ∃ hz : k < (L.zip U).length, (L.zip U)[k] = (L[k], U[k]) := ⟨by rw [List.length_zip]; omega, by simp⟩
theorem supers_up {w w' : World} {A : Option Addr} {sup : List Int} (h : Supers w w.heap.size A sup) (hb : Below w.heap.size w w') : Supers w' w'.heap.size A sup := fun i s hs => by
  obtain ⟨ad, e, hlt, hc⟩ := h i s hs
  exact ⟨ad, e, Nat.lt_of_lt_of_le hlt hb.size, (hb.cell (by rw [addr_add_block]; omega)).trans hc⟩
theorem ffit1_is {sup : List Int} {t u : Int × Int} {A : Option Addr} {c N : Nat} {w0 w : World} {r : Bool} (hl : sup.length ≤ 1048576) (HS : Hid (Supers w0 w0.heap.size A sup)) (HN : Hid (N < w0.heap.size)) (HC : Hid (w0.cell? ⟨N, 0, none⟩ = some (.slice A sup.length c))) (HX : Hid (Below w0.heap.size w0 w)) (HR : Hid (fitB sup t u = r)) :
    Calls Try.prog 51 #[tyV t.1 t.2, tyV u.1 u.2, .pointer (some ⟨N, 0, none⟩)] w fun e w' => e = .returned (.bool r) ∧ Below w.heap.size w w' := by
  have H := ffit1_any sup t.1 t.2 u.1 u.2 A c N w hl (supers_up HS.out HX.out) (Nat.lt_of_lt_of_le HN.out HX.out.size) ((HX.out.cell (p := ⟨N, 0, none⟩) HN.out).trans HC.out)
  rw [HR.out] at H
  exact H

set_option maxHeartbeats 3200000 in
theorem fequal_any (sup : List Int) (L U : List (Int × Int)) (A A' A'' : Option Addr) (c c' c'' N : Nat) (w : World) (hl : sup.length ≤ 1048576) (hS : Supers w w.heap.size A'' sup) (hN : N < w.heap.size) (hc : w.cell? ⟨N, 0, none⟩ = some (.slice A'' sup.length c''))
    (h : SlcIs TyAt 2 w w.heap.size A c L) (h' : SlcIs TyAt 2 w w.heap.size A' c' U) :
    Calls Try.prog 50 #[.slice A L.length c, .slice A' U.length c', fitF N] w fun e w' => e = .returned (.bool (allFitB sup L U)) ∧ Below w.heap.size w w' := by
  have hlc := h.le
  have hcm := h.cap
  have hlc' := h'.le
  have hcm' := h'.cap
  have HL := Lib.hid h
  have HM := Lib.hid h'
  have HS := Lib.hid hS
  have HN := Lib.hid hN
  have HC := Lib.hid hc
  clear h h' hS hN hc
  obtain ⟨b, hb⟩ : ∃ b, allFitB sup L U = b := ⟨_, rfl⟩
  rw [hb]
  have E := Lib.hid hb.symm
  clear hb
  by_cases hn : L.length = U.length
  · have HLN := Lib.hid hn
    have hlen : U.length = L.length := hn.symm
    have HE2 : Hid (b = (L.zip U).all (fun p => fitB sup p.1 p.2)) := Lib.hid (by rw [E.out]; unfold allFitB; rw [decide_eq_true hn, Bool.true_and])
    rw [hlen]
    clear hn
    go_enter Try.func50, Try.ntmps50
    go_wp2
    go_loopw [17] (fun i wr => ∃ k : Nat, k ≤ L.length ∧ i = .int .i64 k ∧ Hid (∀ p ∈ (L.zip U).take k, fitB sup p.1 p.2 = true) ∧ Hid (Below w.heap.size w wr)) (fun i _ => L.length - (intOf i).toNat)
    case atStart => exact ⟨0, by omega, rfl, Lib.hid (by simp), Lib.hid (Below.refl _ _)⟩
    case round =>
      obtain ⟨k, hk, rfl, HA, HX⟩ := hrel
      by_cases hlt : k < L.length
      · have hltm : k < U.length := by omega
        obtain ⟨ad, rfl, hab, s0, s1⟩ := (HL.out.below_to TyAt.keeps HX.out (Nat.le_refl _)).row.at_ hlt
        obtain ⟨ad', rfl, hab', t0, t1⟩ := (HM.out.below_to TyAt.keeps HX.out (Nat.le_refl _)).row.at_ hltm
        obtain ⟨hz, hze⟩ := zip_at hlt hltm
        obtain ⟨r, hr⟩ : ∃ r, fitB sup L[k] U[k] = r := ⟨_, rfl⟩
        have HR := Lib.hid hr
        have HT : Hid (r = true → ∀ p ∈ (L.zip U).take (k + 1), fitB sup p.1 p.2 = true) := Lib.hid (fun g => all_take (f := fun p : (Int × Int) × (Int × Int) => fitB sup p.1 p.2) hz HA.out (by rw [hze]; show fitB sup L[k] U[k] = true; rw [hr, g]))
        have HF : Hid (r = false → b = false) := Lib.hid (fun g => by rw [HE2.out]; exact all_not (f := fun p : (Int × Int) × (Int × Int) => fitB sup p.1 p.2) hz (by rw [hze]; show fitB sup L[k] U[k] = false; rw [hr, g]))
        clear hr hze hz
        generalize L[k] = t at *
        generalize U[k] = u at *
        have hA1 : Below wr.heap.size wr (wr.alloc (.cells #[.int .i64 t.1, .int .i64 t.2] 38)) := (Below.refl _ _).alloc (Nat.le_refl _) _
        have hsz := HX.out.size
        have u0 := (hA1.cell (p := ad'.add (k * 2)) (by rw [addr_add_block]; omega)).trans t0
        have u1 := (hA1.cell (p := off_ (ad'.add (k * 2)) 1) (by show (ad'.add _).block < _; rw [addr_add_block]; omega)).trans t1
        obtain ⟨c1, c2, hb, hzz⟩ := two_ty wr t.1 t.2 u.1 u.2
        have HC1 := Lib.hid c1
        have HC2 := Lib.hid c2
        have HX3 := Lib.hid (HX.out.trans (hb.mono hsz))
        clear c1 c2 hb hzz hA1
        go_upto_region 7 with fail
        generalize (wr.alloc (.cells #[.int .i64 t.1, .int .i64 t.2] 38)).alloc (.cells #[.int .i64 u.1, .int .i64 u.2] 38) = w3 at *
        have d0 := HC1.out 0 _ rfl
        have d1 := HC1.out 1 _ rfl
        have e0 := HC2.out 0 _ rfl
        have e1 := HC2.out 1 _ rfl
        cases r
        · go_wp2_with (go_at_call 51; (with_reducible refine (ffit1_is hl HS HN HC HX3 HR).mono ?_); rintro e w4 ⟨rfl, hb⟩; have HX4 := Lib.hid (HX3.out.trans (hb.mono HX3.out.size)); clear hb)
          go_ret
          exact ⟨by rw [HF.out (by simp)]; rfl, HX4.out⟩
        · go_wp2_with (go_at_call 51; (with_reducible refine (ffit1_is hl HS HN HC HX3 HR).mono ?_); rintro e w4 ⟨rfl, hb⟩; have HX4 := Lib.hid (HX3.out.trans (hb.mono HX3.out.size)); clear hb)
          go_roundw
          case rel => exact ⟨k + 1, by omega, by go_num, Lib.hid (HT.out (by simp)), HX4⟩
          case measure => simp [intOf]; omega
      · have E2 := Lib.hid (show b = true by rw [HE2.out]; exact all_end (f := fun p : (Int × Int) × (Int × Int) => fitB sup p.1 p.2) HA.out (by rw [List.length_zip]; omega))
        go_wp2_with fail
        go_ret
        exact ⟨by rw [E2.out]; rfl, HX.out⟩
  · have E2 := Lib.hid (show b = false by rw [E.out]; unfold allFitB; rw [decide_eq_false hn, Bool.false_and])
    have hn' : ((L.length : Int) == (U.length : Int)) = false := beq_eq_false_iff_ne.mpr (by omega)
    go_enter Try.func50, Try.ntmps50
    go_wp2
    go_ret
    exact ⟨by rw [E2.out]; rfl, Below.refl _ _⟩
theorem fallfit_any (sup : List Int) (L U : List (Int × Int)) (A A' A'' : Option Addr) (c c' c'' : Nat) (w : World) (hl : sup.length ≤ 1048576) (hS : Supers w w.heap.size A'' sup) (h : SlcIs TyAt 2 w w.heap.size A c L) (h' : SlcIs TyAt 2 w w.heap.size A' c' U) :
    Calls Try.prog 24 #[.slice A'' sup.length c'', .slice A L.length c, .slice A' U.length c'] w fun e w' => e = .returned (.bool (allFitB sup L U)) ∧ Below w.heap.size w w' := by
  have hA : Below w.heap.size w (w.alloc (.cells #[.slice A'' sup.length c''] 22)) := (Below.refl _ _).alloc (Nat.le_refl _) _
  have HA := Lib.hid hA
  have HL : Hid (SlcIs TyAt 2 (w.alloc (.cells #[.slice A'' sup.length c''] 22)) (w.alloc (.cells #[.slice A'' sup.length c''] 22)).heap.size A c L) := Lib.hid ((h.below_to TyAt.keeps hA (Nat.le_refl _)).keep' TyAt.keeps hA.size (fun _ _ => rfl))
  have HU : Hid (SlcIs TyAt 2 (w.alloc (.cells #[.slice A'' sup.length c''] 22)) (w.alloc (.cells #[.slice A'' sup.length c''] 22)).heap.size A' c' U) := Lib.hid ((h'.below_to TyAt.keeps hA (Nat.le_refl _)).keep' TyAt.keeps hA.size (fun _ _ => rfl))
  have HS := Lib.hid (supers_up hS hA)
  have HC := Lib.hid (cells_new w [.slice A'' sup.length c''] 22)
  have HZ : Hid (w.heap.size < (w.alloc (.cells #[.slice A'' sup.length c''] 22)).heap.size) := Lib.hid (by simp)
  clear h h' hA hS
  go_enter Try.func24, Try.ntmps24
  go_upto_region 1 with fail
  generalize w.alloc (.cells #[.slice A'' sup.length c''] 22) = w1 at *
  have c0 := HC.out 0 _ rfl
  go_wp2_with (go_at_call 50; (with_reducible refine (fequal_any sup L U A A' A'' c c' c'' w.heap.size w1 hl HS.out HZ.out c0 HL.out HU.out).mono ?_); rintro e w2 ⟨rfl, hb⟩; have HB2 := Lib.hid hb; clear hb)
  go_ret
  exact ⟨rfl, HA.out.trans (HB2.out.mono HA.out.size)⟩
theorem fallfit_is {m : Img} {h : Hnd} {L U : List (Int × Int)} {A A' : Option Addr} {c c' : Nat} {w0 w : World} {r : Bool} (HI : Hid (ImgIn w0 w0.heap.size h m)) (HX : Hid (Below w0.heap.size w0 w)) (hn : m.classes.length ≤ 1000) (HL : SlcIs TyAt 2 w w.heap.size A c L) (HU : SlcIs TyAt 2 w w.heap.size A' c' U) (HR : Hid (allFitB (supsOf m.classes) L U = r)) :
    Calls Try.prog 24 #[.slice h.A0 m.classes.length h.c0, .slice A L.length c, .slice A' U.length c'] w fun e w' => e = .returned (.bool r) ∧ Below w.heap.size w w' := by
  have H := fallfit_any (supsOf m.classes) L U A A' h.A0 c c' h.c0 w (by rw [supsOf_len]; omega) (supers_of (HI.out.now HX.out).classes.row) HL HU
  rw [HR.out, supsOf_len] at H
  exact H
end Go.Proofs.Ytndacljmcofopaa
namespace Go.Proofs.Ytndacljmcofopaa
set_option maxRecDepth 100000
set_option linter.unusedVariables false
set_option linter.unusedSimpArgs false

theorem tail_below {sup : List Int} {op : Int} {TK GV low st : List (Int × Int)} {nl : List Int} (h : (stepTail sup op TK GV nl st).err = 0) (hl : low.length + st.length ≤ 5) (hg : GV.length ≤ 2) :
    stepTail sup op TK GV nl (low ++ st) = ⟨low ++ (stepTail sup op TK GV nl st).after, nl, 0⟩ ∧ (stepTail sup op TK GV nl st).next = nl := by
  by_cases g : st.length < TK.length ∨ 8 < st.length - TK.length + GV.length
  · unfold stepTail at h
    rw [if_pos g] at h
    exact absurd h (show ¬ (4 : Int) = 0 by decide)
  by_cases q : ((st.drop (st.length - TK.length)).zip TK).all (fun p => doesB sup op p.1 p.2) = true
  · have e : stepTail sup op TK GV nl st = ⟨st.take (st.length - TK.length) ++ GV, nl, 0⟩ := by unfold stepTail; rw [if_neg g, if_pos q]
    rw [e]
    refine ⟨?_, rfl⟩
    have hd : (low ++ st).length - TK.length = low.length + (st.length - TK.length) := by rw [List.length_append]; omega
    unfold stepTail
    rw [hd, if_neg (by rw [List.length_append]; omega), List.drop_length_add_append, List.take_length_add_append, if_pos q, List.append_assoc]
  · unfold stepTail at h
    rw [if_neg g, if_neg q] at h
    exact absurd h (show ¬ (4 : Int) = 0 by decide)
theorem takes_below {m : Img} {x : Mth} {op a b : Int} {low st : List (Int × Int)} (h : ¬ (op = 6 ∧ st = [])) : takes m x op a b (low ++ st) = takes m x op a b st := by
  unfold takes
  by_cases h6 : op = 6
  · have hs : st ≠ [] := fun e => h ⟨h6, e⟩
    have hs' : low ++ st ≠ [] := by simp [hs]
    rw [if_pos ⟨h6, hs'⟩, if_pos ⟨h6, hs⟩]
  · rw [if_neg (fun q => h6 q.1), if_neg (fun q => h6 q.1)]
theorem gives_below {m : Img} {x : Mth} {op a b : Int} {low st : List (Int × Int)} (h : ¬ (op = 6 ∧ st = [])) : gives m x op a b (low ++ st) = gives m x op a b st := by
  unfold gives
  by_cases h6 : op = 6
  · have hs : st ≠ [] := fun e => h ⟨h6, e⟩
    have hs' : low ++ st ≠ [] := by simp [hs]
    have hl : (low ++ st).getLast? = st.getLast? := by rw [List.getLast?_append]; cases hq : st.getLast? with
      | none => exact absurd (List.getLast?_eq_none_iff.mp hq) hs
      | some v => rfl
    rw [if_pos ⟨h6, hs'⟩, if_pos ⟨h6, hs⟩, hl]
  · rw [if_neg (fun q => h6 q.1), if_neg (fun q => h6 q.1)]
theorem gives_len (m : Img) (x : Mth) (op a b : Int) (st : List (Int × Int)) : (gives m x op a b st).length ≤ 2 := by
  unfold gives
  exact len_ite (Nat.le_refl _) (giveOf_len m x op a b)
/-- A step that goes well, goes as well with more below. -/
theorem step_below {m : Img} {x : Mth} {pc op a b : Int} {low st : List (Int × Int)} (h : (stepIn m x pc op a b st).err = 0) (h6 : ¬ (op = 6 ∧ st = [])) (hl : low.length + st.length ≤ 5) :
    stepIn m x pc op a b (low ++ st) = ⟨low ++ (stepIn m x pc op a b st).after, (stepIn m x pc op a b st).next, 0⟩ := by
  by_cases ho : (nextOfOp pc op a).head?.any (fun n => decide ((x.code.length : Int) ≤ n)) = true
  · unfold stepIn at h
    rw [if_pos ho] at h
    exact absurd h (show ¬ (4 : Int) = 0 by decide)
  have h6' : ¬ (op = 6 ∧ low ++ st = []) := fun q => h6 ⟨q.1, (List.append_eq_nil_iff.mp q.2).2⟩
  rw [step_tail ho h6] at h
  rw [step_tail ho h6, step_tail ho h6', takes_below h6, gives_below h6]
  obtain ⟨e1, e2⟩ := tail_below h hl (gives_len m x op a b st)
  rw [e1, e2]
theorem stepOf_below {m : Img} {f pc : Int} {low st : List (Int × Int)} (h : (stepOf m f pc st).err = 0) (h6 : ∀ i, (mthN m f).code[pc.toNat]? = some i → ¬ (i.1 = 6 ∧ st = [])) (hl : low.length + st.length ≤ 5) :
    stepOf m f pc (low ++ st) = ⟨low ++ (stepOf m f pc st).after, (stepOf m f pc st).next, 0⟩ := by
  unfold stepOf at h ⊢
  by_cases g : 0 ≤ f ∧ f < m.methods.length ∧ 0 ≤ pc ∧ pc < (mthN m f).code.length
  · rw [if_pos g] at h
    rw [if_pos g, if_pos g]
    cases hi : (mthN m f).code[pc.toNat]? with
    | none => rw [hi] at h; exact absurd h (show ¬ (1 : Int) = 0 by decide)
    | some i => rw [hi] at h; exact step_below h (h6 i hi) hl
  · rw [if_neg g] at h
    exact absurd h (show ¬ (1 : Int) = 0 by decide)
/-- Where the stack is too small for what is taken, the step fails. -/
theorem step_few {m : Img} {x : Mth} {pc op a b : Int} {st : List (Int × Int)} (h : st.length < (takes m x op a b st).length) : (stepIn m x pc op a b st).err = 4 := by
  unfold stepIn
  by_cases ho : (nextOfOp pc op a).head?.any (fun n => decide ((x.code.length : Int) ≤ n)) = true
  · rw [if_pos ho]; rfl
  · rw [if_neg ho, if_pos (Or.inr (Or.inl h))]; rfl
end Go.Proofs.Ytndacljmcofopaa
namespace Go.Proofs.Ytndacljmcofopaa
set_option maxRecDepth 100000
set_option linter.unusedVariables false
set_option linter.unusedSimpArgs false

theorem sub_trans' {sup : List Int} {k n k' n' k'' n'' : Int} (h : subB sup k n k' n' = true) (g : subB sup k' n' k'' n'' = true) : subB sup k n k'' n'' = true := by
  rw [sub_iff] at *
  rcases h with ⟨rfl, h⟩ | ⟨rfl, rfl, h⟩ | ⟨h0, rfl, rfl⟩
  · rcases g with ⟨rfl, g⟩ | ⟨rfl, rfl, g⟩ | ⟨g0, rfl, rfl⟩
    · exact .inl ⟨rfl, g⟩
    · exact .inl ⟨rfl, by omega⟩
    · exact .inl ⟨rfl, h⟩
  · rcases g with ⟨h4, _⟩ | ⟨_, rfl, g⟩ | ⟨g0, _, _⟩
    · omega
    · exact .inr (.inl ⟨rfl, rfl, above_trans h g⟩)
    · omega
  · exact g
/-- May a type be asked after: is its class there, if it has one? -/
def thereP (sup : List Int) (k n : Int) : Prop := k = 3 → 0 ≤ n ∧ n < sup.length
theorem sub_refl' {sup : List Int} {k n : Int} (hk : k = 1 ∨ k = 2 ∨ k = 3 ∨ k = 4) (ht : thereP sup k n) : subB sup k n k n = true := by
  rw [sub_iff]
  rcases hk with rfl | rfl | rfl | rfl
  · exact .inr (.inr ⟨.inl rfl, rfl, rfl⟩)
  · exact .inr (.inr ⟨.inr rfl, rfl, rfl⟩)
  · exact .inr (.inl ⟨rfl, rfl, above_self (ht rfl).1 (ht rfl).2⟩)
  · exact .inl ⟨rfl, by omega⟩
theorem sub_kinds {sup : List Int} {k n k' n' : Int} (h : subB sup k n k' n' = true) : (k = 1 ∨ k = 2 ∨ k = 3 ∨ k = 4) ∧ (k' = 1 ∨ k' = 2 ∨ k' = 3 ∨ k' = 4) := by
  rw [sub_iff] at h
  omega
end Go.Proofs.Ytndacljmcofopaa
namespace Go.Proofs.Ytndacljmcofopaa
set_option maxRecDepth 100000
set_option linter.unusedVariables false
set_option linter.unusedSimpArgs false

/-- Each of these types fits the other list's at its place. -/
def FitsAll (sup : List Int) (s t : List (Int × Int)) : Prop := s.length = t.length ∧ ∀ (i : Nat) (h1 : i < s.length) (h2 : i < t.length), subB sup s[i].1 s[i].2 t[i].1 t[i].2 = true
theorem isref_back {sup : List Int} {k n k' n' : Int} (h : subB sup k n k' n' = true) (g : isRefB k' = true) : isRefB k = true := by
  rw [sub_iff] at h
  unfold isRefB at g ⊢
  rw [decide_eq_true_eq] at g ⊢
  omega
theorem ints_back {sup : List Int} {k n k' n' : Int} (h : subB sup k n k' n' = true) (g : k = 2) : k' = 2 := by
  rw [sub_iff] at h
  omega
theorem does_fits {sup : List Int} {op : Int} {a b u : Int × Int} (h : subB sup a.1 a.2 b.1 b.2 = true) (g : doesB sup op b u = true) : doesB sup op a u = true := by
  unfold doesB at g ⊢
  by_cases h0 : u.1 = 0
  · rw [if_pos h0]
  rw [if_neg h0] at g ⊢
  by_cases h4 : u.1 = 4
  · rw [if_pos h4] at g ⊢
    simp only [Bool.and_eq_true, Bool.not_eq_true', Bool.and_eq_false_iff, decide_eq_false_iff_not] at g ⊢
    exact ⟨isref_back h g.1, g.2.imp id (fun q r => q (ints_back h r))⟩
  · rw [if_neg h4] at g ⊢
    exact sub_trans' h g
theorem FitsAll.take {sup : List Int} {s t : List (Int × Int)} (h : FitsAll sup s t) (d : Nat) : FitsAll sup (s.take d) (t.take d) := by
  refine ⟨by rw [List.length_take, List.length_take, h.1], fun i h1 h2 => ?_⟩
  rw [List.getElem_take, List.getElem_take]
  exact h.2 i _ _
theorem FitsAll.append {sup : List Int} {s t u v : List (Int × Int)} (h : FitsAll sup s t) (g : FitsAll sup u v) : FitsAll sup (s ++ u) (t ++ v) := by
  refine ⟨by rw [List.length_append, List.length_append, h.1, g.1], fun i h1 h2 => ?_⟩
  by_cases q : i < s.length
  · rw [List.getElem_append_left q, List.getElem_append_left (by rw [← h.1]; exact q)]
    exact h.2 i _ _
  · rw [List.getElem_append_right (by omega), List.getElem_append_right (by rw [← h.1]; omega)]
    have e : i - t.length = i - s.length := by rw [h.1]
    simp only [e]
    exact g.2 _ _ _
theorem all_fits {sup : List Int} {op : Int} {s t TK : List (Int × Int)} (h : FitsAll sup s t) (g : (t.zip TK).all (fun p => doesB sup op p.1 p.2) = true) : (s.zip TK).all (fun p => doesB sup op p.1 p.2) = true := by
  rw [List.all_eq_true] at g ⊢
  intro p hp
  obtain ⟨i, hi, rfl⟩ := List.getElem_of_mem hp
  rw [List.length_zip] at hi
  have h1 : i < s.length := by omega
  have h2 : i < t.length := by rw [← h.1]; exact h1
  have h3 : i < TK.length := by omega
  have hz : i < (t.zip TK).length := by rw [List.length_zip]; omega
  have q := g _ (List.getElem_mem hz)
  rw [List.getElem_zip] at q ⊢
  exact does_fits (h.2 i h1 h2) q
theorem FitsAll.drop {sup : List Int} {s t : List (Int × Int)} (h : FitsAll sup s t) (d : Nat) : FitsAll sup (s.drop d) (t.drop d) := by
  refine ⟨by rw [List.length_drop, List.length_drop, h.1], fun i h1 h2 => ?_⟩
  rw [List.getElem_drop, List.getElem_drop]
  exact h.2 _ _ _
theorem tail_fits {sup : List Int} {op : Int} {TK GV GV' s t : List (Int × Int)} {nl : List Int} (h : FitsAll sup s t) (hg : FitsAll sup GV' GV) (e : (stepTail sup op TK GV nl t).err = 0) :
    (stepTail sup op TK GV' nl s).err = 0 ∧ (stepTail sup op TK GV' nl s).next = (stepTail sup op TK GV nl t).next ∧ FitsAll sup (stepTail sup op TK GV' nl s).after (stepTail sup op TK GV nl t).after := by
  by_cases g : t.length < TK.length ∨ 8 < t.length - TK.length + GV.length
  · unfold stepTail at e
    rw [if_pos g] at e
    exact absurd e (show ¬ (4 : Int) = 0 by decide)
  by_cases q : ((t.drop (t.length - TK.length)).zip TK).all (fun p => doesB sup op p.1 p.2) = true
  · have e1 : stepTail sup op TK GV nl t = ⟨t.take (t.length - TK.length) ++ GV, nl, 0⟩ := by unfold stepTail; rw [if_neg g, if_pos q]
    have e2 : stepTail sup op TK GV' nl s = ⟨s.take (t.length - TK.length) ++ GV', nl, 0⟩ := by
      unfold stepTail
      rw [h.1, hg.1, if_neg g, if_pos (all_fits (h.drop _) q)]
    rw [e1, e2]
    exact ⟨rfl, rfl, (h.take _).append hg⟩
  · unfold stepTail at e
    rw [if_neg g, if_neg q] at e
    exact absurd e (show ¬ (4 : Int) = 0 by decide)
theorem FitsAll.nil_iff {sup : List Int} {s t : List (Int × Int)} (h : FitsAll sup s t) : s = [] ↔ t = [] := by
  rw [← List.length_eq_zero_iff, ← List.length_eq_zero_iff, h.1]
theorem FitsAll.last {sup : List Int} {s t : List (Int × Int)} (h : FitsAll sup s t) (hs : s ≠ []) : subB sup (s.getLast?.getD (0, 0)).1 (s.getLast?.getD (0, 0)).2 (t.getLast?.getD (0, 0)).1 (t.getLast?.getD (0, 0)).2 = true := by
  have h0 : 0 < s.length := List.length_pos_iff.mpr hs
  have h1 : s.length - 1 < s.length := by omega
  have h2 : s.length - 1 < t.length := by rw [← h.1]; exact h1
  rw [List.getLast?_eq_getElem?, List.getLast?_eq_getElem?, ← h.1, List.getElem?_eq_getElem h1, List.getElem?_eq_getElem h2]
  exact h.2 _ _ _
theorem FitsAll.self {sup : List Int} {s : List (Int × Int)} (h : ∀ t ∈ s, subB sup t.1 t.2 t.1 t.2 = true) : FitsAll sup s s := ⟨rfl, fun _ h1 _ => h _ (List.getElem_mem h1)⟩
theorem takes_fits {m : Img} {x : Mth} {op a b : Int} {s t : List (Int × Int)} {sup : List Int} (h : FitsAll sup s t) : takes m x op a b s = takes m x op a b t := by
  unfold takes
  by_cases hs : s = []
  · rw [hs, h.nil_iff.mp hs]
  · have ht : t ≠ [] := fun e => hs (h.nil_iff.mpr e)
    by_cases h6 : op = 6
    · rw [if_pos ⟨h6, hs⟩, if_pos ⟨h6, ht⟩]
    · rw [if_neg (fun q => h6 q.1), if_neg (fun q => h6 q.1)]
theorem gives_fits {m : Img} {x : Mth} {op a b : Int} {s t : List (Int × Int)} {sup : List Int} (h : FitsAll sup s t) (hr : ∀ t ∈ giveOf m x op a b, subB sup t.1 t.2 t.1 t.2 = true) : FitsAll sup (gives m x op a b s) (gives m x op a b t) := by
  unfold gives
  by_cases hs : s = []
  · rw [hs, h.nil_iff.mp hs, if_neg (fun q => q.2 rfl)]
    exact FitsAll.self hr
  · have ht : t ≠ [] := fun e => hs (h.nil_iff.mpr e)
    by_cases h6 : op = 6
    · rw [if_pos ⟨h6, hs⟩, if_pos ⟨h6, ht⟩]
      have hl := h.last hs
      refine ⟨rfl, fun i h1 h2 => ?_⟩
      match i, h1 with
      | 0, _ => exact hl
      | 1, _ => exact hl
    · rw [if_neg (fun q => h6 q.1), if_neg (fun q => h6 q.1)]
      exact FitsAll.self hr
/-- A stack whose types fit another's goes where that one goes, and what is left fits. -/
theorem step_fits {m : Img} {x : Mth} {pc op a b : Int} {s t : List (Int × Int)} (h : FitsAll (supsOf m.classes) s t) (hr : ∀ t ∈ giveOf m x op a b, subB (supsOf m.classes) t.1 t.2 t.1 t.2 = true) (e : (stepIn m x pc op a b t).err = 0) :
    (stepIn m x pc op a b s).err = 0 ∧ (stepIn m x pc op a b s).next = (stepIn m x pc op a b t).next ∧ FitsAll (supsOf m.classes) (stepIn m x pc op a b s).after (stepIn m x pc op a b t).after := by
  by_cases ho : (nextOfOp pc op a).head?.any (fun n => decide ((x.code.length : Int) ≤ n)) = true
  · unfold stepIn at e
    rw [if_pos ho] at e
    exact absurd e (show ¬ (4 : Int) = 0 by decide)
  by_cases h6 : op = 6 ∧ t = []
  · obtain ⟨rfl, rfl⟩ := h6
    rw [step_none] at e
    exact absurd e (show ¬ (4 : Int) = 0 by decide)
  have h6' : ¬ (op = 6 ∧ s = []) := fun q => h6 ⟨q.1, h.nil_iff.mp q.2⟩
  rw [step_tail ho h6] at e ⊢
  rw [step_tail ho h6', takes_fits h]
  exact tail_fits h (gives_fits h hr) e
end Go.Proofs.Ytndacljmcofopaa
