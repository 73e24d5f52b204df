/-
  The statement on what lies below the operands (FlowBelow), walked: it answers true at any image, place and operands of the sizes that a program's can be.
-/
import Derived.Test.YtndacljmcofopaaM45
import Derived.IntWalk
import Derived.RegionTactic
import Derived.ChangeAlike
import Derived.Deep.RegionHeld3
import Derived.Deep.QuietTactic
import Derived.BigQuiet
namespace Go.Proofs.Ytndacljmcofopaa
set_option maxRecDepth 100000
set_option linter.unusedVariables false
set_option linter.unusedSimpArgs false
open Go.ChangeShapes Go.WideShapes Go.ChangeAt Go.RowKit
set_option linter.unusedVariables false
set_option linter.unusedSimpArgs false

theorem fstep_mk {m : Img} {h : Hnd} {f pc : Int} {st L : List (Int × Int)} {NL : List Int} {er : Int} {A : Option Addr} {cap n : Nat} {w0 w : World} (HI : Hid (ImgIn w0 w0.heap.size h m)) (HX : Hid (Below w0.heap.size w0 w)) (HM : Hid (SaneI m)) (HN : Hid (st.length = n)) (HS : Hid (SlcIs TyAt 2 w w.heap.size A cap st)) (hs : n ≤ 1000) (HR : Hid (stepOf m f pc st = ⟨L, NL, er⟩)) :
    Calls Try.prog 9 #[imgV h m, .int .i64 f, .int .i64 pc, .slice A n cap] w fun e w' => ∃ A c A' c', e = .returned (.tuple #[.slice A L.length c, .slice A' NL.length c', .int .i64 er]) ∧ SlcIs TyAt 2 w' w'.heap.size A c L ∧ SlcIs IntAt 1 w' w'.heap.size A' c' NL ∧ Below w.heap.size w w' :=
  (fstep_is HI HX HM HN HS hs HR).mono fun _ _ h => h
/-- append onto a row of the call's own, at an operation whose guard is met. -/
theorem append_liesG {P : Program} {w : World} {ops : Array Oper} {rest : List Oper} {o : Oper} {a : Act} {Q : Exit → Act → World → Prop} (hgw : Region.wanted o (yielded ops a.tmps) = true) (s x : Operand) (t : TypeId)
    (ho : o.op = .call { callee := .builtin .append, args := #[s, x], argTypes := #[t, t] })
    (base : Nat) (e : TypeId) (i : TypeInfo) (z : Value) (size bytes : Nat) (ht : P.underlying t = some (.slice e)) (hi : P.info? e = some i) (hz : i.zero = some z)
    (hsize : i.size = size) (hby : i.bytes = bytes) (hzs : z.cells.size = size) (hsz : 0 < size)
    (v : Value) (n : Nat) (xs : List Value) (hs : a.eval s = v) (hown : w.ownsRow base e size v n xs)
    (A : Option Addr) (m c B : Nat) (news : List Value) (hm : news.length = m * size) (hx : a.eval x = .slice A m c) (hl : Lies w B A news) (h1 : ∀ u ∈ news, u.oneCell' = true)
    (h63 : n + m ≤ maxLen) (hbytes : (n + m) * bytes ≤ 140737488355328) (hbase : base ≤ w.heap.size)
    (h : ∀ v' w', w'.ownsRow base e size v' (n + m) (xs ++ news) → w.grownBy w' v.ownBlock → wpList P ops Q rest (a.put o.dst v') w') : wpList P ops Q (o :: rest) a w :=
  wpList_step fun K hK => by
    rw [if_pos hgw]
    exact wp_appK s x t ho base e i z size bytes ht hi hz hsize hby hzs hsz v n xs hs hown A m c B news hm hx hl h1 h63 hbytes hbase fun v' w' h2 h3 => hK _ _ (h v' w' h2 h3)
theorem step_len {m : Img} {x : Mth} {pc op a b : Int} {st L : List (Int × Int)} {NL : List Int} {er : Int} (h : StepR.mk L NL er = stepIn m x pc op a b st) (he : er = 0) : L.length ≤ 1000 := by
  subst he
  have bad : ∀ n : Int, ¬ n = 0 → ¬ StepR.mk L NL 0 = badStep n := fun n hn q => by
    unfold badStep at q
    injection q with _ _ q
    exact hn q.symm
  unfold stepIn at h
  by_cases h1 : (nextOfOp pc op a).head?.any (fun n => decide ((x.code.length : Int) ≤ n)) = true
  · rw [if_pos h1] at h; exact absurd h (bad 4 (by decide))
  rw [if_neg h1] at h
  by_cases h2 : (op = 6 ∧ st = []) ∨ st.length < (takes m x op a b st).length ∨ 8 < st.length - (takes m x op a b st).length + (gives m x op a b st).length
  · rw [if_pos h2] at h; exact absurd h (bad 4 (by decide))
  rw [if_neg h2] at h
  by_cases h3 : ((st.drop (st.length - (takes m x op a b st).length)).zip (takes m x op a b st)).all (fun p => doesB (supsOf m.classes) op p.1 p.2) = true
  · rw [if_pos h3] at h
    injection h with h4
    rw [h4, List.length_append, List.length_take]
    have : ¬ 8 < st.length - (takes m x op a b st).length + (gives m x op a b st).length := fun q => h2 (.inr (.inr q))
    omega
  · rw [if_neg h3] at h; exact absurd h (bad 4 (by decide))
theorem own_cat {w : World} {B e : Nat} {v : Value} {L M N : List (Int × Int)} (HN : Hid (L ++ M = N)) (h : w.ownsRow B e 2 v (L.length + M.length) (tysV L ++ tysV M)) : ∃ A c, v = .slice A N.length c ∧ SlcIs TyAt 2 w w.heap.size A c N := by
  obtain rfl := HN.out
  have h' : w.ownsRow B e 2 v (L ++ M).length (tysV (L ++ M)) := by
    rw [List.length_append]
    show World.ownsRow _ _ _ _ _ _ ((L ++ M).flatMap tyC)
    rw [List.flatMap_append]
    exact h
  obtain ⟨A, c, e, hs, _⟩ := own_types h'
  exact ⟨A, c, e, hs⟩

set_option maxHeartbeats 6400000 in
theorem flowBelow_any (m : Img) (h : Hnd) (a1 a2 : Int) (low st : List (Int × Int)) (A B : Option Addr) (cap capb : Nat) (w : World) (c10 : 0 ≤ a1) (c11 : a1 ≤ 255) (c20 : 0 ≤ a2) (c21 : a2 ≤ 255) (H : ImgIn w w.heap.size h m)
    (hlow : SlcIs TyAt 2 w w.heap.size A cap low) (hst : SlcIs TyAt 2 w w.heap.size B capb st) (zl : low.length ≤ 140737488351232) (zs : st.length ≤ 140737488351232) :
    Calls Try.prog 5 #[imgV h m, .int .u8 a1, .int .u8 a2, .slice A low.length cap, .slice B st.length capb] w fun e w' => e = .returned (.bool true) ∧ Below w.heap.size w w' := by
  obtain ⟨tyi, hi, hz0, hz1, hz2⟩ := info_partsK info_type
  have HW := Lib.hid (below_box (w := w) (h := h) (m := m))
  have HBX := Lib.hid (img_box w h m)
  have HZ : Hid (w.heap.size < (w.alloc (imgO h m)).heap.size) := Lib.hid (by simp)
  have HI := Lib.hid (H.now HW.out)
  obtain ⟨r, hr⟩ : ∃ r, saneB8 m = r := ⟨_, rfl⟩
  have HR := Lib.hid hr
  have hle := H.methods.le
  have hcap := H.methods.cap
  have hl1 := hst.le
  have hl2 := hst.cap
  have hl3 := hlow.le
  have hl4 := hlow.cap
  have HS := Lib.hid (slcNow TyAt.keeps hst HW.out)
  have HLW := Lib.hid (slcNow TyAt.keeps hlow HW.out)
  have HS0 := HS
  have HLW0 := HLW
  have hw1 : IntKind.i64.wrap ((low.length : Int) + (st.length : Int)) = (low.length : Int) + (st.length : Int) := IntWalk.i64_in _ (by omega)
  clear H hr hst hlow
  go_enter Try.func5, Try.ntmps5
  go_upto_region 1 with fail
  generalize w.alloc (imgO h m) = w1 at *
  obtain ⟨q0, q1, q2, q3, q4, q5, q6⟩ := HBX.out
  have HX : Hid (Below w1.heap.size w1 w1) := Lib.hid (Below.refl _ _)
  cases r
  · go_wp2_with (first | (go_at_call 7; (with_reducible refine (sane8_is HI HX HR).mono ?_); rintro e w7 ⟨rfl, hb⟩; have HX := Lib.hid (HX.out.trans (hb.mono HX.out.size)); have HS := Lib.hid (slcNow TyAt.keeps HS.out hb); have HLW := Lib.hid (slcNow TyAt.keeps HLW.out hb); clear hb; obtain ⟨q0, q1, q2, q3, q4, q5, q6⟩ := HBX.out.keep HX.out HZ.out) | (go_at_call 8; (with_reducible refine (flowAwake_any _).mono ?_); rintro e w8 ⟨rfl, hb⟩; have HX := Lib.hid (HX.out.trans (hb.mono HX.out.size)); clear hb; obtain ⟨q0, q1, q2, q3, q4, q5, q6⟩ := HBX.out.keep HX.out HZ.out))
    go_ret
    exact ⟨by first | rfl | simp, HW.out.trans (HX.out.mono (Nat.le_of_lt HZ.out))⟩
  have HM := Lib.hid (saneB8_yes HR.out)
  by_cases hz : m.methods.length = 0
  · have ht : ((m.methods.length : Int) == 0) = true := beq_iff_eq.mpr (by omega)
    clear hz
    go_wp2_with (first | (go_at_call 7; (with_reducible refine (sane8_is HI HX HR).mono ?_); rintro e w7 ⟨rfl, hb⟩; have HX := Lib.hid (HX.out.trans (hb.mono HX.out.size)); have HS := Lib.hid (slcNow TyAt.keeps HS.out hb); have HLW := Lib.hid (slcNow TyAt.keeps HLW.out hb); clear hb; obtain ⟨q0, q1, q2, q3, q4, q5, q6⟩ := HBX.out.keep HX.out HZ.out) | (go_at_call 8; (with_reducible refine (flowAwake_any _).mono ?_); rintro e w8 ⟨rfl, hb⟩; have HX := Lib.hid (HX.out.trans (hb.mono HX.out.size)); clear hb; obtain ⟨q0, q1, q2, q3, q4, q5, q6⟩ := HBX.out.keep HX.out HZ.out))
    go_ret
    exact ⟨by first | rfl | simp, HW.out.trans (HX.out.mono (Nat.le_of_lt HZ.out))⟩
  by_cases h5 : 5 < low.length + st.length
  · have ht : ((m.methods.length : Int) == 0) = false := beq_eq_false_iff_ne.mpr (by omega)
    have i50 : (low.length : Int) + (st.length : Int) > 5 := by omega
    go_wp2_with (first | (go_at_call 7; (with_reducible refine (sane8_is HI HX HR).mono ?_); rintro e w7 ⟨rfl, hb⟩; have HX := Lib.hid (HX.out.trans (hb.mono HX.out.size)); have HS := Lib.hid (slcNow TyAt.keeps HS.out hb); have HLW := Lib.hid (slcNow TyAt.keeps HLW.out hb); clear hb; obtain ⟨q0, q1, q2, q3, q4, q5, q6⟩ := HBX.out.keep HX.out HZ.out) | (go_at_call 8; (with_reducible refine (flowAwake_any _).mono ?_); rintro e w8 ⟨rfl, hb⟩; have HX := Lib.hid (HX.out.trans (hb.mono HX.out.size)); clear hb; obtain ⟨q0, q1, q2, q3, q4, q5, q6⟩ := HBX.out.keep HX.out HZ.out))
    go_ret
    exact ⟨by first | rfl | simp, HW.out.trans (HX.out.mono (Nat.le_of_lt HZ.out))⟩
  have i50 : ¬ (low.length : Int) + (st.length : Int) > 5 := by omega
  have hs50 : st.length ≤ 1000 := by omega
  have hiK := hi
  clear hi
  have hnp : 0 < m.methods.length := by omega
  have ht : ((m.methods.length : Int) == 0) = false := beq_eq_false_iff_ne.mpr (by omega)
  clear hz
  obtain ⟨G, hG, e1, e2⟩ := mod_in8 (a := a1) c10 hnp
  obtain ⟨x, hx⟩ : ∃ x, m.methods[G]? = some x := ⟨_, List.getElem?_eq_getElem hG⟩
  have hxm := HM.out.method (List.mem_of_getElem? hx)
  have hcp := hxm.cp
  obtain ⟨P, hP, e3, e4⟩ := mod_in8 (a := a2) c20 hcp
  obtain ⟨⟨op, a, b⟩, hi⟩ : ∃ i, x.code[P]? = some i := ⟨_, List.getElem?_eq_getElem hP⟩
  have him := List.mem_of_getElem? hi
  have HGX := Lib.hid hx
  have HFI := Lib.hid hi
  have HNA := Lib.hid (And.intro (hxm.fits.ct _ him) (hxm.co _ him))
  have ht2 : ((x.code.length : Int) == 0) = false := beq_eq_false_iff_ne.mpr (by omega)
  obtain ⟨ad, ad2, j4, ea, hab, hab2, hj0, hj1, hc4, hi0, hi1, hi2⟩ := img_ins HI.out hx hi
  obtain ⟨A0, A1, A2, A3, A4, k0, k1, k2, k3, k4⟩ := h
  dsimp only at ea hle hcap q0 q1 q2 q3 q4
  subst ea
  have hle2 : m.methods.length ≤ 9223372036854775807 := by omega
  have hcl2 : x.code.length ≤ 9223372036854775807 := by omega
  have HK : Hid (∀ W, Below w1.heap.size w1 W → (fun w' => w'.cell? ⟨w.heap.size, 0, none⟩ = some (.slice A0 m.classes.length k0) ∧ w'.cell? ⟨w.heap.size, 1, none⟩ = some (.slice A1 m.statics.length k1) ∧ w'.cell? ⟨w.heap.size, 2, none⟩ = some (.slice A2 m.ints.length k2) ∧ w'.cell? ⟨w.heap.size, 3, none⟩ = some (.slice (some ad) m.methods.length k3) ∧ w'.cell? ⟨w.heap.size, 4, none⟩ = some (.slice A4 m.entries.length k4) ∧ w'.cell? ⟨w.heap.size, 5, none⟩ = some (.int .i64 m.stack) ∧ w'.cell? ⟨w.heap.size, 6, none⟩ = some (.int .i64 m.heap) ∧ w'.cell? (off_ (ad.add (G * 8)) 4) = some (.slice (some ad2) x.code.length j4) ∧ w'.cell? (ad2.add (P * 3)) = some (.int .i64 op) ∧ w'.cell? (off_ (ad2.add (P * 3)) 1) = some (.int .i64 a) ∧ w'.cell? (off_ (ad2.add (P * 3)) 2) = some (.int .i64 b)) W) := Lib.hid (fun W hW => by
    obtain ⟨d0, d1, d2, d3, d4, d5, d6⟩ := HBX.out.keep hW HZ.out
    exact ⟨d0, d1, d2, d3, d4, d5, d6, (hW.cell (p := off_ (ad.add (G * 8)) 4) (by show (ad.add _).block < _; rw [addr_add_block]; exact hab)).trans hc4, (hW.cell (p := ad2.add (P * 3)) (by rw [addr_add_block]; exact hab2)).trans hi0,
      (hW.cell (p := off_ (ad2.add (P * 3)) 1) (by show (ad2.add _).block < _; rw [addr_add_block]; exact hab2)).trans hi1, (hW.cell (p := off_ (ad2.add (P * 3)) 2) (by show (ad2.add _).block < _; rw [addr_add_block]; exact hab2)).trans hi2⟩)
  clear hx hi him hxm hc4 hi0 hi1 hi2 q0 q1 q2 q3 q4 q5 q6
  obtain ⟨q0, q1, q2, q3, q4, q5, q6, c4, i0, i1, i2⟩ := HK.out _ HX.out
  have HINF := Lib.hid (And.intro hiK (And.intro hz0 (And.intro hz1 hz2)))
  clear hiK hz0 hz1 hz2
  obtain ⟨⟨L1, N1, er1⟩, hs1⟩ : ∃ s, stepOf m G P st = s := ⟨_, rfl⟩
  obtain ⟨ALL, hALL⟩ : ∃ L, low ++ st = L := ⟨_, rfl⟩
  obtain ⟨AF, hAF⟩ : ∃ L, low ++ L1 = L := ⟨_, rfl⟩
  have HRS := Lib.hid hs1
  have HALL := Lib.hid hALL
  have HAF := Lib.hid hAF
  have hal : ALL.length ≤ 1000 := by rw [← hALL, List.length_append]; omega
  have HG6 : Hid (er1 = 0 → ¬ (op = 6 ∧ st.length = 0)) := Lib.hid (fun he q => by
    obtain ⟨q1, q2⟩ := q
    subst q1
    have h1 := stepOf_in (st := st) HGX.out HFI.out
    rw [hs1, List.eq_nil_of_length_eq_zero q2, step_none] at h1
    rw [he] at h1
    injection h1 with _ _ h2
    cases h2)
  have HL1 : Hid (er1 = 0 → L1.length ≤ 1000) := Lib.hid (fun he => by
    have h1 := stepOf_in (st := st) HGX.out HFI.out
    rw [hs1] at h1
    exact step_len h1 he)
  have HRS2 : Hid (er1 = 0 → stepOf m G P ALL = ⟨AF, N1, 0⟩) := Lib.hid (fun he => by
    have h1 := stepOf_below (m := m) (f := (G : Int)) (pc := (P : Int)) (low := low) (st := st) (by rw [hs1]; exact he) (fun i hi q => by
      have h2 : i = (op, a, b) := by
        have e : (mthN m (G : Int)) = x := by unfold mthN; rw [Int.toNat_natCast, HGX.out]; rfl
        rw [e, Int.toNat_natCast, HFI.out] at hi
        exact (Option.some.inj hi).symm
      subst h2
      exact HG6.out he ⟨q.1, by rw [q.2]; rfl⟩) (by omega)
    rw [hs1, hALL] at h1
    rw [h1, ← hAF])
  clear hs1 hALL hAF
  go_upto_region 5 with (go_at_call 7; (with_reducible refine (sane8_is HI HX HR).mono ?_); rintro e w7 ⟨rfl, hb⟩; have HX := Lib.hid (HX.out.trans (hb.mono HX.out.size)); have HS := Lib.hid (slcNow TyAt.keeps HS.out hb); have HLW := Lib.hid (slcNow TyAt.keeps HLW.out hb); clear hb; obtain ⟨q0, q1, q2, q3, q4, q5, q6, c4, i0, i1, i2⟩ := HK.out _ HX.out)
  go_upto_region 6 with (go_at_call 9; (with_reducible refine (fstep_mk HI HX HM (Lib.hid rfl) HS hs50 HRS).mono ?_); rintro e w8 ⟨A7, c7, A8, c8, rfl, hs7, hs8, hb⟩; have H7 := Lib.hid hs7; have H8 := Lib.hid hs8; clear hs7 hs8; have HX := Lib.hid (HX.out.trans (hb.mono HX.out.size)); have HS := Lib.hid (slcNow TyAt.keeps HS.out hb); have HLW := Lib.hid (slcNow TyAt.keeps HLW.out hb); clear hb; clear q0 q1 q2 q3 q4 q5 q6 c4 i0 i1 i2; obtain ⟨q0, q1, q2, q3, q4, q5, q6, c4, i0, i1, i2⟩ := HK.out _ HX.out)
  by_cases he : er1 = 0
  rotate_left
  · have hne : (er1 != 0) = true := by simpa using he
    go_wp2_with (go_at_call 8; (with_reducible refine (flowAwake_any _).mono ?_); rintro e w9 ⟨rfl, hb⟩; have HX := Lib.hid (HX.out.trans (hb.mono HX.out.size)); clear hb)
    go_ret
    exact ⟨by first | rfl | simp, HW.out.trans (HX.out.mono (Nat.le_of_lt HZ.out))⟩
  subst he
  have hL1 := HL1.out rfl
  have HRS2 := Lib.hid (HRS2.out rfl)
  obtain ⟨hi, hz0, hz1, hz2⟩ := HINF.out
  by_cases h6 : op = 6
  · have hs0 : ((st.length : Int) == 0) = false := beq_eq_false_iff_ne.mpr (fun q => HG6.out rfl ⟨h6, by omega⟩)
    subst h6
    have HLWC := Lib.hid (slcNow TyAt.keeps HLW0.out HX.out)
    have HSC := Lib.hid (slcNow TyAt.keeps HS0.out HX.out)
    go_upto_region 9 with (first | (at_builtin; have HXE : Hid (Below w8.heap.size w8 (w8.alloc (.cells #[] 38))) := Lib.hid ((Below.refl _ _).alloc (Nat.le_refl _) _); have HTE := Lib.hid (tys_lie (HLWC.out.below_to TyAt.keeps HXE.out (Nat.le_refl _)).row); refine append_liesK rfl _ _ 23 rfl w8.heap.size 38 tyi (.agg #[.int .i64 0, .int .i64 0]) 2 16 Try.underlying23 hi hz0 hz1 hz2 rfl (by decide) _ 0 [] rfl (own_emptyK w8 38 2) A low.length cap _ (tysV low) (tysV_len _) rfl HTE.out (tysV_one _) (by unfold maxLen; omega) (by omega) (by simp) ?_; intro v9 wv9 hown hgrow; have HYv9 := Lib.hid (appK_more HXE.out (own_emptyK w8 38 2) (by simp) hgrow); have HOv9 : Hid (wv9.ownsRow w8.heap.size 38 2 v9 low.length (tysV low)) := Lib.hid (by simpa using hown); have hsyv9 := HYv9.out.size; clear hgrow hown) | (at_builtin; have HTF := Lib.hid (tys_lie (HSC.out.below_to TyAt.keeps HYv9.out (Nat.le_refl _)).row); refine append_liesK rfl _ _ 23 rfl w8.heap.size 38 tyi (.agg #[.int .i64 0, .int .i64 0]) 2 16 Try.underlying23 hi hz0 hz1 hz2 rfl (by decide) _ low.length (tysV low) rfl HOv9.out B st.length capb _ (tysV st) (tysV_len _) rfl HTF.out (tysV_one _) (by unfold maxLen; omega) (by omega) hsyv9 ?_; intro v10 wv10 hown hgrow; have hb := appK_more HYv9.out HOv9.out hsyv9 hgrow; obtain ⟨A9, c9, rfl, hsl⟩ := own_cat HALL hown; have HSA := Lib.hid hsl; have HX := Lib.hid (HX.out.trans (hb.mono HX.out.size)); have H7 := Lib.hid (slcNow TyAt.keeps H7.out hb); have H8 := Lib.hid (slcNow IntAt.keeps H8.out hb); clear hb hsl; clear q0 q1 q2 q3 q4 q5 q6 c4 i0 i1 i2; obtain ⟨q0, q1, q2, q3, q4, q5, q6, c4, i0, i1, i2⟩ := HK.out _ HX.out; clear hgrow hown))
    go_upto_region 10 with (go_at_call 9; (with_reducible refine (fstep_mk HI HX HM (Lib.hid rfl) HSA hal HRS2).mono ?_); rintro e w12 ⟨A10, c10, A11, c11, rfl, hs10, hs11, hb⟩; have HA := Lib.hid hs10; have HN2 := Lib.hid hs11; clear hs10 hs11; have HX := Lib.hid (HX.out.trans (hb.mono HX.out.size)); have H7 := Lib.hid (slcNow TyAt.keeps H7.out hb); have H8 := Lib.hid (slcNow IntAt.keeps H8.out hb); clear hb; clear q0 q1 q2 q3 q4 q5 q6 c4 i0 i1 i2)
    go_wp2_with (first | (go_at_call 8; (with_reducible refine (flowAwake_any _).mono ?_); rintro e w13 ⟨rfl, hb⟩; have HX := Lib.hid (HX.out.trans (hb.mono HX.out.size)); have H7 := Lib.hid (slcNow TyAt.keeps H7.out hb); have H8 := Lib.hid (slcNow IntAt.keeps H8.out hb); have HA := Lib.hid (slcNow TyAt.keeps HA.out hb); have HN2 := Lib.hid (slcNow IntAt.keeps HN2.out hb); clear hb) | (go_at_call 12; (with_reducible refine (eqi_is H8 HN2).mono ?_); rintro e w14 ⟨rfl, hb⟩; have HX := Lib.hid (HX.out.trans (hb.mono HX.out.size)); have H7 := Lib.hid (slcNow TyAt.keeps H7.out hb); have HA := Lib.hid (slcNow TyAt.keeps HA.out hb); clear hb; have HLWD := Lib.hid (slcNow TyAt.keeps HLW0.out HX.out)) | (at_builtin; have HXE : Hid (Below w14.heap.size w14 (w14.alloc (.cells #[] 38))) := Lib.hid ((Below.refl _ _).alloc (Nat.le_refl _) _); have HTE := Lib.hid (tys_lie (HLWD.out.below_to TyAt.keeps HXE.out (Nat.le_refl _)).row); refine append_liesG (by first | rfl | simp [Region.wanted, yielded]) _ _ 23 rfl w14.heap.size 38 tyi (.agg #[.int .i64 0, .int .i64 0]) 2 16 Try.underlying23 hi hz0 hz1 hz2 rfl (by decide) _ 0 [] rfl (own_emptyK w14 38 2) A low.length cap _ (tysV low) (tysV_len _) rfl HTE.out (tysV_one _) (by unfold maxLen; omega) (by omega) (by simp) ?_; intro v15 wv15 hown hgrow; have HYv15 := Lib.hid (appK_more HXE.out (own_emptyK w14 38 2) (by simp) hgrow); have HOv15 : Hid (wv15.ownsRow w14.heap.size 38 2 v15 low.length (tysV low)) := Lib.hid (by simpa using hown); have hsyv15 := HYv15.out.size; clear hgrow hown) | (at_builtin; have HTF := Lib.hid (tys_lie (H7.out.below_to TyAt.keeps HYv15.out (Nat.le_refl _)).row); refine append_liesG (by first | rfl | simp [Region.wanted, yielded]) _ _ 23 rfl w14.heap.size 38 tyi (.agg #[.int .i64 0, .int .i64 0]) 2 16 Try.underlying23 hi hz0 hz1 hz2 rfl (by decide) _ low.length (tysV low) rfl HOv15.out A7 L1.length c7 _ (tysV L1) (tysV_len _) rfl HTF.out (tysV_one _) (by unfold maxLen; omega) (by omega) hsyv15 ?_; intro v16 wv16 hown hgrow; have hb := appK_more HYv15.out HOv15.out hsyv15 hgrow; obtain ⟨A12, c12, rfl, hsl⟩ := own_cat HAF hown; have HSF := Lib.hid hsl; have HX := Lib.hid (HX.out.trans (hb.mono HX.out.size)); have HA := Lib.hid (slcNow TyAt.keeps HA.out hb); clear hb hsl; clear hgrow hown) | (go_at_call 11; (with_reducible refine (eqt_is HA HSF).mono ?_); rintro e w17 ⟨rfl, hb⟩; have HX := Lib.hid (HX.out.trans (hb.mono HX.out.size)); clear hb))
    go_ret
    exact ⟨by first | rfl | simp, HW.out.trans (HX.out.mono (Nat.le_of_lt HZ.out))⟩
  · have e6 : (op == 6) = false := beq_eq_false_iff_ne.mpr h6
    have HLWC := Lib.hid (slcNow TyAt.keeps HLW0.out HX.out)
    have HSC := Lib.hid (slcNow TyAt.keeps HS0.out HX.out)
    go_upto_region 9 with (first | (at_builtin; have HXE : Hid (Below w8.heap.size w8 (w8.alloc (.cells #[] 38))) := Lib.hid ((Below.refl _ _).alloc (Nat.le_refl _) _); have HTE := Lib.hid (tys_lie (HLWC.out.below_to TyAt.keeps HXE.out (Nat.le_refl _)).row); refine append_liesK rfl _ _ 23 rfl w8.heap.size 38 tyi (.agg #[.int .i64 0, .int .i64 0]) 2 16 Try.underlying23 hi hz0 hz1 hz2 rfl (by decide) _ 0 [] rfl (own_emptyK w8 38 2) A low.length cap _ (tysV low) (tysV_len _) rfl HTE.out (tysV_one _) (by unfold maxLen; omega) (by omega) (by simp) ?_; intro v9 wv9 hown hgrow; have HYv9 := Lib.hid (appK_more HXE.out (own_emptyK w8 38 2) (by simp) hgrow); have HOv9 : Hid (wv9.ownsRow w8.heap.size 38 2 v9 low.length (tysV low)) := Lib.hid (by simpa using hown); have hsyv9 := HYv9.out.size; clear hgrow hown) | (at_builtin; have HTF := Lib.hid (tys_lie (HSC.out.below_to TyAt.keeps HYv9.out (Nat.le_refl _)).row); refine append_liesK rfl _ _ 23 rfl w8.heap.size 38 tyi (.agg #[.int .i64 0, .int .i64 0]) 2 16 Try.underlying23 hi hz0 hz1 hz2 rfl (by decide) _ low.length (tysV low) rfl HOv9.out B st.length capb _ (tysV st) (tysV_len _) rfl HTF.out (tysV_one _) (by unfold maxLen; omega) (by omega) hsyv9 ?_; intro v10 wv10 hown hgrow; have hb := appK_more HYv9.out HOv9.out hsyv9 hgrow; obtain ⟨A9, c9, rfl, hsl⟩ := own_cat HALL hown; have HSA := Lib.hid hsl; have HX := Lib.hid (HX.out.trans (hb.mono HX.out.size)); have H7 := Lib.hid (slcNow TyAt.keeps H7.out hb); have H8 := Lib.hid (slcNow IntAt.keeps H8.out hb); clear hb hsl; clear q0 q1 q2 q3 q4 q5 q6 c4 i0 i1 i2; obtain ⟨q0, q1, q2, q3, q4, q5, q6, c4, i0, i1, i2⟩ := HK.out _ HX.out; clear hgrow hown))
    go_upto_region 10 with (go_at_call 9; (with_reducible refine (fstep_mk HI HX HM (Lib.hid rfl) HSA hal HRS2).mono ?_); rintro e w12 ⟨A10, c10, A11, c11, rfl, hs10, hs11, hb⟩; have HA := Lib.hid hs10; have HN2 := Lib.hid hs11; clear hs10 hs11; have HX := Lib.hid (HX.out.trans (hb.mono HX.out.size)); have H7 := Lib.hid (slcNow TyAt.keeps H7.out hb); have H8 := Lib.hid (slcNow IntAt.keeps H8.out hb); clear hb; clear q0 q1 q2 q3 q4 q5 q6 c4 i0 i1 i2)
    go_wp2_with (first | (go_at_call 8; (with_reducible refine (flowAwake_any _).mono ?_); rintro e w13 ⟨rfl, hb⟩; have HX := Lib.hid (HX.out.trans (hb.mono HX.out.size)); have H7 := Lib.hid (slcNow TyAt.keeps H7.out hb); have H8 := Lib.hid (slcNow IntAt.keeps H8.out hb); have HA := Lib.hid (slcNow TyAt.keeps HA.out hb); have HN2 := Lib.hid (slcNow IntAt.keeps HN2.out hb); clear hb) | (go_at_call 12; (with_reducible refine (eqi_is H8 HN2).mono ?_); rintro e w14 ⟨rfl, hb⟩; have HX := Lib.hid (HX.out.trans (hb.mono HX.out.size)); have H7 := Lib.hid (slcNow TyAt.keeps H7.out hb); have HA := Lib.hid (slcNow TyAt.keeps HA.out hb); clear hb; have HLWD := Lib.hid (slcNow TyAt.keeps HLW0.out HX.out)) | (at_builtin; have HXE : Hid (Below w14.heap.size w14 (w14.alloc (.cells #[] 38))) := Lib.hid ((Below.refl _ _).alloc (Nat.le_refl _) _); have HTE := Lib.hid (tys_lie (HLWD.out.below_to TyAt.keeps HXE.out (Nat.le_refl _)).row); refine append_liesG (by first | rfl | simp [Region.wanted, yielded]) _ _ 23 rfl w14.heap.size 38 tyi (.agg #[.int .i64 0, .int .i64 0]) 2 16 Try.underlying23 hi hz0 hz1 hz2 rfl (by decide) _ 0 [] rfl (own_emptyK w14 38 2) A low.length cap _ (tysV low) (tysV_len _) rfl HTE.out (tysV_one _) (by unfold maxLen; omega) (by omega) (by simp) ?_; intro v15 wv15 hown hgrow; have HYv15 := Lib.hid (appK_more HXE.out (own_emptyK w14 38 2) (by simp) hgrow); have HOv15 : Hid (wv15.ownsRow w14.heap.size 38 2 v15 low.length (tysV low)) := Lib.hid (by simpa using hown); have hsyv15 := HYv15.out.size; clear hgrow hown) | (at_builtin; have HTF := Lib.hid (tys_lie (H7.out.below_to TyAt.keeps HYv15.out (Nat.le_refl _)).row); refine append_liesG (by first | rfl | simp [Region.wanted, yielded]) _ _ 23 rfl w14.heap.size 38 tyi (.agg #[.int .i64 0, .int .i64 0]) 2 16 Try.underlying23 hi hz0 hz1 hz2 rfl (by decide) _ low.length (tysV low) rfl HOv15.out A7 L1.length c7 _ (tysV L1) (tysV_len _) rfl HTF.out (tysV_one _) (by unfold maxLen; omega) (by omega) hsyv15 ?_; intro v16 wv16 hown hgrow; have hb := appK_more HYv15.out HOv15.out hsyv15 hgrow; obtain ⟨A12, c12, rfl, hsl⟩ := own_cat HAF hown; have HSF := Lib.hid hsl; have HX := Lib.hid (HX.out.trans (hb.mono HX.out.size)); have HA := Lib.hid (slcNow TyAt.keeps HA.out hb); clear hb hsl; clear hgrow hown) | (go_at_call 11; (with_reducible refine (eqt_is HA HSF).mono ?_); rintro e w17 ⟨rfl, hb⟩; have HX := Lib.hid (HX.out.trans (hb.mono HX.out.size)); clear hb))
    go_ret
    exact ⟨by first | rfl | simp, HW.out.trans (HX.out.mono (Nat.le_of_lt HZ.out))⟩
end Go.Proofs.Ytndacljmcofopaa
