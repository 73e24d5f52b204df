/-
  Found types of which a seen one has an operand more are not right. Plain lemmas; no conditions.
  Rows of shapes of the call's own, read as types of all methods; one of them written. Plain lemmas; no conditions.
  What typer.Check comes to: types of all methods that are right, and that whatever is right says no less than; with an error, nothing is right.
  The statements' own word for shapes that are not too many (few).
-/
import Derived.Test.YtgpmdhdooglkfaaK32
import Derived.Test.YtgpmdhdooglkfaaK44
import Derived.Test.YtgpmdhdooglkfaaK30
namespace Go.Proofs.Ytgpmdhdooglkfaa
set_option maxRecDepth 100000
set_option linter.unusedVariables false
set_option linter.unusedSimpArgs false
open Go.ChangeShapes Go.WideShapes Go.ChangeAt Go.RowKit
set_option linter.unusedVariables false

theorem stepOf_inN {m : Img} {x : Mth} {F P : Nat} {op a b : Int} {st : List (Int × Int)} (hx : m.methods[F]? = some x) (hi : x.code[P]? = some (op, a, b)) : stepOf m F P st = stepIn m x P op a b st := by
  have hF := (List.getElem?_eq_some_iff.mp hx).1
  have hP := (List.getElem?_eq_some_iff.mp hi).1
  unfold stepOf mthN
  rw [Int.toNat_natCast, hx, Option.getD_some, if_pos ⟨by omega, by omega, by omega, by omega⟩, Int.toNat_natCast, hi]
theorem mthN_of {m : Img} {x : Mth} {F : Nat} (hx : m.methods[F]? = some x) : mthN m (F : Int) = x := by unfold mthN; rw [Int.toNat_natCast, hx]; rfl
/-- A step that is right goes where the instruction goes. -/
theorem stepOf_next {m : Img} {x : Mth} {F P : Nat} {st : List (Int × Int)} (hx : m.methods[F]? = some x) (hP : P < x.code.length) (he : (stepOf m F P st).err = 0) : (stepOf m F P st).next = nextAt m F P := by
  obtain ⟨⟨op, a, b⟩, hi⟩ : ∃ i, x.code[P]? = some i := ⟨_, List.getElem?_eq_getElem hP⟩
  rw [stepOf_inN hx hi] at he ⊢
  rw [nextAt_of hx hi]
  exact (stepIn_next he).1
theorem spoilt_wrong {m : Img} {x : Mth} {F p : Nat} {S : List Shp} {st : List (Int × Int)} (hx : m.methods[F]? = some x) (h : FoundS m (F : Int) S) (hp : p < S.length) (hs : (shpN S (p : Int)).seen = true) (hst : st.length = (shpN S (p : Int)).stack.length + 1) :
    rightS m (F : Int) (S.set p ⟨true, st⟩) = false := by
  have hlen : S.length = x.code.length := by rw [h.grow.len, mthN_of hx]
  have hset : ∀ i : Nat, shpN (S.set p ⟨true, st⟩) (i : Int) = if i = p then ⟨true, st⟩ else shpN S (i : Int) := fun i => shpN_set hp
  unfold rightS
  by_cases hp0 : p = 0
  · subst hp0
    have h0 := hset 0
    rw [if_pos rfl] at h0
    have hf : firstB m (F : Int) (S.set 0 ⟨true, st⟩) = false := by
      unfold firstB
      have e : shpN (S.set 0 ⟨true, st⟩) 0 = ⟨true, st⟩ := h0
      rw [e]
      have : ¬ st.length = 0 := by omega
      simp only [decide_eq_false this, Bool.and_false]
    rw [hf, Bool.false_and]
  · obtain ⟨q, hq, hqp, hqs, hqn⟩ := h.grow.pred p hp hp0 hs
    obtain ⟨he, hall⟩ := h.done q hq hqs
    have hnx := stepOf_next hx (by omega) he
    have hpn : (p : Int) ∈ (stepOf m F q (shpN S (q : Int)).stack).next := by rw [hnx]; exact hqn
    have hl := (hall _ hpn).2
    have hpl : placeB m (F : Int) (S.set p ⟨true, st⟩) (q : Int) = false := by
      unfold placeB
      rw [hset q, if_neg hqp, hqs]
      unfold goB
      have : ((stepOf m F q (shpN S (q : Int)).stack).next.all (onB m (S.set p ⟨true, st⟩) (stepOf m F q (shpN S (q : Int)).stack).after)) = false := by
        rw [Bool.eq_false_iff]
        intro hc
        have hon := (List.all_eq_true.mp hc) _ hpn
        unfold onB at hon
        rw [hset p, if_pos rfl] at hon
        unfold underB at hon
        simp only [Bool.and_eq_true, decide_eq_true_eq] at hon
        have := hon.2.1
        omega
      rw [this, Bool.and_false]
      rfl
    rw [range_not (by rw [List.length_set]; exact hq) hpl, Bool.and_false]
theorem right_spoilt {m : Img} {maps : List (List Shp)} {F : Nat} {S : List Shp} (hF : F < maps.length) (h : rightS m (F : Int) S = false) : rightB m (maps.set F S) = false := by
  unfold rightB
  rw [range_not (n := (maps.set F S).length) (i := F) (by rw [List.length_set]; exact hF) (by rw [List.getElem?_set_self hF]; exact h), Bool.and_false]

theorem out_row {w : World} {g : Nat} {X : List Shx} (h : OutIn w g X) (hl : X.length ≤ 1000000) : SlcIs ShpAt 2 w w.heap.size (some ⟨g, 0, none⟩) X.length (X.map Shx.shp) :=
  ⟨by rw [List.length_map]; exact Nat.le_refl _, by omega, fun i s hi => by
    rw [List.getElem?_map] at hi
    rcases Nat.lt_or_ge i X.length with q | q
    · rw [List.getElem?_eq_getElem q] at hi
      simp at hi
      subst hi
      have ea : (Addr.add ⟨g, 0, none⟩ (i * 2)) = ⟨g, i * 2, none⟩ := by
        unfold Addr.add; split
        · rename_i h0; rw [h0]
        · simp
      refine ⟨_, rfl, h.blk.lt, ?_⟩
      rw [ea]
      exact ⟨h.seen_at q, X[i].A, X[i].c, h.stack_at q, h.row _ (List.getElem_mem q)⟩
    · rw [List.getElem?_eq_none q] at hi; cases hi⟩
def mapsOf (XS : List (Nat × List Shx)) : List (List Shp) := XS.map fun p => p.2.map Shx.shp
theorem all_row {w : World} {B e n c : Nat} {A : Option Addr} {XS : List (Nat × List Shx)} (ho : w.ownsRow B e 1 (.slice A n c) n (allV XS)) (hn : XS.length = n) (h : ∀ p ∈ XS, OutIn w p.1 p.2) (hl : ∀ p ∈ XS, p.2.length ≤ 1000000) :
    SlcIs (SlcAt ShpAt 2) 1 w w.heap.size A c (mapsOf XS) := by
  have hm : (mapsOf XS).length = n := by unfold mapsOf; rw [List.length_map]; exact hn
  rcases ownK_slice ho with ⟨e1, hz⟩ | ⟨g, c', e1, h1, h2⟩
  · injection e1 with e1 e2 e3
    subst e1 e3
    have : mapsOf XS = [] := List.eq_nil_of_length_eq_zero (by omega)
    rw [this]
    exact ⟨Nat.le_refl _, by omega, RowOf.nil⟩
  · injection e1 with e1 e2 e3
    subst e1 e3
    obtain ⟨hb, hc⟩ := ownK_cell ho
    refine ⟨by rw [hm]; exact h1, h2, fun i S hi => ?_⟩
    unfold mapsOf at hi
    rw [List.getElem?_map] at hi
    rcases Nat.lt_or_ge i XS.length with q | q
    · rw [List.getElem?_eq_getElem q] at hi
      simp at hi
      subst hi
      have hv : (allV XS)[i]? = some (.slice (some ⟨XS[i].1, 0, none⟩) XS[i].2.length XS[i].2.length) := by unfold allV; rw [List.getElem?_map, List.getElem?_eq_getElem q]; rfl
      obtain ⟨c0, hg⟩ := hc i _ hv
      have ea : (Addr.add ⟨g, 0, none⟩ (i * 1)) = ⟨g, i, none⟩ := by
        unfold Addr.add; split
        · rename_i h0; simp at h0; rw [h0]
        · simp
      refine ⟨_, rfl, hg, _, _, ?_, out_row (h _ (List.getElem_mem q)) (hl _ (List.getElem_mem q))⟩
      rw [ea, List.length_map]
      exact c0
    · rw [List.getElem?_eq_none q] at hi; cases hi
/-- One shape's operands written. -/
theorem OutIn.stk {w : World} {g q c : Nat} {A : Option Addr} {X : List Shx} {st : List (Int × Int)} (h : OutIn w g X) (hq : q < X.length) (hs : SlcIs TyAt 2 w w.heap.size A c st) :
    OutIn (w.setCell ⟨g, q * 2 + 1, none⟩ (.slice A st.length c)) g (X.set q ⟨X[q].seen, A, c, st⟩) := by
  have hz : (w.setCell ⟨g, q * 2 + 1, none⟩ (.slice A st.length c)).heap.size = w.heap.size := by simp
  have hf : ∀ p : Addr, p.block ≠ g → (w.setCell ⟨g, q * 2 + 1, none⟩ (.slice A st.length c)).cell? p = w.cell? p := fun p hp => World.cell?_setCell_far _ _ _ _ (fun e => hp e.symm)
  refine ⟨?_, fun y hy => ?_⟩
  · rcases shxV_set X q ⟨X[q].seen, A, c, st⟩ with e | e
    · rw [e]
      have h0 : (shxV X).set (q * 2) (.bool X[q].seen) = shxV X := by
        have h1 : (shxV X)[q * 2]? = some (.bool X[q].seen) := flat_get (f := shxC) (k := 2) (fun _ => rfl) X q 0 X[q] (List.getElem?_eq_getElem hq) (by decide)
        obtain ⟨hl, h2⟩ := List.getElem?_eq_some_iff.mp h1
        refine List.ext_getElem? fun i => ?_
        rw [List.getElem?_set]
        by_cases hi : q * 2 = i
        · subst hi
          rw [if_pos rfl, if_pos hl, h1]
        · rw [if_neg hi]
      dsimp only
      rw [h0]
      exact h.blk.set _ _
    · omega
  · rcases List.mem_or_eq_of_mem_set hy with x | x
    · exact ty_other (h.row y x) (by rw [hz]; exact Nat.le_refl _) hf (fun j hj => h.ty_apart (h.row y x) hj)
    · rw [x]; exact ty_other hs (by rw [hz]; exact Nat.le_refl _) hf (fun j hj => h.ty_apart hs hj)
/-- Another block's cell written. -/
theorem OutIn.far {w : World} {g g' : Nat} {X X' : List Shx} {p : Addr} (v : Value) (h' : OutIn w g' X') (h : OutIn w g X) (hp : p.block = g') (hg : ¬ g = g') : OutIn (w.setCell p v) g X := by
  have hz : (w.setCell p v).heap.size = w.heap.size := by simp
  have hf : ∀ q : Addr, q.block ≠ g' → (w.setCell p v).cell? q = w.cell? q := fun q hq => World.cell?_setCell_far _ _ _ _ (fun e => hq (by rw [← e]; exact hp))
  refine ⟨?_, fun x hx => ty_other (h.row x hx) (by rw [hz]; exact Nat.le_refl _) hf (fun j hj => h'.ty_apart (h.row x hx) hj)⟩
  have hb := h.blk
  unfold Whole at hb ⊢
  rw [heap_setCell_other w p g v (fun e => hg (by rw [e]; exact hp))]
  exact hb
/-- The rows, when one of the shapes has been written. -/
theorem all_spoilt {w : World} {i q c : Nat} {A : Option Addr} {XS : List (Nat × List Shx)} {st : List (Int × Int)} (h : ∀ p ∈ XS, OutIn w p.1 p.2) (hd : (XS.map Prod.fst).Nodup) (hi : i < XS.length) (hq : q < XS[i].2.length) (hs : SlcIs TyAt 2 w w.heap.size A c st) :
    ∀ p ∈ XS.set i (XS[i].1, XS[i].2.set q ⟨XS[i].2[q].seen, A, c, st⟩), OutIn (w.setCell ⟨XS[i].1, q * 2 + 1, none⟩ (.slice A st.length c)) p.1 p.2 := fun p hp => by
  have h0 := h _ (List.getElem_mem hi)
  obtain ⟨k, hk, e⟩ := List.getElem_of_mem hp
  rw [List.length_set] at hk
  rw [List.getElem_set] at e
  by_cases hik : i = k
  · rw [if_pos hik] at e
    subst e
    exact h0.stk hq hs
  · rw [if_neg hik] at e
    subst e
    refine OutIn.far _ h0 (h _ (List.getElem_mem hk)) rfl (fun e => hik ?_)
    have hl : (XS.map Prod.fst).length = XS.length := List.length_map _
    have e1 : (XS.map Prod.fst)[i]? = (XS.map Prod.fst)[k]? := by
      rw [List.getElem?_map, List.getElem?_map, List.getElem?_eq_getElem hi, List.getElem?_eq_getElem hk]
      exact congrArg some e.symm
    exact (List.getElem?_inj (by rw [hl]; exact hi) hd).mp e1

/-- What Check answers. -/
def CheckOut (m : Img) (w : World) (e : Ending) (w' : World) : Prop := ∃ (A : Option Addr) (n c : Nat) (f pc er : Int), e = .returned (.tuple #[.slice A n c, .int .i64 f, .int .i64 pc, .int .i64 er]) ∧ Below w.heap.size w w' ∧ (er = 0 ∨ er = 4) ∧ (¬ er = 0 → ∀ a, rightB m a = false) ∧
  (er = 0 → ∃ XS, n = m.methods.length ∧ XS.length = n ∧ w'.ownsRow w.heap.size 42 1 (.slice A n c) n (allV XS) ∧ AllIn w' (.slice A n c) XS ∧ (∀ p ∈ XS, w.heap.size ≤ p.1) ∧ LeastB m (mapsOf XS))
theorem ttypes_is {m : Img} {x : Mth} {f : Nat} {h : Hnd} {w0 w : World} (HI : Hid (ImgIn w0 w0.heap.size h m)) (HX : Hid (Below w0.heap.size w0 w)) (HM : Hid (SaneI m)) (HG : Hid (m.methods[f]? = some x)) :
    Calls Try.prog 16 #[imgV h m, .int .i64 f] w (TypesOut m f w) := ttypes_any m x f h w (HI.out.now HX.out) HM.out HG.out
theorem mapsOf_len (XS : List (Nat × List Shx)) : (mapsOf XS).length = XS.length := List.length_map _
theorem least_all {m : Img} {XS : List (Nat × List Shx)} (hl : XS.length = m.methods.length) (h : ∀ (i : Nat) p, XS[i]? = some p → LeastS m (i : Int) (p.2.map Shx.shp)) : LeastB m (mapsOf XS) :=
  leastB_of (by rw [mapsOf_len]; exact hl) fun f hf => by
    rw [mapsOf_len] at hf
    have := h f _ (List.getElem?_eq_getElem hf)
    unfold mapsOf
    rw [List.getElem?_map, List.getElem?_eq_getElem hf]
    exact this
set_option maxHeartbeats 3200000 in
theorem tcheck_any (m : Img) (h : Hnd) (w : World) (H : ImgIn w w.heap.size h m) (hm : SaneI m) (hml : m.methods.length ≤ 1000) :
    Calls Try.prog 9 #[imgV h m] w (CheckOut m w) := by
  obtain ⟨i0, hi, hz0, hz1, hz2⟩ := info_partsK info_shapes
  have HW := Lib.hid ((Below.refl w.heap.size w).alloc (Nat.le_refl _) (imgO h m))
  have HI := Lib.hid (H.now HW.out)
  have HM := Lib.hid hm
  have HBX := Lib.hid (img_box w h m)
  have HZ : Hid (w.heap.size < (w.alloc (imgO h m)).heap.size) := Lib.hid (by simp)
  clear H hm
  go_enter Try.func9, Try.ntmps9
  go_upto_region 1 with fail
  generalize w.alloc (imgO h m) = w1 at *
  obtain ⟨q0, q1, q2, q3, q4, q5, q6⟩ := HBX.out
  go_wp2_with fail
  clear q0 q1 q2 q3 q4 q5 q6
  go_loopw [2, 13] (fun v i wr => ∃ (k : Nat) (XS : List (Nat × List Shx)), k ≤ m.methods.length ∧ i = .int .i64 k ∧ Hid (XS.length = k) ∧ Hid (wr.ownsRow w1.heap.size 42 1 v k (allV XS)) ∧ Hid (Below w1.heap.size w1 wr) ∧ Hid (AllIn wr v XS) ∧ Hid (∀ p ∈ XS, w1.heap.size ≤ p.1) ∧ Hid (∀ (i : Nat) p, XS[i]? = some p → LeastS m (i : Int) (p.2.map Shx.shp))) (fun _ i _ => m.methods.length - (intOf i).toNat)
  case atStart => exact ⟨0, [], by omega, rfl, Lib.hid rfl, Lib.hid (World.ownsRow_nil _ _ _ _), Lib.hid (Below.refl _ _), Lib.hid ⟨fun _ h => by simp at h, fun _ h => by simp at h, by simp, fun g h => by simp [Value.ownBlock] at h⟩, Lib.hid (fun p h => by simp at h), Lib.hid (fun i p h => by simp at h)⟩
  case round =>
    obtain ⟨k, XS, hk, rfl, HL, HO, HX, HE, HP, HF⟩ := hrel
    obtain ⟨q0, q1, q2, q3, q4, q5, q6⟩ := HBX.out.keep HX.out HZ.out
    have hsz := HX.out.size
    by_cases hlt : k < m.methods.length
    · obtain ⟨x, hx⟩ : ∃ x, m.methods[k]? = some x := ⟨_, List.getElem?_eq_getElem hlt⟩
      have HG := Lib.hid hx
      have HKL := Lib.hid hlt
      clear hx
      go_upto_region 5 with (go_at_call 16; (with_reducible refine (ttypes_is HI HX HM HG).mono ?_); rintro e w4 ⟨As, ns, cs, pc, ok, rfl, hb, hno, hgd⟩; have HO4 := Lib.hid (own_below HO.out hb (own_block_lt HO.out)); have HX4 := Lib.hid (HX.out.trans (hb.mono HX.out.size)); have HE4 := Lib.hid (HE.out.below (own_block_lt HO.out) hb); have HGD := Lib.hid hgd; have HNO := Lib.hid hno; have hsz4 := HX4.out.size; clear hb hgd hno)
      cases ok
      · go_wp2_with fail
        refine bodyPost_ret (v := .tuple #[.slice none 0 0, .int .i64 k, .int .i64 pc, .int .i64 4]) (by simp [results, Try.results9, go_sem]) rfl ?_
        exact ⟨none, 0, 0, k, pc, 4, rfl, HW.out.trans (HX4.out.mono HW.out.size), .inr rfl, fun _ => rightB_none HKL.out (HNO.out (by simp)), fun e => by cases e⟩
      · obtain ⟨g, X, hA, hS, hc, hgb, hout, hfound⟩ := HGD.out (by simp)
        clear HGD HNO
        subst hA hS hc
        have HG0 : Hid (∀ p ∈ XS, p.1 < g) := Lib.hid (fun p hp => Nat.lt_of_lt_of_le (HE.out.outs p hp).blk.lt hgb)
        have HGV : Hid (∀ b, Value.ownBlock u2 = some b → b < g) := Lib.hid (fun b e => Nat.lt_of_lt_of_le (own_block_lt HO.out b e) hgb)
        have HQ := Lib.hid hout
        have HFO := Lib.hid hfound
        have HPg : Hid (w1.heap.size ≤ g) := Lib.hid (Nat.le_trans hsz hgb)
        clear hout hfound hgb
        go_wp2_with (at_builtin; refine append_dry rfl _ _ 29 rfl w1.heap.size 42 i0 24 Try.underlying29 hi hz0 hz1 hz2 _ k (allV XS) rfl (HO4.out.alloc _) (HE4.out.dry.below (own_block_lt HO4.out) ((Below.refl _ _).alloc (Nat.le_refl _) _)) ⟨w4.heap.size, 0, none⟩ _ _ _ _ rfl (cell_one_new w4 _ _ 0 _ rfl) (by unfold maxLen; omega) (by omega) (by simp; omega) _ rfl ?_; intro g9 c9 w6 hown hgrow hor hlt9 hdry; have HX6 := Lib.hid (appK_more (HX4.out.alloc hsz4 _) (HO4.out.alloc _) (by simp; omega) hgrow); have HO6 := Lib.hid hown; have HE6 := Lib.hid ((HE4.out.below (own_block_lt HO4.out) ((Below.refl _ _).alloc (Nat.le_refl _) _)).snoc (HQ.out.keep ((Below.refl _ _).alloc (Nat.le_refl _) _)) HG0.out HGV.out hgrow (hor.imp id (fun e => Nat.le_of_eq e.symm)) hdry); clear hown hgrow hor hdry)
        go_roundw
        case rel =>
          refine ⟨k + 1, XS ++ [(g, X)], by omega, by go_num, Lib.hid (by rw [List.length_append, HL.out]; rfl), Lib.hid (by unfold allV; rw [List.map_append]; exact HO6.out), HX6, HE6, Lib.hid (fun p hp => ?_), Lib.hid (fun i p hi => ?_)⟩
          · rcases List.mem_append.mp hp with q | q
            · exact HP.out p q
            · simp at q; subst q; exact HPg.out
          · rcases Nat.lt_or_ge i XS.length with q | q
            · rw [List.getElem?_append_left q] at hi
              exact HF.out i p hi
            · rw [List.getElem?_append_right q] at hi
              have hiz : i - XS.length = 0 := by
                rcases Nat.eq_zero_or_pos (i - XS.length) with z | z
                · exact z
                · rw [List.getElem?_eq_none (by simp; omega)] at hi; cases hi
              rw [hiz] at hi
              simp at hi
              subst hi
              have hik : i = k := by have := HL.out; omega
              subst hik
              exact HFO.out
        case measure => simp [intOf]; omega
    · have e : k = m.methods.length := by omega
      subst e
      obtain ⟨Ae, ce, he⟩ : ∃ A c, u2 = .slice A m.methods.length c := by
        rcases ownK_slice HO.out with ⟨e1, hz⟩ | ⟨g, c, e1, _, _⟩
        · exact ⟨none, 0, by rw [e1, hz]⟩
        · exact ⟨_, c, e1⟩
      subst he
      go_wp2_with fail
      refine bodyPost_ret (v := .tuple #[.slice Ae m.methods.length ce, .int .i64 0, .int .i64 0, .int .i64 0]) (by simp [results, Try.results9, go_sem]) rfl ?_
      exact ⟨Ae, m.methods.length, ce, 0, 0, 0, rfl, HW.out.trans (HX.out.mono HW.out.size), .inl rfl, fun q => absurd rfl q, fun _ => ⟨XS, rfl, HL.out, own_lower HO.out HW.out.size, HE.out, fun p hp => Nat.le_trans HW.out.size (HP.out p hp), least_all HL.out HF.out⟩⟩

/-- No list of these is longer. -/
def MapsTo (n : Nat) (maps : List (List Shp)) : Prop := ∀ S ∈ maps, S.length ≤ n ∧ ∀ s ∈ S, s.stack.length ≤ n
def FewOut (maps : List (List Shp)) (w : World) (e : Ending) (w' : World) : Prop := ∃ r, e = .returned (.bool r) ∧ (r = true → maps.length ≤ 3000 ∧ MapsTo 3000 maps) ∧ Below w.heap.size w w'
theorem MapsTo.more {n k : Nat} {maps : List (List Shp)} (h : MapsTo n maps) (hk : n ≤ k) : MapsTo k maps := fun S hS => ⟨Nat.le_trans (h S hS).1 hk, fun s hs => Nat.le_trans ((h S hS).2 s hs) hk⟩
end Go.Proofs.Ytgpmdhdooglkfaa
