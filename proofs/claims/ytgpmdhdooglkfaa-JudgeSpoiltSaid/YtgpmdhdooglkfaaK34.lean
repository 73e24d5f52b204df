/-
  What typer.come comes to: operands that come to an instruction.
  What holds while types are looked for. Plain definitions and lemmas; no conditions.
-/
import Derived.Test.YtgpmdhdooglkfaaK23
import Derived.Test.YtgpmdhdooglkfaaK33
import Derived.IntWalk
import Derived.WalkSpells
import Derived.RegionTactic
import Derived.ChangeAlike
import Derived.Deep.RegionHeld3
import Derived.Deep.QuietTactic
import Derived.BigQuiet
import Derived.Outline
namespace Go.Proofs.Ytgpmdhdooglkfaa
set_option maxRecDepth 100000
set_option linter.unusedVariables false
set_option linter.unusedSimpArgs false
open Go.ChangeShapes Go.WideShapes Go.ChangeAt Go.RowKit
set_option linter.unusedVariables false
set_option linter.unusedSimpArgs false

/-- A copy of types, in a block of its own. -/
def CloneOut (L : List (Int × Int)) (w : World) (e : Ending) (w' : World) : Prop := ∃ A' c', e = .returned (.slice A' L.length c') ∧ SlcIs TyAt 2 w' w'.heap.size A' c' L ∧ (L ≠ [] → ∃ gi rest, A' = some ⟨gi, 0, none⟩ ∧ w.heap.size ≤ gi ∧ Whole w' gi (tysV L ++ rest) 39) ∧ Below w.heap.size w w'
theorem slcNow2 {α : Type} {At : AtP α} (hK : Keeps At) {k : Nat} {w w' : World} {A : Option Addr} {c : Nat} {l : List α} (h : SlcIs At k w w.heap.size A c l) (hb : Below w.heap.size w w') : SlcIs At k w' w'.heap.size A c l :=
  (h.below_to hK hb (Nat.le_refl _)).keep' hK hb.size (fun _ _ => rfl)
theorem join_skip {sup : List Int} {L : List (Int × Int)} {k : Nat} {s1 s2 t1 t2 : Int} (h : subB sup t1 t2 s1 s2 = true) (hf : FitsAll sup L L) (hk : k < L.length) (e : L[k] = (s1, s2)) : ¬ (joinZ sup (s1, s2) (t1, t2)).1 = 0 := by
  unfold joinZ
  rw [if_pos h]
  have := hf.2 k hk hk
  rw [e] at this
  have := (sub_kinds this).2
  exact fun q => by dsimp only at *; omega
theorem own_block {w : World} {B n k : Nat} {v : Value} {xs : List Value} {T : TypeId} (h : w.ownsRow B T k v n xs) (hn : 0 < n) : ∃ g c rest, v = .slice (some ⟨g, 0, none⟩) n c ∧ B ≤ g ∧ Whole w g (xs ++ rest) T := by
  rcases h.2 with ⟨_, h2⟩ | ⟨g', cap, cur, h1, hb, hh, _, _, _, hx⟩
  · omega
  · refine ⟨g', cap, cur.toList.drop (n * k), h1, hb, ?_⟩
    unfold Whole
    rw [← hx, List.take_append_drop]
    exact hh
theorem clone_own {L : List (Int × Int)} {w w' : World} {v : Value} (h : w'.ownsRow w.heap.size 39 2 v L.length (tysV L)) (hb : Below w.heap.size w w') : CloneOut L w (.returned v) w' := by
  obtain ⟨A, c, rfl, hs, _⟩ := own_types h
  refine ⟨A, c, rfl, hs, fun hn => ?_, hb⟩
  obtain ⟨g, c', rest, e, h1, h2⟩ := own_block h (by cases L with | nil => exact absurd rfl hn | cons => simp)
  injection e with e1
  exact ⟨g, rest, e1, h1, h2⟩
theorem tclone_any (L : List (Int × Int)) (A : Option Addr) (c : Nat) (w : World) (h : SlcIs TyAt 2 w w.heap.size A c L) (hl : L.length ≤ 1000) :
    Calls Try.prog 62 #[.slice A L.length c] w (CloneOut L w) := by
  cases A with
  | none =>
    have hL : L = [] := by
      cases L with
      | nil => rfl
      | cons a L => obtain ⟨ad, e, _⟩ := h.row 0 a rfl; cases e
    subst hL
    have hq := fun w => Lib.run_eql_slice_nil (P := Try.prog) w 23 39 none 0 c 0 0 Try.underlying23
    show Calls Try.prog 62 #[.slice none 0 c] w (CloneOut [] w)
    go_enter Try.func62, Try.ntmps62
    go_wp2
    go_ret
    exact ⟨none, 0, rfl, slc_none, fun q => absurd rfl q, Below.refl _ _⟩
  | some ad =>
    have hq := fun w => Lib.run_eql_slice_nil (P := Try.prog) w 23 39 (some ad) L.length c 0 0 Try.underlying23
    obtain ⟨ti, hti, ht0, ht1, ht2⟩ := info_partsK info_type
    have HXE : Hid (Below w.heap.size w (w.alloc (.cells #[] 39))) := Lib.hid ((Below.refl _ _).alloc (Nat.le_refl _) _)
    have HT := Lib.hid (tys_lie (h.below_to TyAt.keeps HXE.out (Nat.le_refl _)).row)
    clear h
    go_enter Try.func62, Try.ntmps62
    go_wp2_with (at_builtin; refine append_liesK rfl _ _ 23 rfl w.heap.size 39 ti (.agg #[.int .i64 0, .int .i64 0]) 2 16 Try.underlying23 hti ht0 ht1 ht2 rfl (by decide) _ 0 [] rfl (own_emptyK w 39 2) (some ad) L.length c _ (tysV L) (tysV_len _) rfl HT.out (tysV_one _) (by unfold maxLen; omega) (by omega) (by simp) ?_; intro v6 w6 hown hgrow; have HX6 := Lib.hid (appK_more HXE.out (own_emptyK w 39 2) (by simp) hgrow); have HO6 : Hid (w6.ownsRow w.heap.size 39 2 v6 L.length (tysV L)) := Lib.hid (by simpa using hown); clear hown hgrow)
    go_ret
    exact clone_own HO6.out HX6.out
theorem tclone_is {L : List (Int × Int)} {A : Option Addr} {c : Nat} {w0 w : World} (HS : Hid (SlcIs TyAt 2 w0 w0.heap.size A c L)) (HX : Hid (Below w0.heap.size w0 w)) (hl : L.length ≤ 1000) : Calls Try.prog 62 #[.slice A L.length c] w (CloneOut L w) :=
  tclone_any L A c w ((HS.out.below_to TyAt.keeps HX.out (Nat.le_refl _)).keep' TyAt.keeps HX.out.size (fun _ _ => rfl)) hl
theorem tsub_is {sup : List Int} {A0 : Option Addr} {c0 B : Nat} {x y t0 t1 : Int} {w0 w : World} {r : Bool} (HS : Hid (Supers w0 B A0 sup)) (HX : Hid (Below B w0 w)) (HB : Hid (B ≤ w0.heap.size)) (HL : Hid (sup.length ≤ 1000)) (HR : Hid (subB sup x y t0 t1 = r)) :
    Calls Try.prog 37 #[.slice A0 sup.length c0, .agg #[.int .i64 x, .int .i64 y], .agg #[.int .i64 t0, .int .i64 t1]] w fun e w' => e = .returned (.bool r) ∧ Below w.heap.size w w' := by
  have H := ksub_any sup x y t0 t1 A0 c0 B w (by have := HL.out; omega) (Nat.le_trans HB.out HX.out.size) (HS.out.below_to HX.out (Nat.le_refl _))
  rw [HR.out] at H
  exact H
theorem tjoin_is {sup : List Int} {A0 : Option Addr} {c0 B : Nat} {x y t0 t1 : Int} {w0 w : World} {r : Int × Int} (HS : Hid (Supers w0 B A0 sup)) (HX : Hid (Below B w0 w)) (HB : Hid (B ≤ w0.heap.size)) (HL : Hid (sup.length ≤ 1000)) (HR : Hid (joinR sup x y t0 t1 = r)) :
    Calls Try.prog 63 #[.slice A0 sup.length c0, .agg #[.int .i64 x, .int .i64 y], .agg #[.int .i64 t0, .int .i64 t1]] w fun e w' => e = .returned (.agg #[.int .i64 r.1, .int .i64 r.2]) ∧ Below w.heap.size w w' := by
  have H := kjoin_any sup x y t0 t1 A0 c0 B w (by have := HL.out; omega) (Nat.le_trans HB.out HX.out.size) (HS.out.below_to HX.out (Nat.le_refl _))
  rw [HR.out] at H
  exact H
/-- No old block but two has been touched. -/
def SameBut (g : Nat) (y : Shx) (w w' : World) : Prop := ∀ b, b < w.heap.size → b ≠ g → (y.seen = true → y.stack ≠ [] → ∀ ad, y.A = some ad → ad.block ≠ b) → w'.heap[b]? = w.heap[b]?
theorem SameBut.refl (g : Nat) (y : Shx) (w : World) : SameBut g y w w := fun _ _ _ _ => rfl
theorem SameBut.more {g : Nat} {y : Shx} {w w1 w2 : World} (h : SameBut g y w w1) (hz : w.heap.size ≤ w1.heap.size) (hb : Below w1.heap.size w1 w2) : SameBut g y w w2 := fun b h1 h2 h3 => (hb.block b (by omega)).trans (h b h1 h2 h3)
theorem SameBut.put {g i : Nat} {y x : Shx} {w w1 : World} (h : SameBut g y w w1) : SameBut g y w (putW w1 g i x) := fun b h1 h2 h3 => by
  unfold putW
  rw [Below.heap_setCell _ _ _ b (by exact h2), Below.heap_setCell _ _ _ b (by exact h2)]
  exact h b h1 h2 h3
theorem SameBut.turn {g gi k : Nat} {y : Shx} {t : Int × Int} {w w1 : World} (h : SameBut g y w w1) (hs : y.seen = true) (hn : y.stack ≠ []) (e : y.A = some ⟨gi, 0, none⟩) : SameBut g y w (turnW w1 gi k t) := fun b h1 h2 h3 => by
  rw [turn_other _ _ _ _ _ (fun q => h3 hs hn _ e q.symm)]
  exact h b h1 h2 h3
/-- What come answers. -/
def ComeOut (sup : List Int) (B g tg : Nat) (X : List Shx) (y : Shx) (st : List (Int × Int)) (w : World) (e : Ending) (w' : World) : Prop := ∃ grown ok, e = .returned (.tuple #[.bool grown, .bool ok]) ∧ Below B w w' ∧ SameBut g y w w' ∧
  (ok = false → ComeBad sup y.shp st) ∧ (ok = true → ∃ x' : Shx, x'.seen = true ∧ OwnIn w' B g (X.set tg x') ∧ ComeOk sup y.shp st x'.stack grown ∧ (y.seen = true → x'.A = y.A) ∧ (y.seen = false → x'.stack ≠ [] → ∀ ad, x'.A = some ad → w.heap.size ≤ ad.block))
theorem comeout_bad {sup : List Int} {B g tg : Nat} {X : List Shx} {y : Shx} {st : List (Int × Int)} {w w' : World} (hb : Below B w w') (hs : SameBut g y w w') (h : ComeBad sup y.shp st) : ComeOut sup B g tg X y st w (.returned (.tuple #[.bool false, .bool false])) w' :=
  ⟨false, false, rfl, hb, hs, fun _ => h, (fun e => by cases e)⟩
set_option maxHeartbeats 12800000 in
theorem tcome_any (sup : List Int) (A0 : Option Addr) (c0 B g tg : Nat) (X : List Shx) (y : Shx) (st : List (Int × Int)) (A : Option Addr) (c : Nat) (w : World) (hsl : sup.length ≤ 1000) (hS : Supers w B A0 sup) (hB : B ≤ w.heap.size) (hO : OwnIn w B g X) (hto : tg < X.length) (hy : X[tg] = y) (hXl : X.length ≤ 1000) (hst : SlcIs TyAt 2 w w.heap.size A c st) (hst8 : st.length ≤ 1000)
    (hap : ∀ ad ax, A = some ad → y.A = some ax → y.seen = true → y.stack ≠ [] → st ≠ [] → ad.block ≠ ax.block) (hfs : FitsAll sup y.stack y.stack) (hft : FitsAll sup st st) :
    Calls Try.prog 33 #[.slice A0 sup.length c0, .slice (some ⟨g, 0, none⟩) X.length X.length, .int .i64 tg, .slice A st.length c] w (ComeOut sup B g tg X y st w) := by
  have c0' := hO.out.seen_at hto
  have c1 := hO.out.stack_at hto
  rw [hy] at c0' c1
  have HS := Lib.hid hS
  have HB := Lib.hid hB
  have HL := Lib.hid hsl
  have HO := Lib.hid hO
  have HY := Lib.hid hy
  have HST := Lib.hid hst
  have HF := Lib.hid (And.intro hfs hft)
  have HAP := Lib.hid hap
  have hle := hst.le
  have hcap := hst.cap
  have hysl := hO.out.row y (by rw [← hy]; exact List.getElem_mem hto)
  have hyle := hysl.le
  have hycap := hysl.cap
  have htd0 : decide ((tg : Int) < 0) = false := decide_eq_false (by omega)
  have htd1 : decide (X.length ≤ tg) = false := decide_eq_false (by omega)
  clear hS hO hst hap hfs hft hy hysl hB
  by_cases hseen : y.seen = true
  rotate_left
  · have hseen' : y.seen = false := by simpa using hseen
    have HSE := Lib.hid hseen'
    rw [hseen'] at c0'
    clear hseen
    have fz0 := HO.out.out.blk.free (tg * 2)
    have fz1 := HO.out.out.blk.free (tg * 2 + 1)
    have HX0 : Hid (Below w.heap.size w w) := Lib.hid (Below.refl _ _)
    go_enter Try.func33, Try.ntmps33
    go_wp2_with (go_at_call 62; (with_reducible refine (tclone_is HST HX0 hst8).mono ?_); rintro e w1 ⟨A', c', rfl, hs', hn', hb'⟩; have HC := Lib.hid hs'; have HN := Lib.hid hn'; have HX1 := Lib.hid hb'; have HO1 := Lib.hid (HO.out.keep hb'); clear hs' hn' hb' fz0 fz1; have fz0 := HO1.out.out.blk.free (tg * 2); have fz1 := HO1.out.out.blk.free (tg * 2 + 1); have d0 := HO1.out.out.seen_at hto; have d1 := HO1.out.out.stack_at hto; rw [HY.out] at d0 d1)
    go_ret2
    refine ⟨true, true, rfl, ((HX1.out.mono HB.out).setCell (p := ⟨g, tg * 2, none⟩) HO.out.base _).setCell (p := ⟨g, tg * 2 + 1, none⟩) HO.out.base _, ?_, (fun e => by cases e), fun _ => ⟨⟨true, A', c', st⟩, rfl, ?_, come_fresh HSE.out HF.out.2, fun e => ?_, fun _ hne ad ea => ?_⟩⟩
    · exact ((SameBut.refl g y w).more (Nat.le_refl _) HX1.out).put (i := tg) (x := ⟨true, A', c', st⟩)
    · exact OwnIn.put (x := ⟨true, A', c', st⟩) HO.out HX1.out HB.out hto HC.out HN.out
    · rw [HSE.out] at e; cases e
    · obtain ⟨gi, rest, e1, h1, _⟩ := HN.out hne
      have ea : A' = some ad := ea
      rw [e1] at ea
      injection ea with ea
      subst ea
      exact h1
  have HSE := Lib.hid hseen
  rw [hseen] at c0'
  clear hseen
  by_cases hlen : st.length = y.stack.length
  rotate_left
  · have hne : ((st.length : Int) != (y.stack.length : Int)) = true := bne_iff_ne.mpr (by omega)
    have HNL := Lib.hid hlen
    clear hlen
    go_enter Try.func33, Try.ntmps33
    go_wp2_with fail
    go_ret2
    exact comeout_bad (Below.refl _ _) (SameBut.refl _ _ _) (come_many HSE.out HNL.out)
  have HLN := Lib.hid hlen
  obtain ⟨n, hn⟩ : ∃ n, st.length = n := ⟨_, rfl⟩
  have hyn : y.stack.length = n := by omega
  have HN1 := Lib.hid hn
  have HN2 := Lib.hid hyn
  have hn8 : n ≤ 1000 := by omega
  have hln : ¬ (n : Int) ≠ (n : Int) := fun q => q rfl
  have hnn : ((n : Int) != (n : Int)) = false := bne_self_eq_false _
  rw [hyn] at c1 hyle
  rw [hn] at hle
  clear hyn hlen hst8
  rw [HN1.out]
  go_enter Try.func33, Try.ntmps33
  go_wp2_with fail
  clear c0' c1 hnn
  go_loopw [8, 44] (fun s8 i wr => ∃ (k : Nat) (gr : Bool), k ≤ n ∧ i = .int .i64 k ∧ s8 = .bool gr ∧ Hid (OwnIn wr B g (X.set tg ⟨true, y.A, y.c, comeL sup y.stack st k⟩)) ∧ Hid (Below B w wr) ∧ Hid (SameBut g y w wr) ∧ Hid (SlcIs TyAt 2 wr wr.heap.size A c st) ∧
    Hid (∀ (i : Nat) (h1 : i < y.stack.length) (h2 : i < st.length), i < k → ¬ (joinZ sup y.stack[i] st[i]).1 = 0) ∧ Hid (gr = false → ∀ (i : Nat) (h1 : i < y.stack.length) (h2 : i < st.length), i < k → subB sup st[i].1 st[i].2 y.stack[i].1 y.stack[i].2 = true) ∧ Hid (gr = true → ∃ (i : Nat) (h1 : i < y.stack.length) (h2 : i < st.length), ¬ subB sup st[i].1 st[i].2 y.stack[i].1 y.stack[i].2 = true)) (fun _ i _ => n - (intOf i).toNat)
  case atStart => exact ⟨0, false, Nat.zero_le _, rfl, rfl, Lib.hid (by
    have e : (⟨true, y.A, y.c, comeL sup y.stack st 0⟩ : Shx) = X[tg] := by
      rw [comeL_zero, HY.out]
      have := HSE.out
      cases y
      simp at this
      subst this
      rfl
    rw [e, List.set_getElem_self]
    exact HO.out), Lib.hid (Below.refl _ _), Lib.hid (SameBut.refl _ _ _), HST, Lib.hid (fun i _ _ h => by omega), Lib.hid (fun _ i _ _ h => by omega), Lib.hid (fun e => by cases e)⟩
  case round =>
    clear HST
    obtain ⟨k, gr, hk, rfl, rfl, HOk, HX, HSB, HST, HZN, HG0, HG1⟩ := hrel
    by_cases hkn : k < n
    rotate_left
    · have HKN : Hid (k = n) := Lib.hid (by omega)
      have hki : ¬ (k : Int) < (n : Int) := by omega
      go_wp2_with fail
      go_ret2
      refine ⟨gr, true, rfl, HX.out, HSB.out, (fun e => by cases e), fun _ => ⟨_, rfl, HOk.out, ?_, fun _ => rfl, fun e => ?_⟩⟩
      · have hkk : k = st.length := by have := HKN.out; have := HN1.out; omega
        have := come_all (sup := sup) (s := y.shp) (st := st) (grown := gr) HSE.out HLN.out HF.out.1 HF.out.2 (fun i h1 h2 => HZN.out i h1 h2 (by omega)) (fun e i h1 h2 => HG0.out e i h1 h2 (by omega)) HG1.out
        rw [hkk]
        exact this
      · rw [HSE.out] at e; cases e
    have hk1 : k < y.stack.length := by have := HN2.out; omega
    have hk2 : k < st.length := by have := HN1.out; omega
    have htX : tg < (X.set tg ⟨true, y.A, y.c, comeL sup y.stack st k⟩ : List Shx).length := by rw [List.length_set]; exact hto
    have hyk : (X.set tg ⟨true, y.A, y.c, comeL sup y.stack st k⟩ : List Shx)[tg] = ⟨true, y.A, y.c, comeL sup y.stack st k⟩ := by rw [List.getElem_set, if_pos rfl]
    obtain ⟨gi, rest, eyA, hBgi, hWh⟩ := HOk.out.own tg htX (by rw [hyk]; intro q; have := comeL_len sup y.stack st k; dsimp only at q; rw [q] at this; simp at this; omega)
    rw [hyk] at eyA hWh
    dsimp only at eyA hWh
    have c1 := HOk.out.out.stack_at htX
    rw [hyk] at c1
    dsimp only at c1
    rw [comeL_len, HN2.out, eyA] at c1
    have hke : k < (comeL sup y.stack st k).length := by rw [comeL_len]; exact hk1
    obtain ⟨e0, e1⟩ := st_at hWh hke
    have hck : (comeL sup y.stack st k)[k] = y.stack[k] := by
      have := comeL_at sup hk1 hk2
      rw [List.getElem?_eq_getElem hke] at this
      exact Option.some.inj this
    rw [hck] at e0 e1
    obtain ⟨ad, rfl, hab, v0, v1⟩ := HST.out.row.at_ hk2
    obtain ⟨⟨t1, t2⟩, ht⟩ : ∃ t, st[k] = t := ⟨_, rfl⟩
    obtain ⟨⟨s1, s2⟩, hs⟩ : ∃ t, y.stack[k] = t := ⟨_, rfl⟩
    rw [ht] at v0 v1
    rw [hs] at e0 e1
    dsimp only at v0 v1 e0 e1
    have HEY := Lib.hid eyA
    have HWH := Lib.hid hWh
    have HTK := Lib.hid ht
    have HSK := Lib.hid hs
    have HBG := Lib.hid hBgi
    obtain ⟨r, hr⟩ : ∃ r, subB sup t1 t2 s1 s2 = r := ⟨_, rfl⟩
    have HR := Lib.hid hr
    have HKI := Lib.hid (show wr.heap.size < (wr.alloc (.cells #[.int .i64 t1, .int .i64 t2] 39)).heap.size by simp)
    have HYA : Hid (Below wr.heap.size wr (wr.alloc (.cells #[.int .i64 t1, .int .i64 t2] 39))) := Lib.hid ((Below.refl _ _).alloc (Nat.le_refl _) _)
    have HBX := Lib.hid (Whole.new wr [.int .i64 t1, .int .i64 t2] 39)
    have hgsz := HOk.out.out.blk.lt
    have hgisz := hWh.lt
    clear eyA hWh ht hs hBgi hck hyk hr
    go_upto_region 12 with fail
    change Code.wp _ _ _ _ (wr.alloc (.cells #[.int .i64 t1, .int .i64 t2] 39))
    have HC2 : Hid (∀ W, Below (wr.alloc (.cells #[.int .i64 t1, .int .i64 t2] 39)).heap.size (wr.alloc (.cells #[.int .i64 t1, .int .i64 t2] 39)) W → W.cell? ⟨g, tg * 2 + 1, none⟩ = some (.slice (some ⟨gi, 0, none⟩) n y.c) ∧ W.cell? ⟨wr.heap.size, 0, none⟩ = some (.int .i64 t1) ∧ W.cell? ⟨wr.heap.size, 1, none⟩ = some (.int .i64 t2) ∧ W.cell? ⟨gi, k * 2, none⟩ = some (.int .i64 s1) ∧ W.cell? ⟨gi, k * 2 + 1, none⟩ = some (.int .i64 s2)) := Lib.hid (fun W hW => by
      have hb2 := HYA.out.trans (hW.mono HYA.out.size)
      have hn0 := (HBX.out.keep hW HKI.out).cells 0 _ rfl
      have hn1 := (HBX.out.keep hW HKI.out).cells 1 _ rfl
      exact ⟨(hb2.cell (p := ⟨g, tg * 2 + 1, none⟩) hgsz).trans c1, hn0, hn1, (hb2.cell (p := ⟨gi, k * 2, none⟩) hgisz).trans e0, (hb2.cell (p := ⟨gi, k * 2 + 1, none⟩) hgisz).trans e1⟩)
    have HX1 : Hid (Below B w (wr.alloc (.cells #[.int .i64 t1, .int .i64 t2] 39))) := Lib.hid (HX.out.trans (HYA.out.mono (by have := HX.out.size; have := HB.out; omega)))
    clear c1 e0 e1 v0 v1
    generalize wr.alloc (.cells #[.int .i64 t1, .int .i64 t2] 39) = w1 at *
    have HX1D : Hid (Below B w w1.drew) := Lib.hid HX1.out.drew
    have HY1D : Hid (Below w1.heap.size w1 w1.drew) := Lib.hid (Below.refl _ _).drew
    go_region_held3 (fun w' => w'.cell? ⟨g, tg * 2 + 1, none⟩ = some (.slice (some ⟨gi, 0, none⟩) n y.c) ∧ w'.cell? ⟨wr.heap.size, 0, none⟩ = some (.int .i64 t1) ∧ w'.cell? ⟨wr.heap.size, 1, none⟩ = some (.int .i64 t2) ∧ w'.cell? ⟨gi, k * 2, none⟩ = some (.int .i64 s1) ∧ w'.cell? ⟨gi, k * 2 + 1, none⟩ = some (.int .i64 s2)) (first | exact HC2.out _ HY1D.out | exact HC2.out _ HY2.out) (first | (go_at_call 37; (with_reducible refine (tsub_is HS HX1D HB HL HR).mono ?_); rintro e w2 ⟨rfl, hb⟩; have HY2 := Lib.hid (HY1D.out.trans (hb.mono HY1D.out.size)); clear hb))
    rename_i hHeld
    clear hHeld
    have HX2 : Hid (Below B w w2) := Lib.hid (HX1.out.trans (HY2.out.mono (by have := HX1.out.size; have := HB.out; omega)))
    have HV2 : Hid (Below wr.heap.size wr w2) := Lib.hid (HYA.out.trans (HY2.out.mono HYA.out.size))
    cases r
    rotate_left
    · have HSKIP : Hid (comeL sup y.stack st (k + 1) = comeL sup y.stack st k) := Lib.hid (comeL_skip sup HLN.out.symm hk1 hk2 (by rw [HTK.out, HSK.out]; exact HR.out))
      go_wp2_with fail
      go_roundw
      case rel => exact ⟨k + 1, gr, by omega, by go_num, rfl, Lib.hid (by rw [HSKIP.out]; exact HOk.out.keep HV2.out), HX2, Lib.hid (HSB.out.more HX.out.size HV2.out), Lib.hid (slcNow2 TyAt.keeps HST.out HV2.out), Lib.hid (fun i h1 h2 h => by
          rcases Nat.lt_or_ge i k with q | q
          · exact HZN.out i h1 h2 q
          · obtain rfl : i = k := by omega
            rw [HTK.out, HSK.out]
            exact join_skip HR.out HF.out.1 h1 HSK.out), Lib.hid (fun e i h1 h2 h => by
          rcases Nat.lt_or_ge i k with q | q
          · exact HG0.out e i h1 h2 q
          · obtain rfl : i = k := by omega
            rw [HTK.out, HSK.out]
            exact HR.out), HG1⟩
      case measure => simp [intOf]; omega
    have HD2 := Lib.hid (HC2.out _ HY2.out)
    have HKA : Hid (∀ W, Below w2.heap.size w2 W → (fun w' => w'.cell? ⟨g, tg * 2 + 1, none⟩ = some (.slice (some ⟨gi, 0, none⟩) n y.c) ∧ w'.cell? ⟨wr.heap.size, 0, none⟩ = some (.int .i64 t1) ∧ w'.cell? ⟨wr.heap.size, 1, none⟩ = some (.int .i64 t2)) W) := Lib.hid (fun W hW => by
      obtain ⟨d0, d1, d2, d3, d4⟩ := HC2.out _ (HY2.out.trans (hW.mono HY2.out.size))
      exact ⟨d0, d1, d2⟩)
    have HFR : Hid (∀ W, Below w2.heap.size w2 W → W.cell? ⟨gi, k * 2, none⟩ = some (.int .i64 s1) ∧ W.cell? ⟨gi, k * 2 + 1, none⟩ = some (.int .i64 s2) ∧ W.frozen? ⟨gi, k * 2, none⟩ = false ∧ W.frozen? ⟨gi, k * 2 + 1, none⟩ = false) := Lib.hid (fun W hW => by
      obtain ⟨d0, d1, d2, d3, d4⟩ := HC2.out _ (HY2.out.trans (hW.mono HY2.out.size))
      have hwh := HWH.out.keep (HV2.out.trans (hW.mono HV2.out.size)) HWH.out.lt
      exact ⟨d3, d4, hwh.free _, hwh.free _⟩)
    have hggi : g ≠ gi := fun e => by
      have h1 := HOk.out.out.blk
      have h2 := HWH.out
      rw [← e] at h2
      exact shape_type h1 h2
    have hngi : wr.heap.size ≠ gi := by omega
    have HGG := Lib.hid (And.intro hggi hngi)
    have HKT : Hid (∀ (W : World) (j : Int × Int), Below w2.heap.size w2 W → (fun w' => w'.cell? ⟨g, tg * 2 + 1, none⟩ = some (.slice (some ⟨gi, 0, none⟩) n y.c) ∧ w'.cell? ⟨wr.heap.size, 0, none⟩ = some (.int .i64 t1) ∧ w'.cell? ⟨wr.heap.size, 1, none⟩ = some (.int .i64 t2)) ((W.setCell ⟨gi, k * 2, none⟩ (.int .i64 j.1)).setCell ⟨gi, k * 2 + 1, none⟩ (.int .i64 j.2))) := Lib.hid (fun W j hW => by
      obtain ⟨d0, d1, d2⟩ := HKA.out W hW
      exact ⟨(turn_cell W gi k j ⟨g, tg * 2 + 1, none⟩ HGG.out.1).trans d0, (turn_cell W gi k j ⟨wr.heap.size, 0, none⟩ HGG.out.2).trans d1, (turn_cell W gi k j ⟨wr.heap.size, 1, none⟩ HGG.out.2).trans d2⟩)
    obtain ⟨⟨j1, j2⟩, hj⟩ : ∃ j, joinR sup s1 s2 t1 t2 = j := ⟨_, rfl⟩
    have HJ := Lib.hid hj
    clear hj hggi hngi
    obtain ⟨d0, d1, d2, d3, d4⟩ := HD2.out
    have HX2D : Hid (Below B w w2.drew) := Lib.hid HX2.out.drew
    have HY2D : Hid (Below w2.heap.size w2 w2.drew) := Lib.hid (Below.refl _ _).drew
    go_wp2_with fail
    refine wp_region_noPanic ?_
    refine wp_region_held_drew (S := (fun w' => w'.cell? ⟨g, tg * 2 + 1, none⟩ = some (.slice (some ⟨gi, 0, none⟩) n y.c) ∧ w'.cell? ⟨wr.heap.size, 0, none⟩ = some (.int .i64 t1) ∧ w'.cell? ⟨wr.heap.size, 1, none⟩ = some (.int .i64 t2))) (by kernel_rfl) (HKA.out _ HY2D.out) (fun hHeld => ?_)
    refine wpAnyH_take (i := 0) (oi := _) (v := ?_) rfl (by kernel_rfl) (by kernel_rfl) (by kernel_rfl) (fun _ _ _ h => h) (Or.inl ⟨by rfl, ?_⟩) (by assumption) ?_
    rotate_left
    · (intro w hSw; (try dsimp only at hSw); go_simp <;> with_reducible rfl)
    try simp only [List.getElem_toArray, List.getElem_cons_succ, List.getElem_cons_zero, Act.put, List.setIfInBounds_toArray, List.set_cons_zero, List.set_cons_succ]
    refine wpAnyH_take (i := 1) (oi := _) (v := ?_) rfl (by kernel_rfl) (by kernel_rfl) (by kernel_rfl) (fun _ _ _ h => h) (Or.inl ⟨by rfl, ?_⟩) (by assumption) ?_
    rotate_left
    · (intro w hSw; (try dsimp only at hSw); go_simp <;> with_reducible rfl)
    try simp only [List.getElem_toArray, List.getElem_cons_succ, List.getElem_cons_zero, Act.put, List.setIfInBounds_toArray, List.set_cons_zero, List.set_cons_succ]
    refine wpAnyH_take (i := 2) (oi := _) (v := ?_) rfl (by kernel_rfl) (by kernel_rfl) (by kernel_rfl) (fun _ _ _ h => h) (Or.inl ⟨by rfl, ?_⟩) (by assumption) ?_
    rotate_left
    · (intro w hSw; (try dsimp only at hSw); go_simp <;> with_reducible rfl)
    try simp only [List.getElem_toArray, List.getElem_cons_succ, List.getElem_cons_zero, Act.put, List.setIfInBounds_toArray, List.set_cons_zero, List.set_cons_succ]
    refine wpAnyH_take (i := 3) (oi := _) (v := ?_) rfl (by kernel_rfl) (by kernel_rfl) (by kernel_rfl) (fun _ _ _ h => h) (Or.inl ⟨by rfl, ?_⟩) (by assumption) ?_
    rotate_left
    · (intro w hSw; (try dsimp only at hSw); go_simp <;> with_reducible rfl)
    try simp only [List.getElem_toArray, List.getElem_cons_succ, List.getElem_cons_zero, Act.put, List.setIfInBounds_toArray, List.set_cons_zero, List.set_cons_succ]
    refine wpAnyH_take (i := 4) (oi := _) (v := ?_) rfl (by kernel_rfl) (by kernel_rfl) (by kernel_rfl) (fun _ _ _ h => h) (Or.inl ⟨by rfl, ?_⟩) (by assumption) ?_
    rotate_left
    · (intro w hSw; (try dsimp only at hSw); go_simp <;> with_reducible rfl)
    try simp only [List.getElem_toArray, List.getElem_cons_succ, List.getElem_cons_zero, Act.put, List.setIfInBounds_toArray, List.set_cons_zero, List.set_cons_succ]
    refine wpAnyH_take (i := 5) (oi := _) (v := ?_) rfl (by kernel_rfl) (by kernel_rfl) (by kernel_rfl) (fun _ _ _ h => h) (Or.inl ⟨by rfl, ?_⟩) (by assumption) ?_
    rotate_left
    · (intro w hSw; (try dsimp only at hSw); go_simp <;> with_reducible rfl)
    try simp only [List.getElem_toArray, List.getElem_cons_succ, List.getElem_cons_zero, Act.put, List.setIfInBounds_toArray, List.set_cons_zero, List.set_cons_succ]
    refine wpAnyH_take (i := 6) (oi := _) (v := ?_) rfl (by kernel_rfl) (by kernel_rfl) (by kernel_rfl) (fun _ _ _ h => h) (Or.inl ⟨by rfl, ?_⟩) (by assumption) ?_
    rotate_left
    · (intro w hSw; (try dsimp only at hSw); go_simp <;> with_reducible rfl)
    try simp only [List.getElem_toArray, List.getElem_cons_succ, List.getElem_cons_zero, Act.put, List.setIfInBounds_toArray, List.set_cons_zero, List.set_cons_succ]
    refine wpAnyH_take (i := 7) (oi := _) (v := ?_) rfl (by kernel_rfl) (by kernel_rfl) (by kernel_rfl) (fun _ _ _ h => h) (Or.inl ⟨by rfl, ?_⟩) (by assumption) ?_
    rotate_left
    · (intro w hSw; (try dsimp only at hSw); go_simp <;> with_reducible rfl)
    try simp only [List.getElem_toArray, List.getElem_cons_succ, List.getElem_cons_zero, Act.put, List.setIfInBounds_toArray, List.set_cons_zero, List.set_cons_succ]
    refine wpAnyH_take (i := 8) (oi := _) (v := ?_) rfl (by kernel_rfl) (by kernel_rfl) (by kernel_rfl) (fun _ _ _ h => h) (Or.inl ⟨by rfl, ?_⟩) (by assumption) ?_
    rotate_left
    · (intro w hSw; (try dsimp only at hSw); go_simp <;> with_reducible rfl)
    try simp only [List.getElem_toArray, List.getElem_cons_succ, List.getElem_cons_zero, Act.put, List.setIfInBounds_toArray, List.set_cons_zero, List.set_cons_succ]
    refine wpAnyH_take (i := 9) (oi := _) (v := ?_) rfl (by kernel_rfl) (by kernel_rfl) (by kernel_rfl) (fun _ _ _ h => h) (Or.inl ⟨by rfl, ?_⟩) (by assumption) ?_
    rotate_left
    · (intro w hSw; (try dsimp only at hSw); go_simp <;> with_reducible rfl)
    try simp only [List.getElem_toArray, List.getElem_cons_succ, List.getElem_cons_zero, Act.put, List.setIfInBounds_toArray, List.set_cons_zero, List.set_cons_succ]
    refine wpAnyH_take (i := 10) (oi := _) (v := ?_) rfl (by kernel_rfl) (by kernel_rfl) (by kernel_rfl) (fun _ _ _ h => h) (Or.inl ⟨by rfl, ?_⟩) (by assumption) ?_
    rotate_left
    · (intro w hSw; (try dsimp only at hSw); go_simp <;> with_reducible rfl)
    try simp only [List.getElem_toArray, List.getElem_cons_succ, List.getElem_cons_zero, Act.put, List.setIfInBounds_toArray, List.set_cons_zero, List.set_cons_succ]
    refine wpAnyH_take (i := 11) (oi := _) (v := ?_) rfl (by kernel_rfl) (by kernel_rfl) (by kernel_rfl) (fun _ _ _ h => h) (Or.inl ⟨by rfl, ?_⟩) (by assumption) ?_
    rotate_left
    · (intro w hSw; (try dsimp only at hSw); go_simp <;> with_reducible rfl)
    try simp only [List.getElem_toArray, List.getElem_cons_succ, List.getElem_cons_zero, Act.put, List.setIfInBounds_toArray, List.set_cons_zero, List.set_cons_succ]
    refine wpAnyH_take (i := 13) (oi := _) (v := ?_) rfl (by kernel_rfl) (by kernel_rfl) (by kernel_rfl) (fun _ _ _ h => h) (Or.inl ⟨by rfl, ?_⟩) (by assumption) ?_
    rotate_left
    · (intro w hSw; (try dsimp only at hSw); go_simp <;> with_reducible rfl)
    try simp only [List.getElem_toArray, List.getElem_cons_succ, List.getElem_cons_zero, Act.put, List.setIfInBounds_toArray, List.set_cons_zero, List.set_cons_succ]
    refine wpAnyH_ready (rs := [12]) (by kernel_rfl) (by simp) ?_
    refine AllReadyH.cons (o := _) rfl (fun K hK => ?_) AllReadyH.nil
    go_simp
    refine hK.out _ _ hHeld (fun hHeld => ?_)
    clear hK K
    try simp only [List.getElem_toArray, List.getElem_cons_succ, List.getElem_cons_zero, Act.put, List.setIfInBounds_toArray, List.set_cons_zero, List.set_cons_succ]
    refine wpAnyH_ready (rs := [14]) (by kernel_rfl) (by simp) ?_
    refine AllReadyH.cons (o := _) rfl (fun K hK => ?_) AllReadyH.nil
    go_simp
    (go_at_call 63; (with_reducible refine (tjoin_is HS HX2D HB HL HJ).mono ?_); rintro e w3 ⟨rfl, hb⟩; have HY3 := Lib.hid (HY2D.out.trans (hb.mono HY2D.out.size)); clear hb; obtain ⟨z0, z1, z2, z3⟩ := HFR.out _ HY3.out)
    refine hK.out _ _ (HKA.out _ HY3.out) (fun hHeld => ?_)
    clear hK K
    try simp only [List.getElem_toArray, List.getElem_cons_succ, List.getElem_cons_zero, Act.put, List.setIfInBounds_toArray, List.set_cons_zero, List.set_cons_succ]
    refine wpAnyH_take (i := 15) (oi := _) (v := ?_) rfl (by kernel_rfl) (by kernel_rfl) (by kernel_rfl) (fun _ _ _ h => h) (Or.inl ⟨by rfl, ?_⟩) (by assumption) ?_
    rotate_left
    · (intro w hSw; (try dsimp only at hSw); go_simp <;> with_reducible rfl)
    try simp only [List.getElem_toArray, List.getElem_cons_succ, List.getElem_cons_zero, Act.put, List.setIfInBounds_toArray, List.set_cons_zero, List.set_cons_succ]
    refine wpAnyH_ready (rs := [16]) (by kernel_rfl) (by simp) ?_
    refine AllReadyH.cons (o := _) rfl (fun K hK => ?_) AllReadyH.nil
    go_simp
    refine hK.out _ _ (HKT.out _ (j1, j2) HY3.out) (fun hHeld => ?_)
    clear hK K
    try simp only [List.getElem_toArray, List.getElem_cons_succ, List.getElem_cons_zero, Act.put, List.setIfInBounds_toArray, List.set_cons_zero, List.set_cons_succ]
    refine wpAnyH_done (by kernel_rfl) ?_ _
    refine NoPanic.normal ?_
    clear hHeld
    have HJZ : Hid (joinZ sup (s1, s2) (t1, t2) = (j1, j2)) := Lib.hid (by
      unfold joinZ
      rw [if_neg (show ¬ subB sup (t1, t2).1 (t1, t2).2 (s1, s2).1 (s1, s2).2 = true by rw [show subB sup (t1, t2).1 (t1, t2).2 (s1, s2).1 (s1, s2).2 = false from HR.out]; decide)]
      exact HJ.out)
    have HNE : Hid (y.stack ≠ []) := Lib.hid (fun q => by rw [q] at hk1; simp at hk1)
    have HV3 := Lib.hid (HV2.out.trans (HY3.out.mono HV2.out.size))
    have HO4 : Hid (OwnIn ((w3.setCell ⟨gi, k * 2, none⟩ (.int .i64 j1)).setCell ⟨gi, k * 2 + 1, none⟩ (.int .i64 j2)) B g (X.set tg ⟨true, y.A, y.c, comeL sup y.stack st (k + 1)⟩)) := Lib.hid (by
      have h3 := HOk.out.keep HV3.out
      have h4 := h3.turn (i := tg) (gi := gi) (k := k) (t := (j1, j2)) htX (List.getElem_set_self htX) (by show k < (comeL sup y.stack st k).length; rw [comeL_len]; exact hk1) HEY.out
      rw [List.set_set] at h4
      have e := comeL_next sup HLN.out.symm hk1 hk2
      rw [HTK.out, HSK.out, HJZ.out] at e
      rw [e]
      exact h4)
    have HX4 : Hid (Below B w ((w3.setCell ⟨gi, k * 2, none⟩ (.int .i64 j1)).setCell ⟨gi, k * 2 + 1, none⟩ (.int .i64 j2))) := Lib.hid (((HX.out.trans (HV3.out.mono (Nat.le_trans HB.out HX.out.size))).setCell (p := ⟨gi, k * 2, none⟩) HBG.out _).setCell (p := ⟨gi, k * 2 + 1, none⟩) HBG.out _)
    have HSB4 : Hid (SameBut g y w ((w3.setCell ⟨gi, k * 2, none⟩ (.int .i64 j1)).setCell ⟨gi, k * 2 + 1, none⟩ (.int .i64 j2))) := Lib.hid ((HSB.out.more HX.out.size HV3.out).turn (gi := gi) (k := k) (t := (j1, j2)) HSE.out HNE.out HEY.out)
    have HST4 : Hid (SlcIs TyAt 2 ((w3.setCell ⟨gi, k * 2, none⟩ (.int .i64 j1)).setCell ⟨gi, k * 2 + 1, none⟩ (.int .i64 j2)) ((w3.setCell ⟨gi, k * 2, none⟩ (.int .i64 j1)).setCell ⟨gi, k * 2 + 1, none⟩ (.int .i64 j2)).heap.size (some ad) c st) := Lib.hid (ty_other (g := gi) (slcNow2 TyAt.keeps HST.out HV3.out) (by simp) (turn_cell w3 gi k (j1, j2)) (fun i hi ad' ea => HAP.out ad' _ ea HEY.out HSE.out HNE.out (fun q => by rw [q] at hk2; simp at hk2)))
    have hcell : ((w3.setCell ⟨gi, k * 2, none⟩ (.int .i64 j1)).setCell ⟨gi, k * 2 + 1, none⟩ (.int .i64 j2)).cell? ⟨g, tg * 2 + 1, none⟩ = some (.slice (some ⟨gi, 0, none⟩) n y.c) ∧ ((w3.setCell ⟨gi, k * 2, none⟩ (.int .i64 j1)).setCell ⟨gi, k * 2 + 1, none⟩ (.int .i64 j2)).cell? ⟨gi, k * 2, none⟩ = some (.int .i64 j1) ∧ ((w3.setCell ⟨gi, k * 2, none⟩ (.int .i64 j1)).setCell ⟨gi, k * 2 + 1, none⟩ (.int .i64 j2)).cell? ⟨gi, k * 2 + 1, none⟩ = some (.int .i64 j2) := by
      have h5 : tg < (X.set tg ⟨true, y.A, y.c, comeL sup y.stack st (k + 1)⟩ : List Shx).length := by rw [List.length_set]; exact hto
      have h6 : (X.set tg ⟨true, y.A, y.c, comeL sup y.stack st (k + 1)⟩ : List Shx)[tg] = ⟨true, y.A, y.c, comeL sup y.stack st (k + 1)⟩ := List.getElem_set_self h5
      have h7 : k < (comeL sup y.stack st (k + 1)).length := by rw [comeL_len]; exact hk1
      have h8 : (comeL sup y.stack st (k + 1))[k] = (j1, j2) := by
        have := comeL_get sup y.stack st (k + 1) k hk1 hk2
        rw [if_pos (Nat.lt_succ_self _), List.getElem?_eq_getElem h7, HTK.out, HSK.out, HJZ.out] at this
        exact Option.some.inj this
      obtain ⟨gi', rest', ea, _, hwh⟩ := HO4.out.own tg h5 (by rw [h6]; intro q; rw [show comeL sup y.stack st (k + 1) = [] from q] at h7; simp at h7)
      rw [h6] at ea hwh
      dsimp only at ea hwh
      rw [HEY.out] at ea
      injection ea with ea
      injection ea with ea
      rw [← ea] at hwh
      obtain ⟨a1, a2⟩ := st_at hwh h7
      rw [h8] at a1 a2
      exact ⟨(HKT.out w3 (j1, j2) HY3.out).1, a1, a2⟩
    obtain ⟨x1, x2, x3⟩ := hcell
    clear z0 z1 z2 z3 d0 d1 d2 d3 d4
    generalize ((w3.setCell ⟨gi, k * 2, none⟩ (.int .i64 j1)).setCell ⟨gi, k * 2 + 1, none⟩ (.int .i64 j2)) = w4 at *
    by_cases hz : j1 = 0
    · have hz2 : (j1, j2) = ((0, 0) : Int × Int) := by
        have e := join_zero (sup := sup) (k := s1) (n := s2) (k' := t1) (n' := t2) (by rw [HJ.out]; exact hz)
        rw [HJ.out] at e
        exact e
      obtain ⟨rfl, rfl⟩ : j1 = 0 ∧ j2 = 0 := by simpa using hz2
      clear hz hz2
      go_wp2_with fail
      go_ret2
      exact comeout_bad HX4.out HSB4.out (come_none (sup := sup) (s := y.shp) (i := k) HSE.out hk1 hk2 HF.out.1 HF.out.2 (by
        show (joinZ sup y.stack[k] st[k]).1 = 0
        rw [HTK.out, HSK.out, HJZ.out]))
    have HZ := Lib.hid hz
    go_wp2_with fail
    go_roundw
    case rel => exact ⟨k + 1, true, by omega, by go_num, rfl, HO4, HX4, HSB4, HST4, Lib.hid (fun i h1 h2 h => by
        rcases Nat.lt_or_ge i k with q | q
        · exact HZN.out i h1 h2 q
        · obtain rfl : i = k := by omega
          rw [HTK.out, HSK.out, HJZ.out]
          exact HZ.out), Lib.hid (fun e => by cases e), Lib.hid (fun _ => ⟨k, hk1, hk2, by rw [HTK.out, HSK.out, show subB sup (t1, t2).1 (t1, t2).2 (s1, s2).1 (s1, s2).2 = false from HR.out]; decide⟩)⟩
    case measure => simp [intOf]; omega

/-- No operands of a row lie where a list lies. -/
def FarX (g : Nat) (X : List Shx) (w : World) (A : Option Addr) : Prop := ∀ ad, A = some ad → ad.block < w.heap.size ∧ ad.block ≠ g ∧ ∀ i (hi : i < X.length), X[i].stack ≠ [] → ∀ ax, X[i].A = some ax → ax.block ≠ ad.block
structure TyInv (m : Img) (f B g nC R : Nat) (w1 : World) (X : List Shx) (w : World) : Prop where
  len : X.length = nC
  rank : rankA (supsOf m.classes).length (X.map Shx.shp) ≤ R
  own : OwnIn w B g X
  low : LowT m (f : Int) (X.map Shx.shp)
  below : Below B w1 w
theorem TyInv.keep {m : Img} {f B g nC R : Nat} {w1 w w' : World} {X : List Shx} (h : TyInv m f B g nC R w1 X w) (hB : B ≤ w1.heap.size) (hb : Below w.heap.size w w') : TyInv m f B g nC R w1 X w' :=
  ⟨h.len, h.rank, h.own.keep hb, h.low, h.below.trans (hb.mono (Nat.le_trans hB h.below.size))⟩
theorem TyInv.lower {m : Img} {f B g nC R R' : Nat} {w1 w : World} {X : List Shx} (h : TyInv m f B g nC R w1 X w) (hr : rankA (supsOf m.classes).length (X.map Shx.shp) ≤ R') : TyInv m f B g nC R' w1 X w := ⟨h.len, hr, h.own, h.low, h.below⟩
structure NxInv (m : Img) (f B g nC R p q : Nat) (w1 : World) (st L : List (Int × Int)) (NL : List Int) (A7 A8 : Option Addr) (c7 c8 : Nat) (X : List Shx) (w : World) : Prop where
  inv : TyInv m f B g nC R w1 X w
  here : shpN (X.map Shx.shp) (p : Int) = ⟨true, st⟩
  back : ∀ p' : Nat, p' < p → placeB m (f : Int) (X.map Shx.shp) (p' : Int) = true
  on : ∀ n ∈ NL.take q, (shpN (X.map Shx.shp) n).seen = true ∧ FitsAll (supsOf m.classes) L (shpN (X.map Shx.shp) n).stack
  ty : SlcIs TyAt 2 w w.heap.size A7 c7 L
  nx : SlcIs IntAt 1 w w.heap.size A8 c8 NL
  far7 : L ≠ [] → FarX g X w A7
  far8 : NL ≠ [] → FarX g X w A8
/-- A step of the method that goes well. -/
structure StepWell (m : Img) (f p nC : Nat) (st L : List (Int × Int)) (NL : List Int) : Prop where
  eq : stepOf m (f : Int) (p : Int) st = ⟨L, NL, 0⟩
  few : L.length ≤ 8
  next : ∀ n ∈ NL, 0 ≤ n ∧ n < (nC : Int)
theorem stepWell_of {m : Img} {x : Mth} {f p : Nat} {st L : List (Int × Int)} {NL : List Int} (hm : SaneI m) (hx : m.methods[f]? = some x) (hp : p < x.code.length) (h : stepOf m (f : Int) (p : Int) st = ⟨L, NL, 0⟩) : StepWell m f p x.code.length st L NL := by
  obtain ⟨⟨op, a, bb⟩, hi⟩ : ∃ i, x.code[p]? = some i := ⟨_, List.getElem?_eq_getElem hp⟩
  have hxm := hm.method (List.mem_of_getElem? hx)
  have him := List.mem_of_getElem? hi
  have e1 := stepIn_of (st := st) hx hi
  rw [h] at e1
  have h1 := next_in (m := m) (st := st) (F := 0) (hxm.fits.ct _ him) (hxm.co _ him) (by rw [← e1])
  have h2 := stepIn_next (m := m) (x := x) (pc := (p : Int)) (op := op) (a := a) (b := bb) (st := st) (by rw [← e1])
  rw [← e1] at h1 h2
  exact ⟨h, h2.2, h1⟩
theorem FarX.more {g : Nat} {X : List Shx} {w w' : World} {A : Option Addr} (h : FarX g X w A) (hz : w.heap.size ≤ w'.heap.size) : FarX g X w' A := fun ad e => by
  obtain ⟨h1, h2, h3⟩ := h ad e
  exact ⟨Nat.lt_of_lt_of_le h1 hz, h2, h3⟩
theorem NxInv.keep {m : Img} {f B g nC R p q : Nat} {w1 w w' : World} {st L : List (Int × Int)} {NL : List Int} {A7 A8 : Option Addr} {c7 c8 : Nat} {X : List Shx} (h : NxInv m f B g nC R p q w1 st L NL A7 A8 c7 c8 X w) (hB : B ≤ w1.heap.size) (hb : Below w.heap.size w w') : NxInv m f B g nC R p q w1 st L NL A7 A8 c7 c8 X w' :=
  ⟨h.inv.keep hB hb, h.here, h.back, h.on, slcNow2 TyAt.keeps h.ty hb, slcNow2 IntAt.keeps h.nx hb, fun e => (h.far7 e).more hb.size, fun e => (h.far8 e).more hb.size⟩
/-- At a step's answer. -/
theorem nx_start {m : Img} {f B g nC R p : Nat} {w1 w w' : World} {st L : List (Int × Int)} {NL : List Int} {A7 A8 : Option Addr} {c7 c8 : Nat} {X : List Shx} (h : TyInv m f B g nC R w1 X w) (hB : B ≤ w1.heap.size) (hb : Below w.heap.size w w') (hh : shpN (X.map Shx.shp) (p : Int) = ⟨true, st⟩)
    (hk : ∀ p' : Nat, p' < p → placeB m (f : Int) (X.map Shx.shp) (p' : Int) = true) (h7 : SlcIs TyAt 2 w' w'.heap.size A7 c7 L) (h8 : SlcIs IntAt 1 w' w'.heap.size A8 c8 NL) (n7 : ∀ ad, A7 = some ad → w.heap.size ≤ ad.block) (n8 : ∀ ad, A8 = some ad → w.heap.size ≤ ad.block) :
    NxInv m f B g nC R p 0 w1 st L NL A7 A8 c7 c8 X w' := by
  have hg := h.own.out.blk.lt
  have hX : ∀ i (hi : i < X.length), X[i].stack ≠ [] → ∀ ax, X[i].A = some ax → ax.block < w.heap.size := fun i hi q ax e => by
    obtain ⟨gi, e1, h1⟩ := (h.own.own i hi q).lt
    rw [e1] at e
    injection e with e
    subst e
    exact h1
  refine ⟨h.keep hB hb, hh, hk, fun n hn => by simp at hn, h7, h8, fun q ad e => ?_, fun q ad e => ?_⟩
  · have := n7 ad e
    have hl : 0 < L.length := by
      cases L with
      | nil => exact absurd rfl q
      | cons => simp
    obtain ⟨ad', e', hb', _⟩ := h7.row.at_ hl
    rw [e] at e'
    injection e' with e'
    subst e'
    exact ⟨hb', by omega, fun i hi q2 ax e2 => by have := hX i hi q2 ax e2; omega⟩
  · have := n8 ad e
    have hl : 0 < NL.length := by
      cases NL with
      | nil => exact absurd rfl q
      | cons => simp
    obtain ⟨ad', e', hb', _⟩ := h8.row.at_ hl
    rw [e] at e'
    injection e' with e'
    subst e'
    exact ⟨hb', by omega, fun i hi q2 ax e2 => by have := hX i hi q2 ax e2; omega⟩
/-- What has an error goes nowhere. -/
theorem step_next_none {m : Img} {f pc : Int} {st : List (Int × Int)} (he : ¬ (stepOf m f pc st).err = 0) {n : Int} (hn : n ∈ (stepOf m f pc st).next) : 0 ≤ n := by
  have hb : ∀ k, ¬ n ∈ (badStep k).next := fun k h => by simp [badStep] at h
  unfold stepOf at he hn
  by_cases g : 0 ≤ f ∧ f < m.methods.length ∧ 0 ≤ pc ∧ pc < (mthN m f).code.length
  · rw [if_pos g] at he hn
    cases hi : (mthN m f).code[pc.toNat]? with
    | none =>
      rw [hi] at hn
      exact absurd hn (hb _)
    | some i =>
      rw [hi] at he hn
      obtain ⟨op, a, b⟩ := i
      dsimp only at he hn
      unfold stepIn at he hn
      by_cases h1 : (nextOfOp pc op a).head?.any (fun n => decide (((mthN m f).code.length : Int) ≤ n)) = true
      · rw [if_pos h1] at hn; exact absurd hn (hb _)
      rw [if_neg h1] at he hn
      by_cases h2 : (op = 6 ∧ st = []) ∨ st.length < (takes m (mthN m f) op a b st).length ∨ 8 < st.length - (takes m (mthN m f) op a b st).length + (gives m (mthN m f) op a b st).length
      · rw [if_pos h2] at hn; exact absurd hn (hb _)
      rw [if_neg h2] at he hn
      by_cases h3 : ((st.drop (st.length - (takes m (mthN m f) op a b st).length)).zip (takes m (mthN m f) op a b st)).all (fun p => doesB (supsOf m.classes) op p.1 p.2) = true
      · rw [if_pos h3] at he; exact absurd rfl he
      · rw [if_neg h3] at hn; exact absurd hn (hb _)
  · rw [if_neg g] at hn
    exact absurd hn (hb _)
section
variable {m : Img} {f B g nC R p q tg : Nat} {w1 w w' : World} {st L : List (Int × Int)} {NL : List Int} {A7 A8 : Option Addr} {c7 c8 : Nat} {X : List Shx}
theorem NxInv.seen (h : NxInv m f B g nC R p q w1 st L NL A7 A8 c7 c8 X w) (hs : StepWell m f p nC st L NL) : (shpN (X.map Shx.shp) (p : Int)).seen = true ∧ stepOf m (f : Int) (p : Int) (shpN (X.map Shx.shp) (p : Int)).stack = ⟨L, NL, 0⟩ := by
  rw [h.here]
  exact ⟨rfl, hs.eq⟩
theorem NxInv.fitsL (h : NxInv m f B g nC R p q w1 st L NL A7 A8 c7 c8 X w) (hm : SaneI m) (hs : StepWell m f p nC st L NL) (hp : p < nC) : FitsAll (supsOf m.classes) L L := by
  have hself := h.inv.low.self _ (shpN_mem (S := X.map Shx.shp) (i := p) (by rw [List.length_map, h.inv.len]; exact hp))
  rw [h.here] at hself
  have := (stepOf_fits (f := (f : Int)) (pc := (p : Int)) hm hself (by show (stepOf m (f : Int) (p : Int) st).err = 0; rw [hs.eq])).2.2
  rw [show stepOf m (f : Int) (p : Int) ({ seen := true, stack := st } : Shp).stack = ⟨L, NL, 0⟩ from hs.eq] at this
  exact this
theorem NxInv.bad (h : NxInv m f B g nC R p q w1 st L NL A7 A8 c7 c8 X w) (hm : SaneI m) (hs : StepWell m f p nC st L NL) (hp : p < nC) (htg : tg < X.length) (hn : (tg : Int) ∈ NL) (hc : ComeBad (supsOf m.classes) X[tg].shp L) : ∀ Q, rightS m (f : Int) Q = false := by
  obtain ⟨h1, h2⟩ := h.seen hs
  exact h.inv.low.none_come (pc := p) (q := tg) hm (by rw [List.length_map, h.inv.len]; exact hp) (by rw [List.length_map]; exact htg) h1 (by rw [h2]; exact hn) (by rw [h2, shpN_map htg]; exact hc)
/-- The new row. -/
theorem NxInv.come (h : NxInv m f B g nC R p q w1 st L NL A7 A8 c7 c8 X w) (hB : B ≤ w1.heap.size) (hm : SaneI m) (hs : StepWell m f p nC st L NL) (hp : p < nC) (htg : tg < X.length) (hn : (tg : Int) ∈ NL) {x' : Shx} {gr : Bool} (hx : x'.seen = true) (hb : Below B w w') (ho : OwnIn w' B g (X.set tg x')) (hc : ComeOk (supsOf m.classes) X[tg].shp L x'.stack gr) :
    ∃ S', (X.set tg x').map Shx.shp = S' ∧ S' = (X.map Shx.shp).set tg ⟨true, x'.stack⟩ ∧ (gr = true → rankA (supsOf m.classes).length S' < R) ∧ (gr = false → S' = X.map Shx.shp) ∧ TyInv m f B g nC R w1 (X.set tg x') w' := by
  obtain ⟨h1, h2⟩ := h.seen hs
  have e : (X.set tg x').map Shx.shp = (X.map Shx.shp).set tg ⟨true, x'.stack⟩ := by
    rw [List.map_set]
    unfold Shx.shp
    rw [hx]
  have htm : tg < (X.map Shx.shp).length := by rw [List.length_map]; exact htg
  have hc' : ComeOk (supsOf m.classes) (shpN (X.map Shx.shp) (tg : Int)) L x'.stack gr := by rw [shpN_map htg]; exact hc
  have hrk : gr = true → rankA (supsOf m.classes).length ((X.map Shx.shp).set tg ⟨true, x'.stack⟩) < R := fun g => by
    subst g
    exact Nat.lt_of_lt_of_le (come_less htm hc' hs.few) h.inv.rank
  have hsm : gr = false → (X.map Shx.shp).set tg ⟨true, x'.stack⟩ = X.map Shx.shp := fun g => by
    subst g
    exact come_same htm hc'
  refine ⟨_, e, rfl, hrk, hsm, by rw [List.length_set]; exact h.inv.len, ?_, ho, ?_, h.inv.below.trans hb⟩
  · rw [e]
    cases gr
    · rw [hsm rfl]; exact h.inv.rank
    · exact Nat.le_of_lt (hrk rfl)
  · rw [e]
    have := h.inv.low.put (pc := p) (q := tg) (J := x'.stack) (gr := gr) hm (by rw [List.length_map, h.inv.len]; exact hp) htm h1 (by rw [h2]; exact hn) (by rw [h2]; exact hc') (by rw [h2]; exact hs.few)
    exact this
theorem NxInv.far {A : Option Addr} (h : FarX g X w A) (hz : w.heap.size ≤ w'.heap.size) (htg : tg < X.length) {x' : Shx} {gr : Bool} (hc : ComeOk (supsOf m.classes) X[tg].shp L x'.stack gr) (h1 : X[tg].seen = true → x'.A = X[tg].A) (h2 : X[tg].seen = false → x'.stack ≠ [] → ∀ ad, x'.A = some ad → w.heap.size ≤ ad.block) : FarX g (X.set tg x') w' A := fun ad e => by
  obtain ⟨a1, a2, a3⟩ := h ad e
  refine ⟨Nat.lt_of_lt_of_le a1 hz, a2, fun i hi q ax ea => ?_⟩
  rw [set_at htg hi] at q ea
  by_cases ei : tg = i
  · rw [if_pos ei] at q ea
    cases hse : X[tg].seen
    · have := h2 hse q ax ea
      omega
    · rw [h1 hse] at ea
      have hne : X[tg].stack ≠ [] := fun z => by
        have := (hc.old hse).1
        have z' : X[tg].shp.stack = [] := z
        rw [z'] at this
        exact q (List.eq_nil_of_length_eq_zero this.symm)
      exact a3 tg htg hne ax ea
  · rw [if_neg ei] at q ea
    exact a3 i _ q ax ea
theorem NxInv.block {A : Option Addr} (h : FarX g X w A) (htg : tg < X.length) (hsb : SameBut g X[tg] w w') : ∀ ad, A = some ad → w'.heap[ad.block]? = w.heap[ad.block]? := fun ad e => by
  obtain ⟨a1, a2, a3⟩ := h ad e
  exact hsb _ a1 a2 (fun _ q ax ea => a3 tg htg q ax ea)
theorem NxInv.step (h : NxInv m f B g nC R p q w1 st L NL A7 A8 c7 c8 X w) (hB : B ≤ w1.heap.size) (hm : SaneI m) (hs : StepWell m f p nC st L NL) (hp : p < nC) (hq : q < NL.length) (htn : NL[q] = (tg : Int)) (htg : tg < X.length) {x' : Shx} {gr : Bool} (hx : x'.seen = true) (hb : Below B w w') (hsb : SameBut g X[tg] w w')
    (ho : OwnIn w' B g (X.set tg x')) (hc : ComeOk (supsOf m.classes) X[tg].shp L x'.stack gr) (h1 : X[tg].seen = true → x'.A = X[tg].A) (h2 : X[tg].seen = false → x'.stack ≠ [] → ∀ ad, x'.A = some ad → w.heap.size ≤ ad.block) (hgr : gr = true → p < tg) :
    NxInv m f B g nC R p (q + 1) w1 st L NL A7 A8 c7 c8 (X.set tg x') w' := by
  have hn : (tg : Int) ∈ NL := by rw [← htn]; exact List.getElem_mem hq
  obtain ⟨S', e1, e2, _, e4, hinv⟩ := h.come hB hm hs hp htg hn hx hb ho hc
  have htm : tg < (X.map Shx.shp).length := by rw [List.length_map]; exact htg
  have hc' : ComeOk (supsOf m.classes) (shpN (X.map Shx.shp) (tg : Int)) L x'.stack gr := by rw [shpN_map htg]; exact hc
  have hset : ∀ i : Nat, shpN ((X.map Shx.shp).set tg ⟨true, x'.stack⟩) (i : Int) = if i = tg then ⟨true, x'.stack⟩ else shpN (X.map Shx.shp) (i : Int) := fun i => shpN_set htm
  have hpm : p < (X.map Shx.shp).length := by rw [List.length_map, h.inv.len]; exact hp
  have hup : ∀ n ∈ NL, (shpN (X.map Shx.shp) n).seen = true → FitsAll (supsOf m.classes) L (shpN (X.map Shx.shp) n).stack → (shpN ((X.map Shx.shp).set tg ⟨true, x'.stack⟩) n).seen = true ∧ FitsAll (supsOf m.classes) L (shpN ((X.map Shx.shp).set tg ⟨true, x'.stack⟩) n).stack := fun n hnm g1 g2 => by
    obtain ⟨k, rfl⟩ := Int.eq_ofNat_of_zero_le (hs.next n hnm).1
    rw [hset]
    by_cases ek : k = tg
    · rw [if_pos ek]; exact ⟨rfl, hc.up⟩
    · rw [if_neg ek]; exact ⟨g1, g2⟩
  refine ⟨hinv, ?_, fun p' hp' => ?_, fun n hnm => ?_, ?_, ?_, fun z => NxInv.far (h.far7 z) hb.size htg hc h1 h2, fun z => NxInv.far (h.far8 z) hb.size htg hc h1 h2⟩
  · rw [e1]
    cases gr
    · rw [e4 rfl]; exact h.here
    · have := hgr rfl
      rw [e2, hset, if_neg (by omega)]
      exact h.here
  · rw [e1]
    cases gr
    · rw [e4 rfl]; exact h.back p' hp'
    · have := hgr rfl
      rw [e2]
      exact place_put htm (by omega) (h.back p' hp') (fun n hnn => by
        have hpl := h.inv.low.len
        by_cases he : (stepOf m (f : Int) (p' : Int) (shpN (X.map Shx.shp) (p' : Int)).stack).err = 0
        · have hF : p' < (mthN m (f : Int)).code.length := by rw [← hpl]; omega
          by_cases hfm : f < m.methods.length
          · have hx' : m.methods[f]? = some m.methods[f] := List.getElem?_eq_getElem hfm
            have e5 : mthN m (f : Int) = m.methods[f] := by unfold mthN; rw [Int.toNat_natCast, hx']; rfl
            rw [e5] at hF
            obtain ⟨LL, NN, er, e6⟩ : ∃ LL NN er, stepOf m (f : Int) (p' : Int) (shpN (X.map Shx.shp) (p' : Int)).stack = ⟨LL, NN, er⟩ := ⟨_, _, _, rfl⟩
            rw [e6] at he hnn
            dsimp only at he hnn
            subst he
            exact ((stepWell_of hm hx' hF e6).next n hnn).1
          · unfold stepOf at hnn
            rw [if_neg (by omega)] at hnn
            simp [badStep] at hnn
        · have hbk := h.back p' hp'
          by_cases hse : (shpN (X.map Shx.shp) (p' : Int)).seen = true
          · exact absurd ((place_iff.mp hbk) hse).1 he
          · exact step_next_none he hnn) hc'
  · rw [List.take_succ_eq_append_getElem hq] at hnm
    have hmem : n ∈ NL := by
      rcases List.mem_append.mp hnm with z | z
      · exact List.mem_of_mem_take z
      · rw [List.mem_singleton.mp z]; exact List.getElem_mem hq
    rw [e1, e2]
    rcases List.mem_append.mp hnm with z | z
    · obtain ⟨g1, g2⟩ := h.on n z
      exact hup n hmem g1 g2
    · rw [List.mem_singleton.mp z, htn, hset, if_pos rfl]
      exact ⟨rfl, hc.up⟩
  · by_cases z : L = []
    · subst z
      have := h.ty
      exact ⟨this.le, this.cap, fun i t hi => by simp at hi⟩
    · exact ty_heap h.ty hb.size (NxInv.block (h.far7 z) htg hsb)
  · by_cases z : NL = []
    · subst z
      have := h.nx
      exact ⟨this.le, this.cap, fun i t hi => by simp at hi⟩
    · exact int_heap h.nx hb.size (NxInv.block (h.far8 z) htg hsb)
theorem NxInv.place (h : NxInv m f B g nC R p NL.length w1 st L NL A7 A8 c7 c8 X w) (hs : StepWell m f p nC st L NL) : ∀ p' : Nat, p' < p + 1 → placeB m (f : Int) (X.map Shx.shp) (p' : Int) = true := fun p' hp' => by
  rcases Nat.lt_or_ge p' p with z | z
  · exact h.back p' z
  · obtain rfl : p' = p := by omega
    obtain ⟨_, h2⟩ := h.seen hs
    rw [place_iff, h2]
    intro _
    have := h.on
    rw [List.take_length] at this
    exact ⟨rfl, this⟩
end
end Go.Proofs.Ytgpmdhdooglkfaa
