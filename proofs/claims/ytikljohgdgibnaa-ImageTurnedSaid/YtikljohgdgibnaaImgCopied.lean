/-
  What the program's own lists that are copied come to.
-/
import Derived.Test.YtikljohgdgibnaaCopyRow
import Derived.Test.YtikljohgdgibnaaImgGets
import Derived.Test.YtikljohgdgibnaaImgOpenZ
namespace Go.Proofs.Ytikljohgdgibnaa
set_option maxRecDepth 100000
open Go.ChangeShapes Go.WideShapes Go.ChangeAt Go.RowKit
set_option linter.unusedVariables false

/-- The cells of a row, one element behind the other. -/
theorem row_cells {α : Type} {At : AtP α} {Sh : List Value → α → Prop} {k : Nat} {w : World} {B : Nat} {A : Option Addr} {l : List α} (hk : 0 < k)
    (hS : ∀ (p : Addr) (x : α), At w B p x → ∃ vs, Sh vs x ∧ vs.length = k ∧ (∀ u ∈ vs, u.oneCell' = true) ∧ ∀ (j : Nat) (u : Value), vs[j]? = some u → w.cell? (p.add j) = some u) (h : RowOf At k w B A l) :
    ∃ vss : List (List Value), vss.length = l.length ∧ (∀ vs ∈ vss, vs.length = k) ∧ (∀ u ∈ vss.flatten, u.oneCell' = true) ∧ Lies w B A vss.flatten ∧ ∀ (i : Nat) (vs : List Value) (x : α), vss[i]? = some vs → l[i]? = some x → Sh vs x := by
  obtain ⟨vss, h1, h2⟩ := gather (R := fun i (vs : List Value) => (∀ x, l[i]? = some x → Sh vs x) ∧ vs.length = k ∧ (∀ u ∈ vs, u.oneCell' = true) ∧ ∀ (j : Nat) (u : Value), vs[j]? = some u → ∃ ad, A = some ad ∧ ad.block < B ∧ w.cell? ((ad.add (i * k)).add j) = some u) l.length fun i hi => by
    obtain ⟨ad, e, hb, ha⟩ := h i l[i] (List.getElem?_eq_getElem hi)
    obtain ⟨vs, s1, s2, s3, s4⟩ := hS _ _ ha
    exact ⟨vs, fun x hx => by rw [List.getElem?_eq_getElem hi] at hx; injection hx with hx; subst hx; exact s1, s2, s3, fun j u hu => ⟨ad, e, hb, s4 j u hu⟩⟩
  have hk' : ∀ vs ∈ vss, vs.length = k := fun vs hv => by
    obtain ⟨i, hi⟩ := List.getElem?_of_mem hv
    exact (h2 i vs hi).2.1
  refine ⟨vss, h1, hk', fun u hu => ?_, fun j u hu => ?_, fun i vs x hi hx => (h2 i vs hi).1 x hx⟩
  · obtain ⟨vs, hv, hu⟩ := List.mem_flatten.mp hu
    obtain ⟨i, hi⟩ := List.getElem?_of_mem hv
    exact (h2 i vs hi).2.2.1 u hu
  · have hj : j < vss.length * k := by
      rw [← flatten_len vss hk']
      rcases Nat.lt_or_ge j vss.flatten.length with g | g
      · exact g
      · rw [List.getElem?_eq_none g] at hu; cases hu
    have hq : j / k < vss.length := Nat.div_lt_of_lt_mul (by rw [Nat.mul_comm]; exact hj)
    have hr : j % k < k := Nat.mod_lt _ hk
    have e : j = j / k * k + j % k := by rw [Nat.mul_comm]; exact (Nat.div_add_mod j k).symm
    have hi : vss[j / k]? = some vss[j / k] := List.getElem?_eq_getElem hq
    rw [e, flatten_get vss (j / k) (j % k) _ hk' hi hr] at hu
    obtain ⟨ad, ea, hb, hc⟩ := (h2 _ _ hi).2.2.2 _ u hu
    rw [addr_add_add, ← e] at hc
    exact ⟨ad, ea, hb, hc⟩
/-- A list that was copied, in memory of the call's own, which may be written. -/
def CpOut {α : Type} (At : AtP α) (k : Nat) (l : List α) (w : World) (e : Ending) (w' : World) : Prop :=
  ∃ A c, e = .returned (.slice A l.length c) ∧ SlcIs At k (Hole (old w) w') w'.heap.size A c l ∧ (∀ ad, A = some ad → w.heap.size ≤ ad.block ∧ ∀ j, w'.frozen? (ad.add j) = false) ∧ Below w.heap.size w w'
/-- The same, of which the elements' own lists are not copied yet. -/
def CpSh {α : Type} (El : ElP α) (Sh : List Value → α → Prop) (T : TypeId) (k : Nat) (l : List α) (w : World) (e : Ending) (w' : World) : Prop :=
  ∃ A c, e = .returned (.slice A l.length c) ∧ CStep El Sh T k w.heap.size (.slice A l.length c) l 0 w' ∧ Below w.heap.size w w'
def ShCls (w : World) (B : Nat) : List Value → Cls → Prop := fun vs c => ∃ A1 k1 A2 k2, vs = [.int .i64 c.sup, .slice A1 c.fields.length k1, .slice A2 c.slots.length k2] ∧ SlcIs TyAt 2 w B A1 k1 c.fields ∧ SlcIs IntAt 1 w B A2 k2 c.slots ∧ -9223372036854775808 ≤ c.sup ∧ c.sup ≤ 9223372036854775807
def ShMth (w : World) (B : Nat) : List Value → Mth → Prop := fun vs x => ∃ A0 k0 A1 k1 A4 k4 A7 k7, vs = [.slice A0 x.args.length k0, .slice A1 x.locals.length k1, .int .i64 x.ret.1, .int .i64 x.ret.2, .slice A4 x.code.length k4, .int .i64 x.depth, .int .i64 x.pot, .slice A7 x.phi.length k7] ∧
  SlcIs TyAt 2 w B A0 k0 x.args ∧ SlcIs TyAt 2 w B A1 k1 x.locals ∧ SlcIs CodeAt 3 w B A4 k4 x.code ∧ SlcIs IntAt 1 w B A7 k7 x.phi
/-- A method whose instructions may be written. -/
def ElMthO : ElP Mth := fun W vs x => ∃ A0 k0 A1 k1 A4 k4 A7 k7, vs = [.slice A0 x.args.length k0, .slice A1 x.locals.length k1, .int .i64 x.ret.1, .int .i64 x.ret.2, .slice A4 x.code.length k4, .int .i64 x.depth, .int .i64 x.pot, .slice A7 x.phi.length k7] ∧
  SlcIs TyAt 2 W W.heap.size A0 k0 x.args ∧ SlcIs TyAt 2 W W.heap.size A1 k1 x.locals ∧ SlcIs CodeAt 3 W W.heap.size A4 k4 x.code ∧ SlcIs IntAt 1 W W.heap.size A7 k7 x.phi ∧ ∀ (k : Nat) (ad : Addr), k < x.code.length → A4 = some ad → W.frozen? (ad.add (k * 3)) = false
theorem ElMthO.mono : EMono ElMthO := fun _ _ _ _ ⟨A0, k0, A1, k1, A4, k4, A7, k7, e, h0, h1, h4, h7, h8⟩ hs hc => ⟨A0, k0, A1, k1, A4, k4, A7, k7, e, h0.mono TyAt.mono hs (fun q v h1 h2 => (hc q v h1 h2).1), h1.mono TyAt.mono hs (fun q v h1 h2 => (hc q v h1 h2).1), h4.mono CodeAt.mono hs (fun q v h1 h2 => (hc q v h1 h2).1), h7.mono IntAt.mono hs (fun q v h1 h2 => (hc q v h1 h2).1),
  fun k ad hk e => by
    obtain ⟨ad', e', hb, hcell⟩ := h4.row.at_ hk
    rw [e] at e'
    injection e' with e'
    subst e'
    rw [(hc _ _ (by rw [addr_add_block]; exact hb) hcell.1).2]
    exact h8 k ad hk e⟩
theorem ElMthO.plain {W : World} {vs : List Value} {x : Mth} (h : ElMthO W vs x) : ElMth W vs x := by
  obtain ⟨A0, k0, A1, k1, A4, k4, A7, k7, e, h0, h1, h4, h7, h8⟩ := h
  exact ⟨A0, k0, A1, k1, A4, k4, A7, k7, e, h0, h1, h4, h7⟩
theorem ElMthO.at_ : ElAt ElMthO MthAt 8 := fun W vs x p h hc => ElMth.at_ h.plain hc
theorem cls_cells {w : World} {B : Nat} : ∀ (p : Addr) (x : Cls), ClsAt w B p x → ∃ vs, ShCls w B vs x ∧ vs.length = 3 ∧ (∀ u ∈ vs, u.oneCell' = true) ∧ ∀ (j : Nat) (u : Value), vs[j]? = some u → w.cell? (p.add j) = some u := fun p x h => by
  obtain ⟨s0, ⟨A1, k1, s1, h1⟩, ⟨A2, k2, s2, h2⟩, hr⟩ := h
  refine ⟨_, ⟨A1, k1, A2, k2, rfl, h1, h2, hr⟩, rfl, fun u hu => ?_, fun j u hu => ?_⟩
  · simp at hu; rcases hu with rfl | rfl | rfl <;> rfl
  · match j, hu with
    | 0, hu => simp at hu; subst hu; rw [add_zero']; exact s0
    | 1, hu => simp at hu; subst hu; rw [add_off' _ (by decide)]; exact s1
    | 2, hu => simp at hu; subst hu; rw [add_off' _ (by decide)]; exact s2
    | j + 3, hu => simp at hu
theorem mth_cells {w : World} {B : Nat} : ∀ (p : Addr) (x : Mth), MthAt w B p x → ∃ vs, ShMth w B vs x ∧ vs.length = 8 ∧ (∀ u ∈ vs, u.oneCell' = true) ∧ ∀ (j : Nat) (u : Value), vs[j]? = some u → w.cell? (p.add j) = some u := fun p x h => by
  obtain ⟨⟨A0, k0, s0, h0⟩, ⟨A1, k1, s1, h1⟩, s2, s3, ⟨A4, k4, s4, h4⟩, s5, s6, ⟨A7, k7, s7, h7⟩⟩ := h
  refine ⟨_, ⟨A0, k0, A1, k1, A4, k4, A7, k7, rfl, h0, h1, h4, h7⟩, rfl, fun u hu => ?_, fun j u hu => ?_⟩
  · simp at hu; rcases hu with rfl | rfl | rfl | rfl | rfl | rfl | rfl | rfl <;> rfl
  · match j, hu with
    | 0, hu => simp at hu; subst hu; rw [add_zero']; exact s0
    | 1, hu => simp at hu; subst hu; rw [add_off' _ (by decide)]; exact s1
    | 2, hu => simp at hu; subst hu; rw [add_off' _ (by decide)]; exact s2
    | 3, hu => simp at hu; subst hu; rw [add_off' _ (by decide)]; exact s3
    | 4, hu => simp at hu; subst hu; rw [add_off' _ (by decide)]; exact s4
    | 5, hu => simp at hu; subst hu; rw [add_off' _ (by decide)]; exact s5
    | 6, hu => simp at hu; subst hu; rw [add_off' _ (by decide)]; exact s6
    | 7, hu => simp at hu; subst hu; rw [add_off' _ (by decide)]; exact s7
    | j + 8, hu => simp at hu
theorem ty_cells {w : World} {B : Nat} : ∀ (p : Addr) (x : Int × Int), TyAt w B p x → ∃ vs, ElTy w vs x ∧ vs.length = 2 ∧ (∀ u ∈ vs, u.oneCell' = true) ∧ ∀ (j : Nat) (u : Value), vs[j]? = some u → w.cell? (p.add j) = some u := fun p x h => by
  refine ⟨_, rfl, rfl, fun u hu => ?_, fun j u hu => ?_⟩
  · simp at hu; rcases hu with rfl | rfl <;> rfl
  · match j, hu with
    | 0, hu => simp at hu; subst hu; rw [add_zero']; exact h.1
    | 1, hu => simp at hu; subst hu; rw [add_off' _ (by decide)]; exact h.2
    | j + 2, hu => simp at hu
theorem code_cells {w : World} {B : Nat} : ∀ (p : Addr) (x : Int × Int × Int), CodeAt w B p x → ∃ vs, ElCode w vs x ∧ vs.length = 3 ∧ (∀ u ∈ vs, u.oneCell' = true) ∧ ∀ (j : Nat) (u : Value), vs[j]? = some u → w.cell? (p.add j) = some u := fun p x h => by
  refine ⟨_, rfl, rfl, fun u hu => ?_, fun j u hu => ?_⟩
  · simp at hu; rcases hu with rfl | rfl | rfl <;> rfl
  · match j, hu with
    | 0, hu => simp at hu; subst hu; rw [add_zero']; exact h.1
    | 1, hu => simp at hu; subst hu; rw [add_off' _ (by decide)]; exact h.2.1
    | 2, hu => simp at hu; subst hu; rw [add_off' _ (by decide)]; exact h.2.2
    | j + 3, hu => simp at hu
theorem int_cells {w : World} {B : Nat} : ∀ (p : Addr) (x : Int), IntAt w B p x → ∃ vs, ElInt w vs x ∧ vs.length = 1 ∧ (∀ u ∈ vs, u.oneCell' = true) ∧ ∀ (j : Nat) (u : Value), vs[j]? = some u → w.cell? (p.add j) = some u := fun p x h => by
  refine ⟨_, rfl, rfl, fun u hu => ?_, fun j u hu => ?_⟩
  · simp at hu; subst hu; rfl
  · match j, hu with
    | 0, hu => simp at hu; subst hu; rw [add_zero']; exact h
    | j + 1, hu => simp at hu
theorem long_cells {w : World} {B : Nat} : ∀ (p : Addr) (x : Int), LongAt w B p x → ∃ vs, ElLong w vs x ∧ vs.length = 1 ∧ (∀ u ∈ vs, u.oneCell' = true) ∧ ∀ (j : Nat) (u : Value), vs[j]? = some u → w.cell? (p.add j) = some u := fun p x h => by
  refine ⟨_, ⟨rfl, h.2⟩, rfl, fun u hu => ?_, fun j u hu => ?_⟩
  · simp at hu; subst hu; rfl
  · match j, hu with
    | 0, hu => simp at hu; subst hu; rw [add_zero']; exact h.1
    | j + 1, hu => simp at hu
theorem RowEl.free {α : Type} {El : ElP α} {w : World} {base e k : Nat} {A : Option Addr} {n c : Nat} {l : List α} (h : RowEl El w base e k (.slice A n c) l) : ∀ ad, A = some ad → base ≤ ad.block ∧ ∀ j, w.frozen? (ad.add j) = false := fun ad ea => by
  obtain ⟨vss, h1, h2, h3, h4⟩ := h
  rcases ownK_slice h3 with ⟨hv, _⟩ | ⟨g, c', hv, _, _⟩
  · injection hv with hv; rw [ea] at hv; cases hv
  · injection hv with e1 e2 e3
    rw [ea] at e1
    injection e1 with e1
    subst ea e1 e2 e3
    refine ⟨(own_freeK h3 0).2.1, fun j => ?_⟩
    have e : (Addr.add ⟨g, 0, none⟩ j) = ⟨g, j, none⟩ := by
      unfold Addr.add; split
      · rename_i h0; rw [h0]
      · simp
    rw [e]
    exact (own_freeK h3 j).1

theorem cpTypes_raw (vss : List (List Value)) (n : Nat) (A : Option Addr) (cap B : Nat) (w : World) (hn : vss.length = n) (hk : ∀ vs ∈ vss, vs.length = 2) (h1 : ∀ u ∈ vss.flatten, u.oneCell' = true) (hL : Lies w B A vss.flatten) (hc : n ≤ cap) (hcm : cap ≤ 9223372036854775807) (hz : n * 16 ≤ 140737488351232) :
    Calls Try.prog 46 #[.slice A n cap] w fun e w' => ∃ v, e = .returned v ∧ w'.ownsRow w.heap.size 42 2 v n vss.flatten ∧ Below w.heap.size w w' := by
  obtain ⟨i0, z0, hi, hz0, hz1, hz2, hz3⟩ := info_some (P := Try.prog) (t := 42) (k := 2) (b := 16) (by kernel_rfl)
  have HL := Lib.hid hL
  have H1 := Lib.hid h1
  have HN : Hid (vss.flatten.length = n * 2) := Lib.hid (by rw [flatten_len vss hk, hn])
  clear hL h1 hk hn
  go_enter Try.func46, Try.ntmps46
  go_wp2_with (at_builtin; refine append_liesK rfl _ _ 23 rfl w.heap.size 42 i0 z0 2 16 Try.underlying23 hi hz0 hz2 hz3 hz1 (by decide) _ 0 [] rfl (World.ownsRow_nil _ _ _ _) A n cap B vss.flatten HN.out rfl HL.out H1.out (by unfold maxLen; omega) (by omega) (Nat.le_refl _) ?_; intro v6 w6 hown hgrow; have HO6 : Hid (w6.ownsRow w.heap.size 42 2 v6 n vss.flatten) := Lib.hid (by simpa using hown); have HB6 := Lib.hid ((Below.refl w.heap.size w).grown hgrow (Nat.le_refl _) (fun k hk => by cases hk)); clear hown hgrow)
  go_ret
  exact ⟨v6, rfl, HO6.out, HB6.out⟩
theorem cpTypes_any (l : List (Int × Int)) (A : Option Addr) (cap B : Nat) (w : World) (h : SlcIs TyAt 2 w B A cap l) (hz : l.length * 16 ≤ 140737488351232) :
    Calls Try.prog 46 #[.slice A l.length cap] w (CpOut TyAt 2 l w) := by
  obtain ⟨vss, h1, h2, h3, h4, h5⟩ := row_cells (Sh := fun vs x => ElTy w vs x) (by decide) ty_cells h.row
  refine (cpTypes_raw vss l.length A cap B w h1 h2 h3 h4 h.le h.cap hz).mono fun e w' ⟨v, he, ho, hb⟩ => ?_
  have hR : RowEl ElTy w' w.heap.size 42 2 v l := ⟨vss, h1, h2, ho, fun i vs x hi hx => h5 i vs x hi hx⟩
  obtain ⟨A', c', rfl, hs⟩ := hR.slice ElTy.at_ ElTy.mono (by decide)
  exact ⟨A', c', he, hs, hR.free, hb⟩
theorem cpTypes_is {l : List (Int × Int)} {A : Option Addr} {cap B : Nat} {w0 w : World} (HS : Hid (SlcIs TyAt 2 w0 B A cap l)) (HB : Hid (B ≤ w0.heap.size)) (HX : Hid (Below w0.heap.size w0 w)) (hz : Hid (l.length * 16 ≤ 140737488351232)) :
    Calls Try.prog 46 #[.slice A l.length cap] w (CpOut TyAt 2 l w) := cpTypes_any l A cap B w (HS.out.below_to TyAt.keeps HX.out HB.out) hz.out

theorem cpInts_raw (vss : List (List Value)) (n : Nat) (A : Option Addr) (cap B : Nat) (w : World) (hn : vss.length = n) (hk : ∀ vs ∈ vss, vs.length = 1) (h1 : ∀ u ∈ vss.flatten, u.oneCell' = true) (hL : Lies w B A vss.flatten) (hc : n ≤ cap) (hcm : cap ≤ 9223372036854775807) (hz : n * 8 ≤ 140737488351232) :
    Calls Try.prog 47 #[.slice A n cap] w fun e w' => ∃ v, e = .returned v ∧ w'.ownsRow w.heap.size 3 1 v n vss.flatten ∧ Below w.heap.size w w' := by
  obtain ⟨i0, z0, hi, hz0, hz1, hz2, hz3⟩ := info_some (P := Try.prog) (t := 3) (k := 1) (b := 8) (by kernel_rfl)
  have HL := Lib.hid hL
  have H1 := Lib.hid h1
  have HN : Hid (vss.flatten.length = n * 1) := Lib.hid (by rw [flatten_len vss hk, hn])
  clear hL h1 hk hn
  go_enter Try.func47, Try.ntmps47
  go_wp2_with (at_builtin; refine append_liesK rfl _ _ 26 rfl w.heap.size 3 i0 z0 1 8 Try.underlying26 hi hz0 hz2 hz3 hz1 (by decide) _ 0 [] rfl (World.ownsRow_nil _ _ _ _) A n cap B vss.flatten HN.out rfl HL.out H1.out (by unfold maxLen; omega) (by omega) (Nat.le_refl _) ?_; intro v6 w6 hown hgrow; have HO6 : Hid (w6.ownsRow w.heap.size 3 1 v6 n vss.flatten) := Lib.hid (by simpa using hown); have HB6 := Lib.hid ((Below.refl w.heap.size w).grown hgrow (Nat.le_refl _) (fun k hk => by cases hk)); clear hown hgrow)
  go_ret
  exact ⟨v6, rfl, HO6.out, HB6.out⟩
theorem cpInts_any (l : List Int) (A : Option Addr) (cap B : Nat) (w : World) (h : SlcIs IntAt 1 w B A cap l) (hz : l.length * 8 ≤ 140737488351232) :
    Calls Try.prog 47 #[.slice A l.length cap] w (CpOut IntAt 1 l w) := by
  obtain ⟨vss, h1, h2, h3, h4, h5⟩ := row_cells (Sh := fun vs x => ElInt w vs x) (by decide) int_cells h.row
  refine (cpInts_raw vss l.length A cap B w h1 h2 h3 h4 h.le h.cap hz).mono fun e w' ⟨v, he, ho, hb⟩ => ?_
  have hR : RowEl ElInt w' w.heap.size 3 1 v l := ⟨vss, h1, h2, ho, fun i vs x hi hx => h5 i vs x hi hx⟩
  obtain ⟨A', c', rfl, hs⟩ := hR.slice ElInt.at_ ElInt.mono (by decide)
  exact ⟨A', c', he, hs, hR.free, hb⟩
theorem cpInts_is {l : List Int} {A : Option Addr} {cap B : Nat} {w0 w : World} (HS : Hid (SlcIs IntAt 1 w0 B A cap l)) (HB : Hid (B ≤ w0.heap.size)) (HX : Hid (Below w0.heap.size w0 w)) (hz : Hid (l.length * 8 ≤ 140737488351232)) :
    Calls Try.prog 47 #[.slice A l.length cap] w (CpOut IntAt 1 l w) := cpInts_any l A cap B w (HS.out.below_to IntAt.keeps HX.out HB.out) hz.out

theorem cpLongs_raw (vss : List (List Value)) (n : Nat) (A : Option Addr) (cap B : Nat) (w : World) (hn : vss.length = n) (hk : ∀ vs ∈ vss, vs.length = 1) (h1 : ∀ u ∈ vss.flatten, u.oneCell' = true) (hL : Lies w B A vss.flatten) (hc : n ≤ cap) (hcm : cap ≤ 9223372036854775807) (hz : n * 4 ≤ 140737488351232) :
    Calls Try.prog 48 #[.slice A n cap] w fun e w' => ∃ v, e = .returned v ∧ w'.ownsRow w.heap.size 21 1 v n vss.flatten ∧ Below w.heap.size w w' := by
  obtain ⟨i0, z0, hi, hz0, hz1, hz2, hz3⟩ := info_some (P := Try.prog) (t := 21) (k := 1) (b := 4) (by kernel_rfl)
  have HL := Lib.hid hL
  have H1 := Lib.hid h1
  have HN : Hid (vss.flatten.length = n * 1) := Lib.hid (by rw [flatten_len vss hk, hn])
  clear hL h1 hk hn
  go_enter Try.func48, Try.ntmps48
  go_wp2_with (at_builtin; refine append_liesK rfl _ _ 24 rfl w.heap.size 21 i0 z0 1 4 Try.underlying24 hi hz0 hz2 hz3 hz1 (by decide) _ 0 [] rfl (World.ownsRow_nil _ _ _ _) A n cap B vss.flatten HN.out rfl HL.out H1.out (by unfold maxLen; omega) (by omega) (Nat.le_refl _) ?_; intro v6 w6 hown hgrow; have HO6 : Hid (w6.ownsRow w.heap.size 21 1 v6 n vss.flatten) := Lib.hid (by simpa using hown); have HB6 := Lib.hid ((Below.refl w.heap.size w).grown hgrow (Nat.le_refl _) (fun k hk => by cases hk)); clear hown hgrow)
  go_ret
  exact ⟨v6, rfl, HO6.out, HB6.out⟩
theorem cpLongs_any (l : List Int) (A : Option Addr) (cap B : Nat) (w : World) (h : SlcIs LongAt 1 w B A cap l) (hz : l.length * 4 ≤ 140737488351232) :
    Calls Try.prog 48 #[.slice A l.length cap] w (CpOut LongAt 1 l w) := by
  obtain ⟨vss, h1, h2, h3, h4, h5⟩ := row_cells (Sh := fun vs x => ElLong w vs x) (by decide) long_cells h.row
  refine (cpLongs_raw vss l.length A cap B w h1 h2 h3 h4 h.le h.cap hz).mono fun e w' ⟨v, he, ho, hb⟩ => ?_
  have hR : RowEl ElLong w' w.heap.size 21 1 v l := ⟨vss, h1, h2, ho, fun i vs x hi hx => h5 i vs x hi hx⟩
  obtain ⟨A', c', rfl, hs⟩ := hR.slice ElLong.at_ ElLong.mono (by decide)
  exact ⟨A', c', he, hs, hR.free, hb⟩
theorem cpLongs_is {l : List Int} {A : Option Addr} {cap B : Nat} {w0 w : World} (HS : Hid (SlcIs LongAt 1 w0 B A cap l)) (HB : Hid (B ≤ w0.heap.size)) (HX : Hid (Below w0.heap.size w0 w)) (hz : Hid (l.length * 4 ≤ 140737488351232)) :
    Calls Try.prog 48 #[.slice A l.length cap] w (CpOut LongAt 1 l w) := cpLongs_any l A cap B w (HS.out.below_to LongAt.keeps HX.out HB.out) hz.out

theorem cpCode_raw (vss : List (List Value)) (n : Nat) (A : Option Addr) (cap B : Nat) (w : World) (hn : vss.length = n) (hk : ∀ vs ∈ vss, vs.length = 3) (h1 : ∀ u ∈ vss.flatten, u.oneCell' = true) (hL : Lies w B A vss.flatten) (hc : n ≤ cap) (hcm : cap ≤ 9223372036854775807) (hz : n * 24 ≤ 140737488351232) :
    Calls Try.prog 50 #[.slice A n cap] w fun e w' => ∃ v, e = .returned v ∧ w'.ownsRow w.heap.size 47 3 v n vss.flatten ∧ Below w.heap.size w w' := by
  obtain ⟨i0, z0, hi, hz0, hz1, hz2, hz3⟩ := info_some (P := Try.prog) (t := 47) (k := 3) (b := 24) (by kernel_rfl)
  have HL := Lib.hid hL
  have H1 := Lib.hid h1
  have HN : Hid (vss.flatten.length = n * 3) := Lib.hid (by rw [flatten_len vss hk, hn])
  clear hL h1 hk hn
  go_enter Try.func50, Try.ntmps50
  go_wp2_with (at_builtin; refine append_liesK rfl _ _ 43 rfl w.heap.size 47 i0 z0 3 24 Try.underlying43 hi hz0 hz2 hz3 hz1 (by decide) _ 0 [] rfl (World.ownsRow_nil _ _ _ _) A n cap B vss.flatten HN.out rfl HL.out H1.out (by unfold maxLen; omega) (by omega) (Nat.le_refl _) ?_; intro v6 w6 hown hgrow; have HO6 : Hid (w6.ownsRow w.heap.size 47 3 v6 n vss.flatten) := Lib.hid (by simpa using hown); have HB6 := Lib.hid ((Below.refl w.heap.size w).grown hgrow (Nat.le_refl _) (fun k hk => by cases hk)); clear hown hgrow)
  go_ret
  exact ⟨v6, rfl, HO6.out, HB6.out⟩
theorem cpCode_any (l : List (Int × Int × Int)) (A : Option Addr) (cap B : Nat) (w : World) (h : SlcIs CodeAt 3 w B A cap l) (hz : l.length * 24 ≤ 140737488351232) :
    Calls Try.prog 50 #[.slice A l.length cap] w (CpOut CodeAt 3 l w) := by
  obtain ⟨vss, h1, h2, h3, h4, h5⟩ := row_cells (Sh := fun vs x => ElCode w vs x) (by decide) code_cells h.row
  refine (cpCode_raw vss l.length A cap B w h1 h2 h3 h4 h.le h.cap hz).mono fun e w' ⟨v, he, ho, hb⟩ => ?_
  have hR : RowEl ElCode w' w.heap.size 47 3 v l := ⟨vss, h1, h2, ho, fun i vs x hi hx => h5 i vs x hi hx⟩
  obtain ⟨A', c', rfl, hs⟩ := hR.slice ElCode.at_ ElCode.mono (by decide)
  exact ⟨A', c', he, hs, hR.free, hb⟩
theorem cpCode_is {l : List (Int × Int × Int)} {A : Option Addr} {cap B : Nat} {w0 w : World} (HS : Hid (SlcIs CodeAt 3 w0 B A cap l)) (HB : Hid (B ≤ w0.heap.size)) (HX : Hid (Below w0.heap.size w0 w)) (hz : Hid (l.length * 24 ≤ 140737488351232)) :
    Calls Try.prog 50 #[.slice A l.length cap] w (CpOut CodeAt 3 l w) := cpCode_any l A cap B w (HS.out.below_to CodeAt.keeps HX.out HB.out) hz.out

theorem cpClasses_raw (vss : List (List Value)) (n : Nat) (A : Option Addr) (cap B : Nat) (w : World) (hn : vss.length = n) (hk : ∀ vs ∈ vss, vs.length = 3) (h1 : ∀ u ∈ vss.flatten, u.oneCell' = true) (hL : Lies w B A vss.flatten) (hc : n ≤ cap) (hcm : cap ≤ 9223372036854775807) (hz : n * 56 ≤ 140737488351232) :
    Calls Try.prog 45 #[.slice A n cap] w fun e w' => ∃ v, e = .returned v ∧ w'.ownsRow w.heap.size 52 3 v n vss.flatten ∧ Below w.heap.size w w' := by
  obtain ⟨i0, z0, hi, hz0, hz1, hz2, hz3⟩ := info_some (P := Try.prog) (t := 52) (k := 3) (b := 56) (by kernel_rfl)
  have HL := Lib.hid hL
  have H1 := Lib.hid h1
  have HN : Hid (vss.flatten.length = n * 3) := Lib.hid (by rw [flatten_len vss hk, hn])
  clear hL h1 hk hn
  go_enter Try.func45, Try.ntmps45
  go_wp2_with (at_builtin; refine append_liesK rfl _ _ 22 rfl w.heap.size 52 i0 z0 3 56 Try.underlying22 hi hz0 hz2 hz3 hz1 (by decide) _ 0 [] rfl (World.ownsRow_nil _ _ _ _) A n cap B vss.flatten HN.out rfl HL.out H1.out (by unfold maxLen; omega) (by omega) (Nat.le_refl _) ?_; intro v6 w6 hown hgrow; have HO6 : Hid (w6.ownsRow w.heap.size 52 3 v6 n vss.flatten) := Lib.hid (by simpa using hown); have HB6 := Lib.hid ((Below.refl w.heap.size w).grown hgrow (Nat.le_refl _) (fun k hk => by cases hk)); clear hown hgrow)
  go_ret
  exact ⟨v6, rfl, HO6.out, HB6.out⟩
theorem cpClasses_any (l : List Cls) (A : Option Addr) (cap B : Nat) (w0 w : World) (h : SlcIs ClsAt 3 w0 B A cap l) (hB : B ≤ w0.heap.size) (hX : Below w0.heap.size w0 w) (hz : l.length * 56 ≤ 140737488351232) :
    Calls Try.prog 45 #[.slice A l.length cap] w (CpSh ElCls (ShCls w0 B) 52 3 l w) := by
  obtain ⟨vss, h1, h2, h3, h4, h5⟩ := row_cells (Sh := ShCls w0 B) (by decide) cls_cells h.row
  refine (cpClasses_raw vss l.length A cap B w h1 h2 h3 (h4.below_to hX hB) h.le h.cap hz).mono fun e w' ⟨v, he, ho, hb⟩ => ?_
  rcases ownK_slice ho with ⟨rfl, hn⟩ | ⟨g, c, rfl, _, _⟩
  · exact ⟨none, 0, by rw [hn]; exact he, ⟨vss, h1, h2, by rw [hn] at ho ⊢; exact ho, fun j vs x hj hx => ⟨fun g => absurd g (Nat.not_lt_zero _), fun _ => h5 j vs x hj hx⟩⟩, hb⟩
  · exact ⟨_, c, he, ⟨vss, h1, h2, ho, fun j vs x hj hx => ⟨fun g => absurd g (Nat.not_lt_zero _), fun _ => h5 j vs x hj hx⟩⟩, hb⟩
theorem cpClasses_is {l : List Cls} {A : Option Addr} {cap B : Nat} {w0 w : World} (HS : Hid (SlcIs ClsAt 3 w0 B A cap l)) (HB : Hid (B ≤ w0.heap.size)) (HX : Hid (Below w0.heap.size w0 w)) (hz : Hid (l.length * 56 ≤ 140737488351232)) :
    Calls Try.prog 45 #[.slice A l.length cap] w (CpSh ElCls (ShCls w0 B) 52 3 l w) := cpClasses_any l A cap B w0 w HS.out HB.out HX.out hz.out

theorem cpMethods_raw (vss : List (List Value)) (n : Nat) (A : Option Addr) (cap B : Nat) (w : World) (hn : vss.length = n) (hk : ∀ vs ∈ vss, vs.length = 8) (h1 : ∀ u ∈ vss.flatten, u.oneCell' = true) (hL : Lies w B A vss.flatten) (hc : n ≤ cap) (hcm : cap ≤ 9223372036854775807) (hz : n * 128 ≤ 140737488351232) :
    Calls Try.prog 49 #[.slice A n cap] w fun e w' => ∃ v, e = .returned v ∧ w'.ownsRow w.heap.size 45 8 v n vss.flatten ∧ Below w.heap.size w w' := by
  obtain ⟨i0, z0, hi, hz0, hz1, hz2, hz3⟩ := info_some (P := Try.prog) (t := 45) (k := 8) (b := 128) (by kernel_rfl)
  have HL := Lib.hid hL
  have H1 := Lib.hid h1
  have HN : Hid (vss.flatten.length = n * 8) := Lib.hid (by rw [flatten_len vss hk, hn])
  clear hL h1 hk hn
  go_enter Try.func49, Try.ntmps49
  go_wp2_with (at_builtin; refine append_liesK rfl _ _ 25 rfl w.heap.size 45 i0 z0 8 128 Try.underlying25 hi hz0 hz2 hz3 hz1 (by decide) _ 0 [] rfl (World.ownsRow_nil _ _ _ _) A n cap B vss.flatten HN.out rfl HL.out H1.out (by unfold maxLen; omega) (by omega) (Nat.le_refl _) ?_; intro v6 w6 hown hgrow; have HO6 : Hid (w6.ownsRow w.heap.size 45 8 v6 n vss.flatten) := Lib.hid (by simpa using hown); have HB6 := Lib.hid ((Below.refl w.heap.size w).grown hgrow (Nat.le_refl _) (fun k hk => by cases hk)); clear hown hgrow)
  go_ret
  exact ⟨v6, rfl, HO6.out, HB6.out⟩
theorem cpMethods_any (l : List Mth) (A : Option Addr) (cap B : Nat) (w0 w : World) (h : SlcIs MthAt 8 w0 B A cap l) (hB : B ≤ w0.heap.size) (hX : Below w0.heap.size w0 w) (hz : l.length * 128 ≤ 140737488351232) :
    Calls Try.prog 49 #[.slice A l.length cap] w (CpSh ElMthO (ShMth w0 B) 45 8 l w) := by
  obtain ⟨vss, h1, h2, h3, h4, h5⟩ := row_cells (Sh := ShMth w0 B) (by decide) mth_cells h.row
  refine (cpMethods_raw vss l.length A cap B w h1 h2 h3 (h4.below_to hX hB) h.le h.cap hz).mono fun e w' ⟨v, he, ho, hb⟩ => ?_
  rcases ownK_slice ho with ⟨rfl, hn⟩ | ⟨g, c, rfl, _, _⟩
  · exact ⟨none, 0, by rw [hn]; exact he, ⟨vss, h1, h2, by rw [hn] at ho ⊢; exact ho, fun j vs x hj hx => ⟨fun g => absurd g (Nat.not_lt_zero _), fun _ => h5 j vs x hj hx⟩⟩, hb⟩
  · exact ⟨_, c, he, ⟨vss, h1, h2, ho, fun j vs x hj hx => ⟨fun g => absurd g (Nat.not_lt_zero _), fun _ => h5 j vs x hj hx⟩⟩, hb⟩
theorem cpMethods_is {l : List Mth} {A : Option Addr} {cap B : Nat} {w0 w : World} (HS : Hid (SlcIs MthAt 8 w0 B A cap l)) (HB : Hid (B ≤ w0.heap.size)) (HX : Hid (Below w0.heap.size w0 w)) (hz : Hid (l.length * 128 ≤ 140737488351232)) :
    Calls Try.prog 49 #[.slice A l.length cap] w (CpSh ElMthO (ShMth w0 B) 45 8 l w) := cpMethods_any l A cap B w0 w HS.out HB.out HX.out hz.out
end Go.Proofs.Ytikljohgdgibnaa
