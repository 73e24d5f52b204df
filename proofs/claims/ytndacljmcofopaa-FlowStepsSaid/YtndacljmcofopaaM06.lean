/-
  Words for what an instruction takes and gives, in memory.
  What the document's own answer for a method's result (gives) comes to.
  What the program's own word for what a list has at a place (at) comes to: of classes, numbers and types; whether there is a class of a number (isClass).
  What stands above a class, by the program's own words (above, wayUp): the nearest one, and all of them.
-/
import Derived.Test.YtndacljmcofopaaM04
import Derived.Test.YtndacljmcofopaaM05
import Derived.Test.YtndacljmcofopaaM03
import Derived.RegionTactic
import Derived.ChangeAlike
import Derived.Deep.RegionHeld3
import Derived.Deep.QuietTactic
import Derived.BigQuiet
import Derived.Test.YtndacljmcofopaaM01
import Derived.Test.YtndacljmcofopaaM02
namespace Go.Proofs.Ytndacljmcofopaa
set_option maxRecDepth 100000
set_option linter.unusedVariables false
set_option linter.unusedSimpArgs false
open Go.ChangeShapes Go.WideShapes Go.ChangeAt Go.RowKit

/-- Two lists of types, wherever they lie. -/
def TwoTypes (L M : List (Int × Int)) (w : World) (e : Ending) (w' : World) : Prop :=
  ∃ A c A' c', e = .returned (.tuple #[.slice A L.length c, .slice A' M.length c']) ∧ SlcIs TyAt 2 w' w'.heap.size A c L ∧ SlcIs TyAt 2 w' w'.heap.size A' c' M ∧ Below w.heap.size w w'
/-- The boxes with which it begins: the image, the instruction, five types. -/
abbrev ruleW (h : Hnd) (m : Img) (op a b : Int) (w : World) : World :=
  ((((((w.alloc (imgO h m)).alloc (.cells #[.int .i64 op, .int .i64 a, .int .i64 b] 44)).alloc (.cells #[.int .i64 1, .int .i64 0] 38)).alloc (.cells #[.int .i64 2, .int .i64 0] 38)).alloc
    (.cells #[.int .i64 4, .int .i64 0] 38)).alloc (.cells #[.int .i64 0, .int .i64 0] 38)).alloc (.cells #[.int .i64 3, .int .i64 a] 38)
structure RuleBox (w1 : World) (N : Nat) (h : Hnd) (m : Img) (op a b : Int) : Prop where
  img : ImgBox w1 N h m
  ins : Cells w1 (N + 1) [.int .i64 op, .int .i64 a, .int .i64 b]
  t1 : Cells w1 (N + 1 + 1) [.int .i64 1, .int .i64 0]
  t2 : Cells w1 (N + 1 + 1 + 1) [.int .i64 2, .int .i64 0]
  t4 : Cells w1 (N + 1 + 1 + 1 + 1) [.int .i64 4, .int .i64 0]
  t0 : Cells w1 (N + 1 + 1 + 1 + 1 + 1) [.int .i64 0, .int .i64 0]
  t3 : Cells w1 (N + 1 + 1 + 1 + 1 + 1 + 1) [.int .i64 3, .int .i64 a]
  size : w1.heap.size = N + 1 + 1 + 1 + 1 + 1 + 1 + 1
theorem rule_parts (h : Hnd) (m : Img) (op a b : Int) (w : World) : Below w.heap.size w (ruleW h m op a b w) ∧ RuleBox (ruleW h m op a b w) w.heap.size h m op a b := by
  have z0 : (w.alloc (imgO h m)).heap.size = w.heap.size + 1 := by simp
  obtain ⟨c1, z1, b1⟩ := cells_step z0 [.int .i64 op, .int .i64 a, .int .i64 b] 44
  obtain ⟨c2, z2, b2⟩ := cells_step z1 [.int .i64 1, .int .i64 0] 38
  obtain ⟨c3, z3, b3⟩ := cells_step z2 [.int .i64 2, .int .i64 0] 38
  obtain ⟨c4, z4, b4⟩ := cells_step z3 [.int .i64 4, .int .i64 0] 38
  obtain ⟨c5, z5, b5⟩ := cells_step z4 [.int .i64 0, .int .i64 0] 38
  obtain ⟨c6, z6, b6⟩ := cells_step z5 [.int .i64 3, .int .i64 a] 38
  have b5' := b5.trans (b6.mono (by omega))
  have b4' := b4.trans (b5'.mono (by omega))
  have b3' := b3.trans (b4'.mono (by omega))
  have b2' := b2.trans (b3'.mono (by omega))
  have b1' := b1.trans (b2'.mono (by omega))
  exact ⟨((Below.refl w.heap.size w).alloc (Nat.le_refl _) (imgO h m)).trans (b1'.mono (by omega)),
    (img_box w h m).keep b1' (by omega), c1.keep b2' (by omega), c2.keep b3' (by omega), c3.keep b4' (by omega), c4.keep b5' (by omega), c5.keep b6 (by omega), c6, z6⟩
theorem new_t1 {w : World} {g : Nat} {x y : Int} (hg : g < w.heap.size) (h0 : w.cell? ⟨g, 0, none⟩ = some (.int .i64 x)) (h1 : w.cell? ⟨g, 1, none⟩ = some (.int .i64 y)) : SlcIs TyAt 2 w w.heap.size (some ⟨g, 0, none⟩) 1 [(x, y)] :=
  ⟨Nat.le_refl _, by show 1 ≤ 9223372036854775807; omega, row_one ⟨h0, h1⟩ hg⟩
theorem new_t2 {w : World} {g : Nat} {x y z u : Int} (hg : g < w.heap.size) (h0 : w.cell? ⟨g, 0, none⟩ = some (.int .i64 x)) (h1 : w.cell? ⟨g, 1, none⟩ = some (.int .i64 y)) (h2 : w.cell? ⟨g, 2, none⟩ = some (.int .i64 z)) (h3 : w.cell? ⟨g, 3, none⟩ = some (.int .i64 u)) : SlcIs TyAt 2 w w.heap.size (some ⟨g, 0, none⟩) 2 [(x, y), (z, u)] :=
  ⟨Nat.le_refl _, by show 2 ≤ 9223372036854775807; omega, fun i t hi => by
    match i, hi with
    | 0, hi => simp at hi; subst hi; exact ⟨_, rfl, hg, by simpa [Addr.add] using h0, by simpa [Addr.add] using h1⟩
    | 1, hi => simp at hi; subst hi; exact ⟨_, rfl, hg, by simpa [Addr.add] using h2, by simpa [Addr.add] using h3⟩
    | i + 2, hi => simp at hi⟩
theorem new_t3 {w : World} {g : Nat} {x y z u v s : Int} (hg : g < w.heap.size) (h0 : w.cell? ⟨g, 0, none⟩ = some (.int .i64 x)) (h1 : w.cell? ⟨g, 1, none⟩ = some (.int .i64 y)) (h2 : w.cell? ⟨g, 2, none⟩ = some (.int .i64 z)) (h3 : w.cell? ⟨g, 3, none⟩ = some (.int .i64 u)) (h4 : w.cell? ⟨g, 4, none⟩ = some (.int .i64 v)) (h5 : w.cell? ⟨g, 5, none⟩ = some (.int .i64 s)) : SlcIs TyAt 2 w w.heap.size (some ⟨g, 0, none⟩) 3 [(x, y), (z, u), (v, s)] :=
  ⟨Nat.le_refl _, by show 3 ≤ 9223372036854775807; omega, fun i t hi => by
    match i, hi with
    | 0, hi => simp at hi; subst hi; exact ⟨_, rfl, hg, by simpa [Addr.add] using h0, by simpa [Addr.add] using h1⟩
    | 1, hi => simp at hi; subst hi; exact ⟨_, rfl, hg, by simpa [Addr.add] using h2, by simpa [Addr.add] using h3⟩
    | 2, hi => simp at hi; subst hi; exact ⟨_, rfl, hg, by simpa [Addr.add] using h4, by simpa [Addr.add] using h5⟩
    | i + 3, hi => simp at hi⟩
end Go.Proofs.Ytndacljmcofopaa
namespace Go.Proofs.Ytndacljmcofopaa
set_option maxRecDepth 100000
set_option linter.unusedVariables false
set_option linter.unusedSimpArgs false
open Go.ChangeShapes Go.WideShapes Go.ChangeAt Go.RowKit

/-- A list of types, wherever it lies. -/
def SomeTypes (L : List (Int × Int)) (w : World) (e : Ending) (w' : World) : Prop := ∃ A c, e = .returned (.slice A L.length c) ∧ SlcIs TyAt 2 w' w'.heap.size A c L ∧ Below w.heap.size w w'
theorem rgives_any (x : Mth) (hx : MHnd) (w : World) : Calls Try.prog 30 #[mthV hx x] w (SomeTypes (givesOf x) w) := by
  have HW := Lib.hid ((Below.refl w.heap.size w).alloc (Nat.le_refl _) (.cells (mthL hx x).toArray 41))
  have HC := Lib.hid (cells_new w (mthL hx x) 41)
  have hz : Hid ((w.alloc (.cells (mthL hx x).toArray 41)).heap.size = w.heap.size + 1) := Lib.hid (by simp)
  by_cases h5 : x.ret.1 = 5
  · have e : givesOf x = [] := by unfold givesOf; rw [if_pos h5]
    rw [e]
    have H5 := Lib.hid h5
    clear e h5
    go_enter Try.func30, Try.ntmps30
    go_upto_region 1 with fail
    generalize w.alloc (.cells (mthL hx x).toArray 41) = w1 at *
    have q2 := HC.out 2 _ rfl
    rw [H5.out] at q2
    go_wp2_with fail
    go_ret
    exact ⟨none, 0, rfl, slc_none, HW.out⟩
  · have e : givesOf x = [x.ret] := by unfold givesOf; rw [if_neg h5]
    rw [e]
    clear e
    go_enter Try.func30, Try.ntmps30
    go_upto_region 1 with fail
    generalize w.alloc (.cells (mthL hx x).toArray 41) = w1 at *
    have q2 := HC.out 2 _ rfl
    have q3 := HC.out 3 _ rfl
    have hz := hz.out
    go_wp2_with fail
    go_ret
    refine ⟨_, _, rfl, new_t1 (by simp; try omega) (by go_simp) (by go_simp), HW.out.trans ((Below.refl _ _).alloc (by omega) _)⟩
theorem rgives_is {x : Mth} {hx : MHnd} {w : World} {L : List (Int × Int)} (HL : Hid (givesOf x = L)) : Calls Try.prog 30 #[mthV hx x] w (SomeTypes L w) := by
  have H := rgives_any x hx w
  rw [HL.out] at H
  exact H
theorem rlocal_is {x : Mth} {n : Int} {hx : MHnd} {w0 w : World} {t : Int × Int} (HM : Hid (MthIn w0 w0.heap.size hx x)) (HX : Hid (Below w0.heap.size w0 w)) (HR : Hid (localOf x n = t)) (hs : n ≤ 9223372036854775807) (ha : x.args.length ≤ 1048576) (hl : x.locals.length ≤ 1048576) :
    Calls Try.prog 28 #[mthV hx x, .int .i64 n] w fun e w' => e = .returned (.agg #[.int .i64 t.1, .int .i64 t.2]) ∧ Below w.heap.size w w' := by
  have H := rlocal_any x n hs hx w (HM.out.now HX.out) ha hl
  rw [HR.out] at H
  exact H
end Go.Proofs.Ytndacljmcofopaa
namespace Go.Proofs.Ytndacljmcofopaa
set_option maxRecDepth 100000
set_option linter.unusedVariables false
set_option linter.unusedSimpArgs false
open Go.ChangeShapes Go.WideShapes Go.ChangeAt Go.RowKit

theorem atcls_yes (k n cap : Nat) (ad : Addr) (s : Int) (A1 A2 : Option Addr) (n1 c1 n2 c2 : Nat) (w : World) (hk : k < n) (hn : n ≤ 9223372036854775807) (hab : ad.block < w.heap.size)
    (r0 : w.cell? (ad.add (k * 3)) = some (.int .i64 s)) (r1 : w.cell? (off_ (ad.add (k * 3)) 1) = some (.slice A1 n1 c1)) (r2 : w.cell? (off_ (ad.add (k * 3)) 2) = some (.slice A2 n2 c2)) :
    Calls Try.prog 75 #[.slice (some ad) n cap, .int .i64 k] w fun e w' => e = .returned (.tuple #[.agg #[.int .i64 s, .slice A1 n1 c1, .slice A2 n2 c2], .bool true]) ∧ Below w.heap.size w w' := by
  have HW := Lib.hid ((Below.refl w.heap.size w).alloc (Nat.le_refl _) (.cells #[.int .i64 0, .slice none 0 0, .slice none 0 0] 87))
  have r0 := (HW.out.cell (p := ad.add (k * 3)) (by rw [addr_add_block]; exact hab)).trans r0
  have r1 := (HW.out.cell (p := off_ (ad.add (k * 3)) 1) (by show (ad.add _).block < _; rw [addr_add_block]; exact hab)).trans r1
  have r2 := (HW.out.cell (p := off_ (ad.add (k * 3)) 2) (by show (ad.add _).block < _; rw [addr_add_block]; exact hab)).trans r2
  go_enter Try.func75, Try.ntmps75
  go_wp2
  exact bodyPost_ret (v := .tuple #[.agg #[.int .i64 s, .slice A1 n1 c1, .slice A2 n2 c2], .bool true]) (by simp [results, Try.results75, go_sem]) rfl ⟨rfl, (Below.refl _ _).alloc (Nat.le_refl _) _⟩
theorem atcls_no (k : Int) (n cap : Nat) (A : Option Addr) (w : World) (hn : n ≤ 9223372036854775807) (hk : k < 0 ∨ (n : Int) ≤ k) :
    Calls Try.prog 75 #[.slice A n cap, .int .i64 k] w fun e w' => e = .returned (.tuple #[.agg #[.int .i64 0, .slice none 0 0, .slice none 0 0], .bool false]) ∧ Below w.heap.size w w' := by
  by_cases h0 : k < 0
  · clear hk
    go_enter Try.func75, Try.ntmps75
    go_wp2
    exact bodyPost_ret (v := .tuple #[.agg #[.int .i64 0, .slice none 0 0, .slice none 0 0], .bool false]) (by simp [results, Try.results75, go_sem]) rfl ⟨rfl, ((Below.refl _ _).alloc (Nat.le_refl _) _).alloc (by simp) _⟩
  · have h1 : (n : Int) ≤ k := by omega
    have h2 : 0 ≤ k := by omega
    clear hk h0
    go_enter Try.func75, Try.ntmps75
    go_wp2
    exact bodyPost_ret (v := .tuple #[.agg #[.int .i64 0, .slice none 0 0, .slice none 0 0], .bool false]) (by simp [results, Try.results75, go_sem]) rfl ⟨rfl, ((Below.refl _ _).alloc (Nat.le_refl _) _).alloc (by simp) _⟩

theorem atint_yes (k n cap : Nat) (ad : Addr) (z : Int) (w : World) (hk : k < n) (hn : n ≤ 9223372036854775807) (r0 : w.cell? (ad.add k) = some (.int .i64 z)) :
    Calls Try.prog 76 #[.slice (some ad) n cap, .int .i64 k] w fun e w' => e = .returned (.tuple #[.int .i64 z, .bool true]) ∧ w = w' := by
  go_enter Try.func76, Try.ntmps76
  go_wp2
  go_ret2
  exact ⟨rfl, rfl⟩
theorem atint_no (k : Int) (n cap : Nat) (A : Option Addr) (w : World) (hn : n ≤ 9223372036854775807) (hk : k < 0 ∨ (n : Int) ≤ k) :
    Calls Try.prog 76 #[.slice A n cap, .int .i64 k] w fun e w' => e = .returned (.tuple #[.int .i64 0, .bool false]) ∧ Below w.heap.size w w' := by
  by_cases h0 : k < 0
  · clear hk
    go_enter Try.func76, Try.ntmps76
    go_wp2
    go_ret2
    exact ⟨rfl, by first | exact Below.refl _ _ | exact (Below.refl _ _).alloc (Nat.le_refl _) _⟩
  · have h1 : (n : Int) ≤ k := by omega
    have h2 : 0 ≤ k := by omega
    clear hk h0
    go_enter Try.func76, Try.ntmps76
    go_wp2
    go_ret2
    exact ⟨rfl, by first | exact Below.refl _ _ | exact (Below.refl _ _).alloc (Nat.le_refl _) _⟩

theorem attyp_yes (k n cap : Nat) (ad : Addr) (x y : Int) (w : World) (hk : k < n) (hn : n ≤ 9223372036854775807) (hab : ad.block < w.heap.size)
    (r0 : w.cell? (ad.add (k * 2)) = some (.int .i64 x)) (r1 : w.cell? (off_ (ad.add (k * 2)) 1) = some (.int .i64 y)) :
    Calls Try.prog 72 #[.slice (some ad) n cap, .int .i64 k] w fun e w' => e = .returned (.tuple #[tyV x y, .bool true]) ∧ Below w.heap.size w w' := by
  have HW := Lib.hid ((Below.refl w.heap.size w).alloc (Nat.le_refl _) (.cells #[.int .i64 0, .int .i64 0] 38))
  have r0 := (HW.out.cell (p := ad.add (k * 2)) (by rw [addr_add_block]; exact hab)).trans r0
  have r1 := (HW.out.cell (p := off_ (ad.add (k * 2)) 1) (by show (ad.add _).block < _; rw [addr_add_block]; exact hab)).trans r1
  go_enter Try.func72, Try.ntmps72
  go_wp2
  exact bodyPost_ret (v := .tuple #[tyV x y, .bool true]) (by simp [results, Try.results72, go_sem]) rfl ⟨rfl, (Below.refl _ _).alloc (Nat.le_refl _) _⟩
theorem attyp_no (k : Int) (n cap : Nat) (A : Option Addr) (w : World) (hn : n ≤ 9223372036854775807) (hk : k < 0 ∨ (n : Int) ≤ k) :
    Calls Try.prog 72 #[.slice A n cap, .int .i64 k] w fun e w' => e = .returned (.tuple #[tyV 0 0, .bool false]) ∧ Below w.heap.size w w' := by
  by_cases h0 : k < 0
  · clear hk
    go_enter Try.func72, Try.ntmps72
    go_wp2
    exact bodyPost_ret (v := .tuple #[tyV 0 0, .bool false]) (by simp [results, Try.results72, go_sem]) rfl ⟨rfl, ((Below.refl _ _).alloc (Nat.le_refl _) _).alloc (by simp) _⟩
  · have h1 : (n : Int) ≤ k := by omega
    have h2 : 0 ≤ k := by omega
    clear hk h0
    go_enter Try.func72, Try.ntmps72
    go_wp2
    exact bodyPost_ret (v := .tuple #[tyV 0 0, .bool false]) (by simp [results, Try.results72, go_sem]) rfl ⟨rfl, ((Below.refl _ _).alloc (Nat.le_refl _) _).alloc (by simp) _⟩

theorem isclass_yes (cl : List Cls) (k : Nat) (hk : k < cl.length) (A : Option Addr) (cap : Nat) (w : World) (h : SlcIs ClsAt 3 w w.heap.size A cap cl) :
    Calls Try.prog 79 #[.slice A cl.length cap, .int .i64 k] w fun e w' => e = .returned (.bool true) ∧ Below w.heap.size w w' := by
  have h1 := h.le
  have h2 := h.cap
  obtain ⟨ad, rfl, hab, r0, ⟨A1, k1, r1, _⟩, ⟨A2, k2, r2, _⟩, _⟩ := h.row.at_ hk
  clear h
  have hn : cl.length ≤ 9223372036854775807 := by omega
  generalize cl[k] = x at *
  generalize cl.length = n at *
  go_enter Try.func79, Try.ntmps79
  go_wp2_with (go_at_call 75; (with_reducible refine (atcls_yes k n cap ad _ _ _ _ _ _ _ w hk hn hab r0 r1 r2).mono ?_); rintro e w' ⟨rfl, hb⟩; have HB := Lib.hid hb; clear hb)
  go_ret
  exact ⟨rfl, by first | exact HB.out | exact HB.out.alloc HB.out.size _⟩
theorem isclass_no (cl : List Cls) (k : Int) (hk : k < 0 ∨ (cl.length : Int) ≤ k) (A : Option Addr) (cap : Nat) (w : World) (h : SlcIs ClsAt 3 w w.heap.size A cap cl) :
    Calls Try.prog 79 #[.slice A cl.length cap, .int .i64 k] w fun e w' => e = .returned (.bool false) ∧ Below w.heap.size w w' := by
  have h1 := h.le
  have h2 := h.cap
  have hn : cl.length ≤ 9223372036854775807 := by omega
  clear h
  generalize cl.length = n at *
  go_enter Try.func79, Try.ntmps79
  go_wp2_with (go_at_call 75; (with_reducible refine (atcls_no k n cap A w hn hk).mono ?_); rintro e w' ⟨rfl, hb⟩; have HB := Lib.hid hb; clear hb)
  go_ret
  exact ⟨rfl, by first | exact HB.out | exact HB.out.alloc HB.out.size _⟩

end Go.Proofs.Ytndacljmcofopaa
namespace Go.Proofs.Ytndacljmcofopaa
set_option maxRecDepth 100000
set_option linter.unusedVariables false
set_option linter.unusedSimpArgs false
open Go.ChangeShapes Go.WideShapes Go.ChangeAt Go.RowKit

theorem sup_in {sup : List Int} {c s : Int} (h0 : 0 ≤ c) (hs : sup[c.toNat]? = some s) : (¬ s = c ∧ inB (aboveI sup c) s = true) ↔ (0 ≤ s ∧ s < c) := by
  have h1 : c < sup.length := by
    rcases Nat.lt_or_ge c.toNat sup.length with g | g
    · omega
    · rw [List.getElem?_eq_none g] at hs; cases hs
  rw [inB_iff]
  constructor
  · rintro ⟨hn, hm⟩
    have := above_range hm
    omega
  · rintro ⟨g0, g1⟩
    refine ⟨by omega, ?_⟩
    rw [aboveI_step h0 hs, if_pos g1]
    exact List.mem_cons_of_mem _ (above_self g0 (by omega))
theorem supI_eq {sup : List Int} {c s : Int} (hs : sup[c.toNat]? = some s) : supI sup c = if 0 ≤ s ∧ s < c then s else -1 := by
  unfold supI; rw [hs]

theorem cabove_any (sup : List Int) (c : Int) (h0 : 0 ≤ c) (h1 : c < sup.length) (A : Option Addr) (cap B : Nat) (w : World) (hl : sup.length ≤ 1048576) (hB : B ≤ w.heap.size) (h : Supers w B A sup) :
    Calls Try.prog 80 #[.slice A sup.length cap, .int .i64 c] w fun e w' => e = .returned (.int .i64 (supI sup c)) ∧ Below w.heap.size w w' := by
  obtain ⟨K, rfl⟩ := Int.eq_ofNat_of_zero_le h0
  have hlt : K < sup.length := by omega
  have hs0 := List.getElem?_eq_getElem hlt
  have HS := Lib.hid h
  obtain ⟨ad, rfl, hab, hc⟩ := h K _ hs0
  have E1 := Lib.hid (supI_eq (sup := sup) (c := (K : Int)) (s := sup[K]) (by rw [Int.toNat_natCast]; exact hs0))
  have E2 := Lib.hid (sup_in (sup := sup) (c := (K : Int)) (s := sup[K]) h0 (by rw [Int.toNat_natCast]; exact hs0))
  clear hs0 h
  generalize sup[K] = s at *
  by_cases g : s = (K : Int)
  · have E := Lib.hid (show supI sup (K : Int) = -1 by rw [E1.out, if_neg (by omega)])
    clear E1 E2
    subst g
    go_enter Try.func80, Try.ntmps80
    go_wp2_with fail
    go_ret
    rw [E.out]
    exact ⟨rfl, Below.refl _ _⟩
  · have hne : ((s : Int) != (K : Int)) = true := by simpa using g
    obtain ⟨r, hr⟩ : ∃ r, inB (aboveI sup (K : Int)) s = r := ⟨_, rfl⟩
    have R := Lib.hid hr
    have E := Lib.hid (show supI sup (K : Int) = if r = true then s else -1 by
      rw [E1.out, ← hr]
      by_cases q : 0 ≤ s ∧ s < (K : Int)
      · rw [if_pos q, if_pos (E2.out.mpr q).2]
      · rw [if_neg q, if_neg (fun x => q (E2.out.mp ⟨g, x⟩))])
    clear E1 E2 hr g
    cases r
    all_goals
      go_enter Try.func80, Try.ntmps80
      go_wp2_with (go_at_call 77; (with_reducible refine (kbelow_any sup (K : Int) s (some ad) cap B w hl hB HS.out).mono ?_); rintro e w' ⟨he, hb⟩; rw [R.out] at he; subst he)
      go_ret
      rw [E.out]
      exact ⟨by simp, hb⟩

theorem cabove_is {sup : List Int} {c : Int} {n : Nat} (HN : Hid (sup.length = n)) (h0 : 0 ≤ c) (h1 : c < sup.length) (A : Option Addr) (cap B : Nat) (w : World) (hl : sup.length ≤ 1048576) (hB : B ≤ w.heap.size) (h : Supers w B A sup) :
    Calls Try.prog 80 #[.slice A n cap, .int .i64 c] w fun e w' => e = .returned (.int .i64 (supI sup c)) ∧ Below w.heap.size w w' := by
  obtain rfl := HN.out
  exact cabove_any sup c h0 h1 A cap B w hl hB h

set_option maxHeartbeats 1600000 in
theorem wayup_any (cl : List Cls) (c : Int) (A : Option Addr) (cap : Nat) (w : World) (hn : cl.length ≤ 1048576) (h : SlcIs ClsAt 3 w w.heap.size A cap cl) :
    Calls Try.prog 74 #[.slice A cl.length cap, .int .i64 c] w (OwnInts (aboveI (supsOf cl) c) w) := by
  obtain ⟨i0, hi, hz0, hz1, hz2⟩ := info_parts info_int
  have HC := Lib.hid h
  have HS := Lib.hid (supers_of h.row)
  clear h
  by_cases hk : 0 ≤ c ∧ c < cl.length
  · obtain ⟨k0, k1⟩ := hk
    obtain ⟨K, rfl⟩ := Int.eq_ofNat_of_zero_le k0
    have k1' : K < cl.length := by omega
    have hlen : (supsOf cl).length = cl.length := supsOf_len cl
    obtain ⟨sup, hsup⟩ : ∃ sup, supsOf cl = sup := ⟨_, rfl⟩
    rw [hsup] at hlen HS ⊢
    have HLN := Lib.hid hlen
    have hsl : sup.length ≤ 1048576 := by omega
    have hkl : (K : Int) < sup.length := by omega
    clear hsup
    go_enter Try.func74, Try.ntmps74
    clear hlen
    go_wp2_with (go_at_call 79; (with_reducible refine (isclass_yes cl K k1' A cap w HC.out).mono ?_); rintro e w1 ⟨rfl, hb⟩; have HB1 := Lib.hid hb; clear hb)
    go_loopw [1, 5] (fun a v wr => ∃ (C : Int) (pre : List Int), a = .int .i64 C ∧ -1 ≤ C ∧ C < sup.length ∧ Hid (pre ++ aboveI sup C = aboveI sup (K : Int)) ∧ pre.length + C + 1 ≤ sup.length ∧
        Hid (wr.ownsRow w.heap.size 3 1 v pre.length (pre.map (Value.int .i64))) ∧ Hid (Below w.heap.size w wr)) (fun a _ _ => (intOf a + 1).toNat)
    case atStart => exact ⟨K, [], rfl, by omega, hkl, Lib.hid rfl, by simp; omega, Lib.hid (World.ownsRow_nil _ _ _ _), HB1⟩
    case round =>
      obtain ⟨C, pre, rfl, c0, c1, HP, hp, HO, HX⟩ := hrel
      by_cases hC : C = -1
      · subst hC
        go_wp2_with fail
        go_ret
        refine ⟨_, rfl, ?_, HX.out⟩
        have e : pre = aboveI sup (K : Int) := by rw [← HP.out, aboveI_bad (.inl (by omega))]; simp
        rw [← e]
        exact HO.out
      · have hC0 : 0 ≤ C := by omega
        have hCn : (C != -1) = true := by simpa using hC
        have HST := Lib.hid (above_sup hC0 c1)
        have HBD := Lib.hid (supI_bounds sup C)
        have hsz := HX.out.size
        go_wp2_with (at_builtin; refine wpList_append_own _ rfl _ _ 26 rfl w.heap.size 3 i0 (.int .i64 0) 1 8 Try.underlying26 hi hz0 hz1 hz2 rfl (by decide) _ _ _ rfl (HO.out.alloc _) ⟨_, 0, none⟩ 1 1 [.int .i64 C] rfl rfl ?c1 ?c2 ?c3 ?c4 ?c5 ?_)
        case c1 =>
          intro j u hj
          match j, hj with
          | 0, hj => simp at hj; subst hj; simp [Addr.add]
        case c2 => intro u hu; simp at hu; subst hu; rfl
        case c3 => unfold maxLen; omega
        case c4 => omega
        case c5 => simp; omega
        intro v' w2 hown' hgrow _
        have hR := own_snoc64 HO.out hsz HX.out hown' hgrow
        have HO2 := Lib.hid hR.1
        have HX2 := Lib.hid hR.2
        clear hown' hgrow hR
        go_wp2_with (go_at_call 80; (with_reducible refine (cabove_is HLN hC0 c1 A cap w.heap.size _ hsl HX2.out.size (HS.out.below_to HX2.out (Nat.le_refl _))).mono ?_); rintro e w3 ⟨rfl, hb⟩; have HB3 := Lib.hid hb; clear hb)
        go_roundw
        case rel =>
          have hbd := HBD.out
          have := hbd.2 hC0
          exact ⟨supI sup C, pre ++ [C], rfl, hbd.1, by omega, Lib.hid (by rw [← HP.out, HST.out]; simp), by simp; omega, Lib.hid (own_below HO2.out HB3.out (own_block_lt HO2.out)), Lib.hid (HX2.out.trans (HB3.out.mono HX2.out.size))⟩
        case measure => have := HBD.out.2 hC0; have := HBD.out.1; simp [intOf]; omega
  · have hk' : c < 0 ∨ (cl.length : Int) ≤ c := by omega
    have E := Lib.hid (show aboveI (supsOf cl) c = [] from aboveI_bad (by rw [supsOf_len]; exact hk'))
    clear hk
    rw [E.out]
    go_enter Try.func74, Try.ntmps74
    go_wp2_with (go_at_call 79; (with_reducible refine (isclass_no cl c hk' A cap w HC.out).mono ?_); rintro e w1 ⟨rfl, hb⟩; have HB1 := Lib.hid hb; clear hb)
    go_ret
    exact ⟨_, rfl, World.ownsRow_nil _ _ _ _, HB1.out⟩
end Go.Proofs.Ytndacljmcofopaa
