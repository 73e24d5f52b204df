/-
  Words for what flow.takes and flow.gives come to.
-/
import Derived.Test.YtgpmdhdooglkfaaK35
import Derived.Test.YtgpmdhdooglkfaaK19
import Derived.RegionTactic
import Derived.ChangeAlike
import Derived.Deep.RegionHeld3
import Derived.Deep.QuietTactic
import Derived.BigQuiet
namespace Go.Proofs.Ytgpmdhdooglkfaa
set_option maxRecDepth 100000
set_option linter.unusedVariables false
set_option linter.unusedSimpArgs false
open Go.ChangeShapes Go.WideShapes Go.ChangeAt Go.RowKit


/-- What the program wants, the deepest one first. Kind 6: any; 7: any reference; 8: any but Arr. -/
def wantsOf (m : Img) (x : Mth) (op a b : Int) : List (Int × Int) :=
  if op = 4 then [localOf x a] else if op = 5 ∨ op = 6 then [(6, 0)] else if op = 19 ∨ op = 23 then [(1, 0)] else if op = 20 then [(7, 0)] else if op = 21 then [(7, 0), (7, 0)] else
  if op = 24 then [(2, 0), (1, 0)] else if op = 25 then [(2, 0), (1, 0), (1, 0)] else if op = 26 then [(2, 0)] else if op = 27 then [(3, a)] else if op = 28 then [(3, a), fieldN m a b] else
  if op = 30 then [staticN m a] else if op = 31 then (mthN m a).args else if op = 32 then (3, a) :: (mthN m (slotN m a b)).args.drop 1 else if op = 33 then givesOf x else if op = 34 then [(8, 0)] else
  if 7 ≤ op ∧ op ≤ 17 then [(1, 0), (1, 0)] else []
/-- What it gives of what it has taken. -/
def givesP (m : Img) (x : Mth) (op a b : Int) (tk : List (Int × Int)) : List (Int × Int) := if op = 6 then tk ++ tk else giveOf m x op a b
/-- The boxes with which it begins: the image, the instruction, and what the maker keeps. -/
abbrev takeW (h : Hnd) (m : Img) (op a b : Int) (w : World) : World := (twoW h m op a b w).alloc (.cells #[.int .i64 op, .int .i64 a, .int .i64 b] 49)
structure TakeBox (w2 : World) (N : Nat) (h : Hnd) (m : Img) (op a b : Int) : Prop where
  img : ImgBox w2 N h m
  ins : Cells w2 (N + 1) [.int .i64 op, .int .i64 a, .int .i64 b]
  fn : Cells w2 (N + 1 + 1) [.int .i64 op, .int .i64 a, .int .i64 b]
  size : w2.heap.size = N + 1 + 1 + 1
theorem take_parts (h : Hnd) (m : Img) (op a b : Int) (w : World) : Below w.heap.size w (takeW h m op a b w) ∧ TakeBox (takeW h m op a b w) w.heap.size h m op a b := by
  obtain ⟨h0, h1⟩ := two_parts h m op a b w
  obtain ⟨c1, z1, b1⟩ := cells_step h1.size [.int .i64 op, .int .i64 a, .int .i64 b] 49
  exact ⟨h0.trans (b1.mono (by omega)), h1.img.keep b1 (by omega), h1.ins.keep b1 (by omega), c1, z1⟩
theorem TakeBox.fnlt {w2 : World} {N : Nat} {h : Hnd} {m : Img} {op a b : Int} (H : TakeBox w2 N h m op a b) : N + 1 + 1 < w2.heap.size := by have := H.size; omega
theorem maker_is {h : Hnd} {m : Img} {op a b : Int} {w : World} : Calls Try.prog 74 #[insV op a b] (twoW h m op a b w) fun e w' => e = .returned (mkF (w.heap.size + 1 + 1)) ∧ w' = takeW h m op a b w := by
  refine (fmaker_any op a b _).mono ?_
  rintro e w' ⟨rfl, rfl⟩
  refine ⟨?_, rfl⟩
  have hz : (twoW h m op a b w).heap.size = w.heap.size + 1 + 1 := by simp
  rw [hz]
theorem int_three {w : World} {g : Nat} {p q r : Int} (hg : g < w.heap.size) (h0 : w.cell? ⟨g, 0, none⟩ = some (.int .i64 p)) (h1 : w.cell? ⟨g, 1, none⟩ = some (.int .i64 q)) (h2 : w.cell? ⟨g, 2, none⟩ = some (.int .i64 r)) : SlcIs IntAt 1 w w.heap.size (some ⟨g, 0, none⟩) 3 [p, q, r] :=
  ⟨Nat.le_refl _, by show 3 ≤ 9223372036854775807; omega, fun i t hi => by
    match i, hi with
    | 0, hi => simp at hi; subst hi; exact ⟨_, rfl, hg, h0⟩
    | 1, hi => simp at hi; subst hi; exact ⟨_, rfl, hg, (show w.cell? _ = _ by simpa [Addr.add] using h1)⟩
    | 2, hi => simp at hi; subst hi; exact ⟨_, rfl, hg, (show w.cell? _ = _ by simpa [Addr.add] using h2)⟩
    | i + 3, hi => simp at hi⟩
/-- A row of types of the call's own, behind a first world. -/
def OwnFromW (w0 : World) (L : List (Int × Int)) (e : Ending) (w' : World) : Prop := ∃ v, e = .returned v ∧ w'.ownsRow w0.heap.size 39 2 v L.length (tysV L) ∧ Below w0.heap.size w0 w'
theorem OwnFromW.some_ {w w0 : World} {L : List (Int × Int)} {e : Ending} {w' : World} (h : OwnFromW w0 L e w') (hb : Below w.heap.size w w0) : SomeTypes L w e w' := by
  obtain ⟨v, rfl, ho, hx⟩ := h
  obtain ⟨A, c, rfl, hs, _⟩ := own_types ho
  exact ⟨A, c, rfl, hs, hb.trans (hx.mono hb.size)⟩

theorem fmk1_is {k0 op a b : Int} {N : Nat} {w0 w : World} {L : List (Int × Int)} (HL : Hid (mkOf a [k0] = L)) (HN : Hid (N < w0.heap.size)) (HC : Hid (Cells w0 N [.int .i64 op, .int .i64 a, .int .i64 b])) (HX : Hid (Below w0.heap.size w0 w)) :
    Calls Try.prog 90 #[.slice (some ⟨w.heap.size, 0, none⟩) 1 1, .pointer (some ⟨N, 0, none⟩)] (w.alloc (.cells #[.int .i64 k0] 3)) (OwnFromW w0 L) := by
  have hA := HX.out.alloc HX.out.size (.cells #[.int .i64 k0] 3)
  refine (fmk_is (ks := [k0]) HL (Nat.lt_of_lt_of_le HN.out hA.size) (HC.out.keep hA HN.out) (int_one (by simp) (by go_simp)) (by simp)).mono ?_
  rintro e w' ⟨v, rfl, ho, hb⟩
  exact ⟨v, rfl, own_lower ho hA.size, hA.trans (hb.mono hA.size)⟩

theorem fmk2_is {k0 k1 op a b : Int} {N : Nat} {w0 w : World} {L : List (Int × Int)} (HL : Hid (mkOf a [k0, k1] = L)) (HN : Hid (N < w0.heap.size)) (HC : Hid (Cells w0 N [.int .i64 op, .int .i64 a, .int .i64 b])) (HX : Hid (Below w0.heap.size w0 w)) :
    Calls Try.prog 90 #[.slice (some ⟨w.heap.size, 0, none⟩) 2 2, .pointer (some ⟨N, 0, none⟩)] (w.alloc (.cells #[.int .i64 k0, .int .i64 k1] 3)) (OwnFromW w0 L) := by
  have hA := HX.out.alloc HX.out.size (.cells #[.int .i64 k0, .int .i64 k1] 3)
  refine (fmk_is (ks := [k0, k1]) HL (Nat.lt_of_lt_of_le HN.out hA.size) (HC.out.keep hA HN.out) (int_two (by simp) (by go_simp) (by go_simp)) (by simp)).mono ?_
  rintro e w' ⟨v, rfl, ho, hb⟩
  exact ⟨v, rfl, own_lower ho hA.size, hA.trans (hb.mono hA.size)⟩

theorem fmk3_is {k0 k1 k2 op a b : Int} {N : Nat} {w0 w : World} {L : List (Int × Int)} (HL : Hid (mkOf a [k0, k1, k2] = L)) (HN : Hid (N < w0.heap.size)) (HC : Hid (Cells w0 N [.int .i64 op, .int .i64 a, .int .i64 b])) (HX : Hid (Below w0.heap.size w0 w)) :
    Calls Try.prog 90 #[.slice (some ⟨w.heap.size, 0, none⟩) 3 3, .pointer (some ⟨N, 0, none⟩)] (w.alloc (.cells #[.int .i64 k0, .int .i64 k1, .int .i64 k2] 3)) (OwnFromW w0 L) := by
  have hA := HX.out.alloc HX.out.size (.cells #[.int .i64 k0, .int .i64 k1, .int .i64 k2] 3)
  refine (fmk_is (ks := [k0, k1, k2]) HL (Nat.lt_of_lt_of_le HN.out hA.size) (HC.out.keep hA HN.out) (int_three (by simp) (by go_simp) (by go_simp) (by go_simp)) (by simp)).mono ?_
  rintro e w' ⟨v, rfl, ho, hb⟩
  exact ⟨v, rfl, own_lower ho hA.size, hA.trans (hb.mono hA.size)⟩

theorem fmkd1_is {k op a b : Int} {N : Nat} {w0 : World} {L : List (Int × Int)} (HL : Hid (mkOf a [k] = L)) (HN : Hid (N < w0.heap.size)) (HC : Hid (Cells w0 N [.int .i64 op, .int .i64 a, .int .i64 b])) :
    Calls Try.prog 90 #[.slice (some ⟨w0.heap.size, 0, none⟩) 1 1, .pointer (some ⟨N, 0, none⟩)] (w0.alloc (.cells #[.int .i64 k] 3)).drew (OwnFromW w0 L) := by
  have hA := ((Below.refl w0.heap.size w0).alloc (Nat.le_refl _) (.cells #[.int .i64 k] 3)).drew
  refine (fmk_is (ks := [k]) HL (Nat.lt_of_lt_of_le HN.out hA.size) (HC.out.keep hA HN.out) (int_one (by simp) (by go_simp)) (by simp)).mono ?_
  rintro e w' ⟨v, rfl, ho, hb⟩
  exact ⟨v, rfl, own_lower ho hA.size, hA.trans (hb.mono hA.size)⟩

end Go.Proofs.Ytgpmdhdooglkfaa
