/-
  Words for the statements on names, and their fixed fact (awake): it holds.
-/
import Derived.Test.YtjgfoialajgfhaaSaneCheck
import Derived.Test.YtjgfoialajgfhaaRefSane
import Derived.Test.YtjgfoialajgfhaaSmall6
namespace Go.Proofs.Ytjgfoialajgfhaa
set_option maxRecDepth 100000
set_option linter.unusedVariables false
set_option linter.unusedSimpArgs false
open Go.ChangeShapes Go.WideShapes Go.ChangeAt Go.RowKit
set_option linter.unusedVariables false
set_option linter.unusedSimpArgs false

/-- A block known whole, of which nothing is frozen. -/
def Whole (w : World) (g : Nat) (vs : List Value) (T : TypeId) : Prop := w.heap[g]? = some (.cells vs.toArray T (0, 0))
theorem Whole.new (w : World) (vs : List Value) (T : TypeId) : Whole (w.alloc (.cells vs.toArray T)) w.heap.size vs T := heap_alloc_new _ _
theorem Whole.at_ {w : World} {N : Nat} (hN : w.heap.size = N) (vs : List Value) (T : TypeId) : Whole (w.alloc (.cells vs.toArray T)) N vs T := by
  subst hN
  exact Whole.new w vs T
theorem Whole.lt {w : World} {g : Nat} {vs : List Value} {T : TypeId} (h : Whole w g vs T) : g < w.heap.size := by
  rcases Nat.lt_or_ge g w.heap.size with x | x
  · exact x
  · unfold Whole at h; rw [Array.getElem?_eq_none x] at h; cases h
theorem Whole.keep {w w' : World} {g B : Nat} {vs : List Value} {T : TypeId} (h : Whole w g vs T) (hb : Below B w w') (hg : g < B) : Whole w' g vs T := (hb.block g hg).trans h
theorem Whole.cells {w : World} {g : Nat} {vs : List Value} {T : TypeId} (h : Whole w g vs T) : Cells w g vs := fun i v hi => by
  unfold Whole at h
  simp [World.cell?, h, hi]
theorem Whole.free {w : World} {g : Nat} {vs : List Value} {T : TypeId} (h : Whole w g vs T) (i : Nat) : w.frozen? ⟨g, i, none⟩ = false := by
  unfold Whole at h
  simp [World.frozen?, h]
theorem Whole.set {w : World} {g : Nat} {vs : List Value} {T : TypeId} (h : Whole w g vs T) (i : Nat) (v : Value) : Whole (w.setCell ⟨g, i, none⟩ v) g (vs.set i v) T := by
  have := heap_setCell_same w g i vs.toArray T v h
  unfold Whole
  rw [this]
  simp

/-- The fixed image, with one entry. -/
def awkM (n : Int) : Img := ⟨[], [], [], [⟨[], [], (5, 0), [(33, 0, 0)], 0, 0, [0]⟩], [n], 0, 0⟩
/-- An image of nothing, with a stack below 0. -/
def nilM : Img := ⟨[], [], [], [], [], -1, 0⟩
theorem awkM_fits : fitsB (awkM 1) = true := by decide
theorem awkM_yes : saneR (awkM 0) = 0 := sane_yes (by decide) (by
  simp [okB, awkM, goodsB, clsOk, methodB, codesB, namedB, retB, entryB])
theorem awkM_no : saneR (awkM 1) = 3 := sane_no (by decide) (by
  simp [okB, awkM, goodsB, clsOk, methodB, codesB, namedB, retB, entryB])
theorem nilM_not : saneR nilM = 2 := sane_not (by decide)
def awkH (N g : Nat) : Hnd := ⟨none, none, none, some ⟨N + 1 + 1, 0, none⟩, some ⟨g, 0, none⟩, 0, 0, 0, 1, 1⟩
def nilH : Hnd := ⟨none, none, none, none, none, 0, 0, 0, 0, 0⟩
theorem slc_none {α : Type} {At : AtP α} {k : Nat} {w : World} {B : Nat} : SlcIs At k w B none 0 [] := ⟨Nat.le_refl _, by omega, RowOf.nil⟩
theorem nil_in (w : World) (B : Nat) : ImgIn w B nilH nilM := ⟨slc_none, slc_none, slc_none, slc_none, slc_none⟩
/-- The world in which the fixed image stands. -/
abbrev awkW (w : World) : World :=
  ((((w.alloc (.cells #[.int .i64 33, .int .i64 0, .int .i64 0] 41)).alloc (.cells #[.int .i64 0] 3)).alloc
    (.cells #[.slice none 0 0, .slice none 0 0, .int .i64 5, .int .i64 0, .slice (some ⟨w.heap.size, 0, none⟩) 1 1, .int .i64 0, .int .i64 0, .slice (some ⟨w.heap.size + 1, 0, none⟩) 1 1] 38)).alloc
    (.cells #[.int .i64 0] 3)).alloc
    (.cells #[.slice none 0 0, .slice none 0 0, .slice none 0 0, .slice (some ⟨w.heap.size + 1 + 1, 0, none⟩) 1 1, .slice (some ⟨w.heap.size + 1 + 1 + 1, 0, none⟩) 1 1, .int .i64 0, .int .i64 0] 28)
theorem cells_step {w : World} {N : Nat} (hN : w.heap.size = N) (vs : List Value) (T : TypeId) :
    Cells (w.alloc (.cells vs.toArray T)) N vs ∧ (w.alloc (.cells vs.toArray T)).heap.size = N + 1 ∧ Below N w (w.alloc (.cells vs.toArray T)) := by
  subst hN
  exact ⟨cells_new w vs T, by simp, (Below.refl _ _).alloc (Nat.le_refl _) _⟩
theorem row_one {α : Type} {At : AtP α} {k : Nat} {w : World} {B g : Nat} {x : α} (h : At w B ⟨g, 0, none⟩ x) (hg : g < B) : RowOf At k w B (some ⟨g, 0, none⟩) [x] := fun i y hi => by
  match i, hi with
  | 0, hi =>
    simp at hi
    subst hi
    refine ⟨_, rfl, hg, ?_⟩
    rw [Nat.zero_mul, show (⟨g, 0, none⟩ : Addr).add 0 = ⟨g, 0, none⟩ by simp [Addr.add]]
    exact h
/-- What the fixed image's method stands on. -/
def AwkMth (w : World) (N : Nat) : Prop := SlcIs MthAt 8 w (N + 1 + 1 + 1) (some ⟨N + 1 + 1, 0, none⟩) 1 (awkM 0).methods
theorem awk_in {w : World} {N g : Nat} {n : Int} (h : AwkMth w N) (hc : w.cell? ⟨g, 0, none⟩ = some (.int .i64 n)) (hN : N + 1 + 1 + 1 ≤ w.heap.size) (hg : g < w.heap.size) : ImgIn w w.heap.size (awkH N g) (awkM n) :=
  ⟨slc_none, slc_none, slc_none, h.keep' MthAt.keeps hN (fun _ _ => rfl), ⟨Nat.le_refl _, by show 1 ≤ 9223372036854775807; decide, row_one hc hg⟩⟩
theorem AwkMth.keep {w w' : World} {N : Nat} (h : AwkMth w N) (hc : ∀ q : Addr, q.block < N + 1 + 1 + 1 → w'.cell? q = w.cell? q) : AwkMth w' N := SlcIs.keep' MthAt.keeps h (Nat.le_refl _) hc
theorem awk_parts (w : World) : Below w.heap.size w (awkW w) ∧ (awkW w).heap.size = w.heap.size + 1 + 1 + 1 + 1 + 1 ∧ AwkMth (awkW w) w.heap.size ∧ Cells (awkW w) (w.heap.size + 1 + 1 + 1) [.int .i64 0] ∧
    Whole (awkW w) (w.heap.size + 1 + 1 + 1 + 1) (imgL (awkH w.heap.size (w.heap.size + 1 + 1 + 1)) (awkM 0)) 28 := by
  obtain ⟨c0, z0, b0⟩ := cells_step (w := w) rfl [.int .i64 33, .int .i64 0, .int .i64 0] 41
  obtain ⟨c1, z1, b1⟩ := cells_step z0 [.int .i64 0] 3
  obtain ⟨c2, z2, b2⟩ := cells_step z1 [.slice none 0 0, .slice none 0 0, .int .i64 5, .int .i64 0, .slice (some ⟨w.heap.size, 0, none⟩) 1 1, .int .i64 0, .int .i64 0, .slice (some ⟨w.heap.size + 1, 0, none⟩) 1 1] 38
  obtain ⟨c3, z3, b3⟩ := cells_step z2 [.int .i64 0] 3
  obtain ⟨c5, z5, b5⟩ := cells_step z3 [.slice none 0 0, .slice none 0 0, .slice none 0 0, .slice (some ⟨w.heap.size + 1 + 1, 0, none⟩) 1 1, .slice (some ⟨w.heap.size + 1 + 1 + 1, 0, none⟩) 1 1, .int .i64 0, .int .i64 0] 28
  have b3' := b3.trans (b5.mono (by omega))
  have b2' := b2.trans (b3'.mono (by omega))
  have b1' := b1.trans (b2'.mono (by omega))
  have c3 := c3.keep b5 (by omega)
  have c2 := c2.keep b3' (by omega)
  have c1 := c1.keep b2' (by omega)
  have c0 := c0.keep b1' (by omega)
  have hC : SlcIs CodeAt 3 (awkW w) (w.heap.size + 1 + 1 + 1) (some ⟨w.heap.size, 0, none⟩) 1 [(33, 0, 0)] := ⟨Nat.le_refl _, by decide, row_one ⟨c0 0 _ rfl, c0 1 _ rfl, c0 2 _ rfl⟩ (by omega)⟩
  have hP : SlcIs IntAt 1 (awkW w) (w.heap.size + 1 + 1 + 1) (some ⟨w.heap.size + 1, 0, none⟩) 1 [0] := ⟨Nat.le_refl _, by decide, row_one (c1 0 _ rfl) (by omega)⟩
  have hM : MthAt (awkW w) (w.heap.size + 1 + 1 + 1) ⟨w.heap.size + 1 + 1, 0, none⟩ ⟨[], [], (5, 0), [(33, 0, 0)], 0, 0, [0]⟩ :=
    ⟨⟨none, 0, c2 0 _ rfl, slc_none⟩, ⟨none, 0, c2 1 _ rfl, slc_none⟩, c2 2 _ rfl, c2 3 _ rfl, ⟨_, 1, c2 4 _ rfl, hC⟩, c2 5 _ rfl, c2 6 _ rfl, ⟨_, 1, c2 7 _ rfl, hP⟩⟩
  exact ⟨b0.trans (b1'.mono (by omega)), z5, ⟨Nat.le_refl _, by show 1 ≤ 9223372036854775807; decide, row_one hM (by omega)⟩, c3, Whole.at_ z3 _ _⟩

section
variable {m : Img} {h : Hnd} {w0 w : World} {r : Int} {b : Bool}
theorem scheck_is (HI : Hid (ImgIn w0 w0.heap.size h m)) (HX : Hid (Below w0.heap.size w0 w)) (HR : Hid (saneR m = r)) : Calls Try.prog 8 #[imgV h m] w fun e w' => e = .returned (.int .i64 r) ∧ Below w.heap.size w w' := by
  have H := scheck_any m h w (HI.out.now HX.out)
  rw [HR.out] at H
  exact H
theorem rsane_is (HI : Hid (ImgIn w0 w0.heap.size h m)) (HX : Hid (Below w0.heap.size w0 w)) (HR : Hid (saneR m = r)) : Calls Try.prog 9 #[imgV h m] w fun e w' => e = .returned (.int .i64 r) ∧ Below w.heap.size w w' := by
  have H := rsane_any m h w (HI.out.now HX.out)
  rw [HR.out] at H
  exact H
theorem rfits_is (HI : Hid (ImgIn w0 w0.heap.size h m)) (HX : Hid (Below w0.heap.size w0 w)) (HR : Hid (fitsB m = b)) : Calls Try.prog 10 #[imgV h m] w fun e w' => e = .returned (.bool b) ∧ Below w.heap.size w w' := by
  have H := rfits_any m h w.heap.size w (Nat.le_refl _) (HI.out.now HX.out)
  rw [HR.out] at H
  exact H
theorem small_is (HI : Hid (ImgIn w0 w0.heap.size h m)) (HX : Hid (Below w0.heap.size w0 w)) : Calls Try.prog 6 #[imgV h m] w (SmallOut w) :=
  small_any m h w.heap.size w (Nat.le_refl _) (HI.out.now HX.out)
end

theorem check_nil (w : World) : Calls Try.prog 8 #[.agg #[.slice none 0 0, .slice none 0 0, .slice none 0 0, .slice none 0 0, .slice none 0 0, .int .i64 (-1), .int .i64 0]] w fun e w' => e = .returned (.int .i64 2) ∧ Below w.heap.size w w' := by
  have H := scheck_any nilM nilH w (nil_in w _)
  rw [nilM_not] at H
  exact H
set_option maxHeartbeats 1600000 in
theorem saneAwake_any (w : World) : Calls Try.prog 7 #[] w fun e w' => e = .returned (.bool true) ∧ Below w.heap.size w w' := by
  obtain ⟨hb, hz, hm, hc, hx⟩ := awk_parts w
  have HW := Lib.hid hb
  have HZ := Lib.hid hz
  have HM := Lib.hid hm
  have HQ := Lib.hid hx
  have HI : Hid (ImgIn (awkW w) (awkW w).heap.size (awkH w.heap.size (w.heap.size + 1 + 1 + 1)) (awkM 0)) := Lib.hid (awk_in hm (hc 0 _ rfl) (by omega) (by omega))
  have HYES := Lib.hid awkM_yes
  have HNO := Lib.hid awkM_no
  have HFIT := Lib.hid awkM_fits
  clear hb hz hm hc hx
  go_enter Try.func7, Try.ntmps7
  go_upto_region 2 with fail
  change Code.wp _ _ _ _ (awkW w)
  generalize awkW w = w1 at *
  obtain ⟨N, hN⟩ : ∃ N, w.heap.size = N := ⟨_, rfl⟩
  have HNN := Lib.hid hN
  simp only [hN] at HZ HM HQ HI ⊢
  clear hN
  have q0 := HQ.out.cells 0 _ rfl
  have q1 := HQ.out.cells 1 _ rfl
  have q2 := HQ.out.cells 2 _ rfl
  have q3 := HQ.out.cells 3 _ rfl
  have q4 := HQ.out.cells 4 _ rfl
  have q5 := HQ.out.cells 5 _ rfl
  have q6 := HQ.out.cells 6 _ rfl
  have HX : Hid (Below w1.heap.size w1 w1) := Lib.hid (Below.refl _ _)
  go_upto_region 3 with (go_at_call 8; (with_reducible refine (scheck_is HI HX HYES).mono ?_); rintro e w2 ⟨rfl, hb⟩; have HX2 := Lib.hid hb; clear hb)
  have HQ2 := Lib.hid (HQ.out.keep HX2.out (by have := HZ.out; omega))
  clear q0 q1 q2 q3 q4 q5 q6
  have q0 := HQ2.out.cells 0 _ rfl
  have q1 := HQ2.out.cells 1 _ rfl
  have q2 := HQ2.out.cells 2 _ rfl
  have q3 := HQ2.out.cells 3 _ rfl
  have q4 := HQ2.out.cells 4 _ rfl
  have q5 := HQ2.out.cells 5 _ rfl
  have q6 := HQ2.out.cells 6 _ rfl
  have fr := HQ2.out.free 4
  have hlt2 := HQ2.out.lt
  go_upto_region 4 with fail
  have hb3 : Below (N + 1 + 1 + 1 + 1) w2 ((w2.setCell ⟨N + 1 + 1 + 1 + 1, 4, none⟩ (.slice (some ⟨w2.heap.size, 0, none⟩) 1 1)).alloc (.cells #[.int .i64 1] 3)) :=
    Below.alloc (Below.setCell (Below.refl (N + 1 + 1 + 1 + 1) w2) (p := ⟨N + 1 + 1 + 1 + 1, 4, none⟩) (Nat.le_refl _) (.slice (some ⟨w2.heap.size, 0, none⟩) 1 1)) (by simp; omega) _
  have hw3 : Whole ((w2.setCell ⟨N + 1 + 1 + 1 + 1, 4, none⟩ (.slice (some ⟨w2.heap.size, 0, none⟩) 1 1)).alloc (.cells #[.int .i64 1] 3)) (N + 1 + 1 + 1 + 1) (imgL (awkH N w2.heap.size) (awkM 1)) 28 :=
    Whole.keep (HQ2.out.set 4 _) ((Below.refl w2.heap.size _).alloc (by simp) _) hlt2
  have hi3 : ImgIn ((w2.setCell ⟨N + 1 + 1 + 1 + 1, 4, none⟩ (.slice (some ⟨w2.heap.size, 0, none⟩) 1 1)).alloc (.cells #[.int .i64 1] 3)) ((w2.setCell ⟨N + 1 + 1 + 1 + 1, 4, none⟩ (.slice (some ⟨w2.heap.size, 0, none⟩) 1 1)).alloc (.cells #[.int .i64 1] 3)).heap.size (awkH N w2.heap.size) (awkM 1) :=
    awk_in ((HM.out.keep (w' := w2) fun q hq => (HX2.out.cell (p := q) (by have := HZ.out; omega))).keep fun q hq => hb3.cell (p := q) (by omega))
      (by
        have := cells_new (w2.setCell ⟨N + 1 + 1 + 1 + 1, 4, none⟩ (.slice (some ⟨w2.heap.size, 0, none⟩) 1 1)) [.int .i64 1] 3 0 _ rfl
        simpa using this) (by simp; omega) (by simp)
  have hx3 : Below w.heap.size w2 ((w2.setCell ⟨N + 1 + 1 + 1 + 1, 4, none⟩ (.slice (some ⟨w2.heap.size, 0, none⟩) 1 1)).alloc (.cells #[.int .i64 1] 3)) := hb3.mono (by have := HNN.out; omega)
  have HW3 := Lib.hid (HW.out.trans ((HX2.out.mono HW.out.size).trans hx3))
  have HQ3 := Lib.hid hw3
  have HI3 := Lib.hid hi3
  clear hb3 hw3 hi3 hx3 hlt2 fr q0 q1 q2 q3 q4 q5 q6 HX HX2 HQ HQ2 HI HYES HM
  generalize (w2.setCell ⟨N + 1 + 1 + 1 + 1, 4, none⟩ (.slice (some ⟨w2.heap.size, 0, none⟩) 1 1)).alloc (.cells #[.int .i64 1] 3) = w3 at *
  generalize awkH N w2.heap.size = h3 at *
  generalize awkM 1 = m3 at *
  have HX3 : Hid (Below w3.heap.size w3 w3) := Lib.hid (Below.refl _ _)
  have q0 := HQ3.out.cells 0 _ rfl
  have q1 := HQ3.out.cells 1 _ rfl
  have q2 := HQ3.out.cells 2 _ rfl
  have q3 := HQ3.out.cells 3 _ rfl
  have q4 := HQ3.out.cells 4 _ rfl
  have q5 := HQ3.out.cells 5 _ rfl
  have q6 := HQ3.out.cells 6 _ rfl
  go_wp2_with (first
    | (go_at_call 8; (with_reducible refine (scheck_is HI3 HX3 HNO).mono ?_); rintro e w7 ⟨rfl, hb⟩; have HX3 := Lib.hid (HX3.out.trans (hb.mono HX3.out.size)); have HQ3 := Lib.hid (HQ3.out.keep hb HQ3.out.lt); have q0 := HQ3.out.cells 0 _ rfl; have q1 := HQ3.out.cells 1 _ rfl; have q2 := HQ3.out.cells 2 _ rfl; have q3 := HQ3.out.cells 3 _ rfl; have q4 := HQ3.out.cells 4 _ rfl; have q5 := HQ3.out.cells 5 _ rfl; have q6 := HQ3.out.cells 6 _ rfl; clear hb)
    | (go_at_call 8; (with_reducible refine (check_nil _).mono ?_); rintro e w7 ⟨rfl, hb⟩; have HX3 := Lib.hid (HX3.out.trans (hb.mono HX3.out.size)); have HQ3 := Lib.hid (HQ3.out.keep hb HQ3.out.lt); have q0 := HQ3.out.cells 0 _ rfl; have q1 := HQ3.out.cells 1 _ rfl; have q2 := HQ3.out.cells 2 _ rfl; have q3 := HQ3.out.cells 3 _ rfl; have q4 := HQ3.out.cells 4 _ rfl; have q5 := HQ3.out.cells 5 _ rfl; have q6 := HQ3.out.cells 6 _ rfl; clear hb)
    | (go_at_call 10; (with_reducible refine (rfits_is HI3 HX3 HFIT).mono ?_); rintro e w7 ⟨rfl, hb⟩; have HX3 := Lib.hid (HX3.out.trans (hb.mono HX3.out.size)); have HQ3 := Lib.hid (HQ3.out.keep hb HQ3.out.lt); have q0 := HQ3.out.cells 0 _ rfl; have q1 := HQ3.out.cells 1 _ rfl; have q2 := HQ3.out.cells 2 _ rfl; have q3 := HQ3.out.cells 3 _ rfl; have q4 := HQ3.out.cells 4 _ rfl; have q5 := HQ3.out.cells 5 _ rfl; have q6 := HQ3.out.cells 6 _ rfl; clear hb))
  go_ret
  exact ⟨rfl, HW3.out.trans (HX3.out.mono HW3.out.size)⟩
end Go.Proofs.Ytjgfoialajgfhaa
