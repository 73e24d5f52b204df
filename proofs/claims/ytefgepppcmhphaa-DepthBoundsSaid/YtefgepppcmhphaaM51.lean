/-
  The statement on how many cells methods take (DepthBounds), walked: it answers true at any image.
  What an argument that came in reads as: types by value, slices of classes. Plain lemmas; the conditions stand in each.
  What rows that came in read as. Plain lemmas; no conditions.
  What an image that came in reads as: its classes, methods and all else, where they stand. Plain lemmas; no conditions.
-/
import Derived.Test.YtefgepppcmhphaaM50
import Derived.IntWalk
import Derived.RegionTactic
import Derived.ChangeAlike
import Derived.Deep.RegionHeld3
import Derived.Deep.QuietTactic
import Derived.BigQuiet
import Derived.Test.YtefgepppcmhphaaM01
import Derived.Test.YtefgepppcmhphaaRows
import Derived.ProofKit
import Derived.OpenShut
import Derived.Deep.Slices
import Derived.Deep.Fields
import Derived.ChangeSame
import Derived.Lib.SmallJoins
namespace Go.Proofs.Ytefgepppcmhphaa
set_option maxRecDepth 100000
set_option linter.unusedVariables false
set_option linter.unusedSimpArgs false
open Go.ChangeShapes Go.WideShapes Go.ChangeAt Go.RowKit
set_option linter.unusedVariables false
set_option linter.unusedSimpArgs false

set_option maxHeartbeats 12800000 in
theorem depthBounds_any (m : Img) (h : Hnd) (w : World) (H : ImgIn w w.heap.size h m) :
    Calls Try.prog 3 #[imgV h m] w fun e w' => e = .returned (.bool true) ∧ Below w.heap.size w w' := by
  have HW := Lib.hid (below_box (w := w) (h := h) (m := m))
  have HBX := Lib.hid (img_box w h m)
  have HZ : Hid (w.heap.size < (w.alloc (imgO h m)).heap.size) := Lib.hid (by simp)
  have HI := Lib.hid (H.now HW.out)
  obtain ⟨r, hr⟩ : ∃ r, saneB8 m = r := ⟨_, rfl⟩
  have HR := Lib.hid hr
  have hle := H.methods.le
  have hcap := H.methods.cap
  clear H hr
  go_enter Try.func3, Try.ntmps3
  go_upto_region 1 with fail
  generalize w.alloc (imgO h m) = w1 at *
  obtain ⟨q0, q1, q2, q3, q4, q5, q6⟩ := HBX.out
  have HX : Hid (Below w1.heap.size w1 w1) := Lib.hid (Below.refl _ _)
  cases r
  · go_wp2_with (first | (go_at_call 6; (with_reducible refine (sane13_is HI HX HR).mono ?_); rintro e w7 ⟨rfl, hb⟩; have HX := Lib.hid (HX.out.trans (hb.mono HX.out.size)); clear hb; obtain ⟨q0, q1, q2, q3, q4, q5, q6⟩ := HBX.out.keep HX.out HZ.out) | (go_at_call 7; (with_reducible refine (depthAwake_any _).mono ?_); rintro e w7 ⟨rfl, hb⟩; have HX := Lib.hid (HX.out.trans (hb.mono HX.out.size)); clear hb; obtain ⟨q0, q1, q2, q3, q4, q5, q6⟩ := HBX.out.keep HX.out HZ.out))
    go_ret
    exact ⟨by first | rfl | simp, HW.out.trans (HX.out.mono (Nat.le_of_lt HZ.out))⟩
  have HM := Lib.hid (saneB8_yes HR.out)
  have hml := (saneB8_parts HR.out).1
  go_upto_region 4 with (first | (go_at_call 6; (with_reducible refine (sane13_is HI HX HR).mono ?_); rintro e w7 ⟨rfl, hb⟩; have HX := Lib.hid (HX.out.trans (hb.mono HX.out.size)); clear hb; obtain ⟨q0, q1, q2, q3, q4, q5, q6⟩ := HBX.out.keep HX.out HZ.out) | (go_at_call 8; (with_reducible refine (rall13_is HI HX HM).mono ?_); rintro e w7 ⟨Al, nl, cl, bd, rfl, hb, hyes⟩; have HX := Lib.hid (HX.out.trans (hb.mono HX.out.size)); have HYES := Lib.hid hyes; clear hyes; clear hb; obtain ⟨q0, q1, q2, q3, q4, q5, q6⟩ := HBX.out.keep HX.out HZ.out))
  by_cases hbd : bd < 0
  rotate_left
  · have hge : bd ≥ 0 := by omega
    go_wp2_with (first | (go_at_call 7; (with_reducible refine (depthAwake_any _).mono ?_); rintro e w7 ⟨rfl, hb⟩; have HX := Lib.hid (HX.out.trans (hb.mono HX.out.size)); clear hb; obtain ⟨q0, q1, q2, q3, q4, q5, q6⟩ := HBX.out.keep HX.out HZ.out))
    go_ret
    exact ⟨by first | rfl | simp, HW.out.trans (HX.out.mono (Nat.le_of_lt HZ.out))⟩
  have hge : ¬ bd ≥ 0 := by omega
  obtain ⟨l, hnl, hls⟩ := HYES.out hbd
  have HL := Lib.hid hls
  subst hnl
  clear HYES hls hbd
  obtain ⟨rb, hrb⟩ : ∃ r, ringsB m = r := ⟨_, rfl⟩
  have HRB := Lib.hid hrb
  clear hrb
  obtain ⟨BO, hBO⟩ : ∃ B, boundsOf m l = B := ⟨_, rfl⟩
  have HBO := Lib.hid hBO
  have HBL : Hid (BO.length = m.methods.length) := Lib.hid (by rw [← hBO]; exact bounds_len m l)
  clear hBO
  cases rb
  · go_wp2_with (first | (go_at_call 9; (with_reducible refine (dbound_no HI HX HR HL HRB).mono ?_); rintro e w8 ⟨A8, c8, rfl, hb⟩; have HX := Lib.hid (HX.out.trans (hb.mono HX.out.size)); have HL := Lib.hid (HL.out.up hb); clear hb; obtain ⟨q0, q1, q2, q3, q4, q5, q6⟩ := HBX.out.keep HX.out HZ.out) | (go_at_call 10; (with_reducible refine (rbound_no HI HX HR HL HRB).mono ?_); rintro e w9 ⟨A9, n9, c9, rfl, hb⟩; have HX := Lib.hid (HX.out.trans (hb.mono HX.out.size)); have HL := Lib.hid (HL.out.up hb); clear hb; obtain ⟨q0, q1, q2, q3, q4, q5, q6⟩ := HBX.out.keep HX.out HZ.out) | (go_at_call 7; (with_reducible refine (depthAwake_any _).mono ?_); rintro e w7 ⟨rfl, hb⟩; have HX := Lib.hid (HX.out.trans (hb.mono HX.out.size)); clear hb; obtain ⟨q0, q1, q2, q3, q4, q5, q6⟩ := HBX.out.keep HX.out HZ.out))
    go_ret
    exact ⟨by first | rfl | simp, HW.out.trans (HX.out.mono (Nat.le_of_lt HZ.out))⟩
  go_upto_region 10 with (first | (go_at_call 9; (with_reducible refine (dbound_yes HI HX HR HL HRB HBO).mono ?_); rintro e w8 ⟨A8, c8, rfl, hb, hs⟩; have HX := Lib.hid (HX.out.trans (hb.mono HX.out.size)); have HL := Lib.hid (HL.out.up hb); have HA := Lib.hid hs; clear hs; clear hb; obtain ⟨q0, q1, q2, q3, q4, q5, q6⟩ := HBX.out.keep HX.out HZ.out) | (go_at_call 10; (with_reducible refine (rbound_yes HI HX HR HL HRB HBO).mono ?_); rintro e w9 ⟨A9, c9, rfl, hb, hs⟩; have HX := Lib.hid (HX.out.trans (hb.mono HX.out.size)); have HL := Lib.hid (HL.out.up hb); have HA := Lib.hid (cslcUp IntAt.keeps HA.out hb); have HB := Lib.hid hs; clear hs; clear hb; obtain ⟨q0, q1, q2, q3, q4, q5, q6⟩ := HBX.out.keep HX.out HZ.out))
  have HY : Hid (Below w9.heap.size w9 w9) := Lib.hid (Below.refl _ _)
  clear q0 q1 q2 q3 q4 q5 q6
  go_wp2_with fail
  go_loopw [9] (fun i wr => ∃ z : Int, -1 ≤ z ∧ z ≤ m.methods.length + 1 ∧ i = .int .i64 z ∧ Hid (Below w1.heap.size w1 wr) ∧ Hid (Below w9.heap.size w9 wr)) (fun i _ => (m.methods.length + 1 - intOf i).toNat)
  case atStart => exact ⟨-1, by omega, by omega, rfl, HX, HY⟩
  case round =>
    clear HX HY
    obtain ⟨z, hz0, hz1, rfl, HX, HY⟩ := hrel
    obtain ⟨q0, q1, q2, q3, q4, q5, q6⟩ := HBX.out.keep HX.out HZ.out
    by_cases hzl : z ≤ m.methods.length
    · obtain ⟨FR, hFR⟩ : ∃ F, frameOf m l z = F := ⟨_, rfl⟩
      have HFR := Lib.hid hFR
      clear hFR
      have HXD : Hid (Below w1.heap.size w1 wr.drew) := Lib.hid HX.out.drew
      have HYD : Hid (Below w9.heap.size w9 wr.drew) := Lib.hid HY.out.drew
      go_upto_region 13 with fail
      clear q0 q1 q2 q3 q4 q5 q6
      go_region_held3 (fun w' => w'.cell? ⟨w.heap.size, 0, none⟩ = some (.slice h.A0 m.classes.length h.c0) ∧ w'.cell? ⟨w.heap.size, 1, none⟩ = some (.slice h.A1 m.statics.length h.c1) ∧ w'.cell? ⟨w.heap.size, 2, none⟩ = some (.slice h.A2 m.ints.length h.c2) ∧ w'.cell? ⟨w.heap.size, 3, none⟩ = some (.slice h.A3 m.methods.length h.c3) ∧ w'.cell? ⟨w.heap.size, 4, none⟩ = some (.slice h.A4 m.entries.length h.c4) ∧ w'.cell? ⟨w.heap.size, 5, none⟩ = some (.int .i64 m.stack) ∧ w'.cell? ⟨w.heap.size, 6, none⟩ = some (.int .i64 m.heap)) (first | exact HBX.out.keep HXD.out HZ.out | exact HBX.out.keep HX10.out HZ.out | exact HBX.out.keep HX11.out HZ.out) (first
        | (go_at_call 11; (with_reducible refine (dframe_is HI HXD HR (Lib.hid (HL.out.up HYD.out)) HFR).mono ?_); rintro e w10 ⟨rfl, hb⟩; have HX10 := Lib.hid (HXD.out.trans (hb.mono HXD.out.size)); have HY10 := Lib.hid (HYD.out.trans (hb.mono HYD.out.size)); clear hb)
        | (go_at_call 12; (with_reducible refine (rframe13_is HI HX10 HR (Lib.hid (HL.out.up HY10.out)) HFR).mono ?_); rintro e w11 ⟨rfl, hb⟩; have HX11 := Lib.hid (HX10.out.trans (hb.mono HX10.out.size)); have HY11 := Lib.hid (HY10.out.trans (hb.mono HY10.out.size)); clear hb))
      rename_i hHeld
      clear hHeld
      go_wp2_with fail
      go_roundw
      case rel => exact ⟨z + 1, by omega, by omega, by go_num, HX11, HY11⟩
      case measure => simp [intOf]; omega
    · have hzi : ¬ z ≤ (m.methods.length : Int) := hzl
      have HA := Lib.hid (cslcUp IntAt.keeps HA.out HY.out)
      have HB := Lib.hid (cslcUp IntAt.keeps HB.out HY.out)
      go_wp2_with (first | (go_at_call 7; (with_reducible refine (depthAwake_any _).mono ?_); rintro e wk ⟨rfl, hb⟩; have HX := Lib.hid (HX.out.trans (hb.mono HX.out.size)); have HA := Lib.hid (cslcUp IntAt.keeps HA.out hb); have HB := Lib.hid (cslcUp IntAt.keeps HB.out hb); clear hb; obtain ⟨q0, q1, q2, q3, q4, q5, q6⟩ := HBX.out.keep HX.out HZ.out) | (go_at_call 13; (with_reducible refine (cints_same HA HB (Lib.hid ⟨HBL.out, HBL.out⟩)).mono ?_); rintro e w11 ⟨rfl, hb⟩; have HX := Lib.hid (HX.out.trans (hb.mono HX.out.size)); clear hb))
      go_ret
      exact ⟨by first | rfl | simp, HW.out.trans (HX.out.mono (Nat.le_of_lt HZ.out))⟩
end Go.Proofs.Ytefgepppcmhphaa
namespace Go.Proofs.Ytefgepppcmhphaa
set_option maxRecDepth 100000
set_option linter.unusedVariables false
set_option linter.unusedSimpArgs false
open Go.ChangeShapes Go.WideShapes Go.Deep Go.Joins Go.RowKit

/-- Values one by one make a list. -/
theorem gather {α : Type} {R : Nat → α → Prop} (n : Nat) (h : ∀ i, i < n → ∃ s, R i s) : ∃ l : List α, l.length = n ∧ ∀ i s, l[i]? = some s → R i s := by
  induction n with
  | zero => exact ⟨[], rfl, by simp⟩
  | succ n ih =>
    obtain ⟨l, hl, hr⟩ := ih fun i hi => h i (by omega)
    obtain ⟨s, hs⟩ := h n (by omega)
    refine ⟨l ++ [s], by simp [hl], fun i t ht => ?_⟩
    rcases Nat.lt_or_ge i l.length with hlt | hge
    · rw [List.getElem?_append_left hlt] at ht
      exact hr i t ht
    · rw [List.getElem?_append_right hge] at ht
      have hi : i - l.length = 0 := by
        rcases Nat.eq_zero_or_pos (i - l.length) with h0 | h0
        · exact h0
        · rw [List.getElem?_eq_none (by simp; omega)] at ht
          cases ht
      rw [hi] at ht
      have hin : i = n := by omega
      subst hin
      simp at ht
      subst ht
      exact hs

section
variable {H : Type} {enc : TypeId × Value → H} {P : Program} {w : World} {base : Nat} {held : Bool}
/-- A slice of structs of three one-cell fields, the first one an int: those ints, where they stand. -/
theorem open_supers {t e : TypeId} {f0 f1 f2 : Field} {A : Option Addr} {len cap : Nat} {d : DataW H} {p : List MemPlace} (ht : P.underlying t = some (.slice e)) (he : P.underlying e = some (.struct #[f0, f1, f2]))
    (hone : oneCellFields P #[f0, f1, f2] = true) (hC : P.cellsOf e = 3) (hti : P.underlying f0.type = some (.int .i64)) (h : DataW.Trod enc P w base (fun _ => true) held t (.slice A len cap) d p) :
    ∃ sup : List Int, sup.length = len ∧ Supers w w.heap.size A sup ∧ len ≤ cap ∧ cap ≤ 9223372036854775807 := by
  obtain ⟨fuel, hf⟩ := h
  rcases open_slice ht hf with ⟨hcs, _⟩ | ⟨a, l, c, m, n, D, Pl, hcs, _, hl, hm, hmm, _, hi⟩
  · simp [Value.cells] at hcs
    obtain ⟨rfl, rfl, rfl⟩ := hcs
    exact ⟨[], rfl, fun i s hs => by simp at hs, Nat.le_refl _, by omega⟩
  · simp [Value.cells] at hcs
    obtain ⟨rfl, rfl, rfl⟩ := hcs
    simp only [if_true] at hmm
    subst hmm
    obtain ⟨sup, hsl, hs⟩ := gather (R := fun i s => w.cell? (a.add (i * 3)) = some (.int .i64 s)) len fun i hil => by
      obtain ⟨cs', hc, ht'⟩ := hi i (by omega)
      rw [hC] at hc
      obtain ⟨_, hcl, hat⟩ := World.cells?_some hc
      obtain ⟨ys, n', _, _, _, _, hfs⟩ := DataW.trod_struct he ht'
      have h0 := hfs 0 f0 rfl
      obtain ⟨ho, hk⟩ := hone_of hone 0 f0 rfl
      rw [ho, hk, List.drop_zero] at h0
      have hys : ys[0]? = some (ys[0]'(by simp_all)) := List.getElem?_eq_getElem _
      obtain ⟨s, hs, _⟩ := DataW.trod_int hti (h0.trans hys)
      refine ⟨s, ?_⟩
      have h1 := hat 0 (by decide)
      have e1 : cs'[0]? = some (.int .i64 s) := by
        have := congrArg (fun l => l[0]?) hs
        simpa using this
      rw [← e1, ← h1, addr_add_add]
      rfl
    refine ⟨sup, hsl, fun i s hi => ?_, hl, by unfold maxLen at hm; omega⟩
    have hc := hs i s hi
    refine ⟨a, rfl, ?_, hc⟩
    have := World.block_lt_of_cell? w _ hc
    rwa [addr_add_block] at this

/-- A slice of integers: them, where they stand. -/
theorem open_row {t e : TypeId} {k : IntKind} {A : Option Addr} {len cap : Nat} {d : DataW H} {p : List MemPlace} (ht : P.underlying t = some (.slice e)) (he : P.underlying e = some (.int k)) (hC : P.cellsOf e = 1)
    (h : DataW.Trod enc P w base (fun _ => true) held t (.slice A len cap) d p) :
    ∃ z : List Int, z.length = len ∧ Lies w w.heap.size A (z.map (Value.int k)) ∧ (∀ n ∈ z, (Lit.int k n).wf = true) ∧ z.length ≤ cap ∧ cap ≤ 9223372036854775807 ∧ (A = none → cap = 0) := by
  obtain ⟨fuel, hf⟩ := h
  rcases open_ints ht he hC hf with ⟨hcs, _⟩ | ⟨x, l, c, zs, hcs, _, hl, hm, hz, _, hcell, hwz⟩
  · simp [Value.cells] at hcs
    obtain ⟨rfl, rfl, rfl⟩ := hcs
    exact ⟨[], rfl, Lies.nil, by simp, Nat.le_refl _, by omega, fun _ => rfl⟩
  · simp [Value.cells] at hcs
    obtain ⟨rfl, rfl, rfl⟩ := hcs
    have hzl : zs.length = cap := by simpa using hz
    refine ⟨zs.take len, by rw [List.length_take]; omega, fun j u hj => ?_, fun n hn => hwz n (List.mem_of_mem_take hn), by rw [List.length_take]; omega, by unfold maxLen at hm; omega, fun h => by cases h⟩
    rw [List.getElem?_map, List.getElem?_take] at hj
    split at hj
    · rename_i hjl
      have hjz : j < zs.length := by omega
      rw [List.getElem?_eq_getElem hjz] at hj
      simp at hj
      subst hj
      have hc := hcell j hjz
      refine ⟨x, rfl, ?_, ?_⟩
      · have := World.block_lt_of_cell? w _ hc
        rwa [addr_add_block] at this
      · rw [hc]
        simp [List.getElem?_eq_getElem hjz]
    · simp at hj

/-- A type by value: its kind and its number. -/
theorem open_type {r : Reach} {b0 : Nat} {t : TypeId} {f0 f1 : Field} {v : Value} {d : DataW H} {p : List MemPlace} {spare : Nat → Bool} (hs : P.underlying t = some (.struct #[f0, f1])) (hone : oneCellFields P #[f0, f1] = true) (hC : P.cellsOf t = 2)
    (h0 : P.underlying f0.type = some (.int .i64)) (h1 : P.underlying f1.type = some (.int .i64)) (hv : Value.okWide P w r b0 t v) (h : DataW.Trod enc P w base spare held t v d p) :
    ∃ k n : Int, v = tyV k n ∧ (Lit.int .i64 k).wf = true ∧ (Lit.int .i64 n).wf = true := by
  obtain ⟨v0, v1, y0, y1, m, rfl, _, _, t0, t1⟩ := open_agg2 hs hone hC hv h
  obtain ⟨k, e0, _, w0⟩ := DataW.trod_int h0 t0
  obtain ⟨n, e1, _, w1⟩ := DataW.trod_int h1 t1
  simp at e0 e1
  subst e0 e1
  exact ⟨k, n, rfl, w0, w1⟩
end

theorem wf_u8 {a : Int} (h : (Lit.int .u8 a).wf = true) : 0 ≤ a ∧ a ≤ 255 := by
  simpa [Lit.wf, IntKind.min, IntKind.max, IntKind.signed, IntKind.bits] using h
theorem wf_u16 {a : Int} (h : (Lit.int .u16 a).wf = true) : 0 ≤ a ∧ a ≤ 65535 := by
  simpa [Lit.wf, IntKind.min, IntKind.max, IntKind.signed, IntKind.bits] using h
theorem wf_u32 {a : Int} (h : (Lit.int .u32 a).wf = true) : 0 ≤ a ∧ a ≤ 4294967295 := by
  simpa [Lit.wf, IntKind.min, IntKind.max, IntKind.signed, IntKind.bits] using h
theorem wf_i32 {a : Int} (h : (Lit.int .i32 a).wf = true) : -2147483648 ≤ a ∧ a ≤ 2147483647 := by
  simpa [Lit.wf, IntKind.min, IntKind.max, IntKind.signed, IntKind.bits] using h
theorem wf_i64 {a : Int} (h : (Lit.int .i64 a).wf = true) : -9223372036854775808 ≤ a ∧ a ≤ 9223372036854775807 := by
  simpa [Lit.wf, IntKind.min, IntKind.max, IntKind.signed, IntKind.bits] using h
end Go.Proofs.Ytefgepppcmhphaa
namespace Go.Proofs.Ytefgepppcmhphaa
set_option maxRecDepth 100000
set_option linter.unusedVariables false
set_option linter.unusedSimpArgs false
open Go.ChangeShapes Go.WideShapes Go.Deep Go.Joins Go.RowKit
set_option linter.unusedVariables false

theorem add_0 (p : Addr) : p.add 0 = p := by simp [Addr.add]
theorem add_off {n : Nat} (p : Addr) (h : 0 < n) : p.add n = off_ p n := by
  unfold Addr.add off_
  rw [if_neg (by omega)]
section
variable {α H : Type} {enc : TypeId × Value → H} {P : Program} {w : World} {base : Nat} {held : Bool} {spare : Nat → Bool}
/-- What cells of a type read as. -/
def Opens (enc : TypeId × Value → H) (P : Program) (w : World) (base : Nat) (spare : Nat → Bool) (held : Bool) (e : TypeId) (k : Nat) (At : AtP α) : Prop :=
  ∀ (n : Nat) (cs : List Value) (y : DataW H × List MemPlace) (p : Addr), (∀ j u, cs[j]? = some u → w.cell? (p.add j) = some u) → DataW.trod enc P w base spare held n e cs = some y → cs.length = k → ∃ x : α, At w w.heap.size p x

/-- A slice's one cell: the things that it holds, where they stand. -/
theorem open_rowOf {t e : TypeId} {k fuel : Nat} {cs : List Value} {x : DataW H × List MemPlace} {At : AtP α} (ht : P.underlying t = some (.slice e)) (hC : P.cellsOf e = k) (hk : 0 < k) (hO : Opens enc P w base spare held e k At)
    (h : DataW.trod enc P w base spare held fuel t cs = some x) : ∃ A cap l, cs = [.slice A l.length cap] ∧ SlcIs At k w w.heap.size A cap l ∧ (A = none → cap = 0) := by
  rcases open_slice ht h with ⟨hcs, _⟩ | ⟨a, len, cap, m, n, D, Pl, hcs, _, hl, hm, hmm, _, hi⟩
  · exact ⟨none, 0, [], hcs, ⟨Nat.le_refl _, by omega, RowOf.nil⟩, fun _ => rfl⟩
  · have hml : len ≤ m := by rw [hmm]; split <;> omega
    obtain ⟨l, hLl, hL⟩ := gather (R := fun i (x : α) => At w w.heap.size (a.add (i * k)) x ∧ a.block < w.heap.size) len fun i hil => by
      obtain ⟨cs', hc, ht'⟩ := hi i (by omega)
      rw [hC] at hc
      obtain ⟨_, hcl, hat⟩ := World.cells?_some hc
      have hat' : ∀ j u, cs'[j]? = some u → w.cell? ((a.add (i * k)).add j) = some u := fun j u hu => by
        have hj : j < k := by
          rcases Nat.lt_or_ge j k with g | g
          · exact g
          · rw [List.getElem?_eq_none (by omega)] at hu; cases hu
        exact (hat j hj).trans hu
      obtain ⟨x, hx⟩ := hO n cs' _ (a.add (i * k)) hat' ht' hcl
      refine ⟨x, hx, ?_⟩
      have h0 := hat' 0 (cs'[0]'(by omega)) (List.getElem?_eq_getElem (by omega))
      have := World.block_lt_of_cell? w _ h0
      rwa [addr_add_block, addr_add_block] at this
    refine ⟨some a, cap, l, by rw [hLl]; exact hcs, ⟨by omega, by unfold maxLen at hm; omega, fun i x hx => ?_⟩, fun h => by cases h⟩
    exact ⟨a, rfl, (hL i x hx).2, (hL i x hx).1⟩
end

section
variable {H : Type} {enc : TypeId × Value → H} {w : World} {base : Nat} {held : Bool} {spare : Nat → Bool}
theorem cells_int : Try.prog.cellsOf 3 = 1 := by kernel_rfl
theorem cells_ints : Try.prog.cellsOf 26 = 1 := by kernel_rfl
section
variable {α β : Type} {k : Nat} {At : AtP α}
/-- A field of one int. -/
theorem fld_int {n : Nat} {cs : List Value} {y : DataW H × List MemPlace} (h : DataW.trod enc Try.prog w base spare held n 3 cs = some y) : ∃ v : Int, cs = [.int .i64 v] := by
  obtain ⟨v, rfl, _, _⟩ := DataW.trod_int Try.underlying3 h
  exact ⟨v, rfl⟩
theorem fld_intR {n : Nat} {cs : List Value} {y : DataW H × List MemPlace} (h : DataW.trod enc Try.prog w base spare held n 3 cs = some y) : ∃ v : Int, cs = [.int .i64 v] ∧ -9223372036854775808 ≤ v ∧ v ≤ 9223372036854775807 := by
  obtain ⟨v, rfl, _, hw⟩ := DataW.trod_int Try.underlying3 h
  exact ⟨v, rfl, (wf_i64 hw).1, (wf_i64 hw).2⟩
theorem some_of {γ : Type} {xs : List γ} {i n : Nat} {o : Option γ} (h : o = xs[i]?) (hl : xs.length = n) (hi : i < n) : ∃ y, o = some y := ⟨_, h.trans (List.getElem?_eq_getElem (by omega))⟩
end
theorem opens_int : Opens enc Try.prog w base spare held 3 1 IntAt := fun n cs y p hc h _ => by
  obtain ⟨v, rfl⟩ := fld_int h
  exact ⟨v, by have := hc 0 _ rfl; rwa [add_0] at this⟩
theorem slc_ints {n : Nat} {cs : List Value} {y : DataW H × List MemPlace} (h : DataW.trod enc Try.prog w base spare held n 26 cs = some y) : ∃ A cap l, cs = [.slice A l.length cap] ∧ SlcIs IntAt 1 w w.heap.size A cap l ∧ (A = none → cap = 0) :=
  open_rowOf Try.underlying26 cells_int (by decide) opens_int h
end
end Go.Proofs.Ytefgepppcmhphaa
namespace Go.Proofs.Ytefgepppcmhphaa
set_option maxRecDepth 100000
set_option linter.unusedVariables false
set_option linter.unusedSimpArgs false
open Go.ChangeShapes Go.WideShapes Go.Deep Go.Joins Go.RowKit
set_option linter.unusedVariables false

section
variable {H : Type} {enc : TypeId × Value → H} {w : World} {base : Nat} {held : Bool} {spare : Nat → Bool}
theorem cells_type : Try.prog.cellsOf 49 = 2 := by kernel_rfl
theorem cells_types : Try.prog.cellsOf 23 = 1 := by kernel_rfl
theorem opens_long : Opens enc Try.prog w base spare held 21 1 LongAt := fun n cs y p hc h _ => by
  obtain ⟨v, rfl, _, hw⟩ := DataW.trod_int Try.underlying21 h
  exact ⟨v, by have := hc 0 _ rfl; rwa [add_0] at this, (wf_i32 hw).1, (wf_i32 hw).2⟩
theorem opens_type : Opens enc Try.prog w base spare held 49 2 TyAt := fun n cs y p hc h hl => by
  obtain ⟨xs, m, _, _, _, hx, hf⟩ := DataW.trod_struct Try.underlying49 h
  match cs, hl with
  | [c0, c1], _ =>
    obtain ⟨y0, g0⟩ := some_of (hf 0 _ rfl) hx (by decide)
    change DataW.trod enc Try.prog w base spare held m 3 (List.take (Try.prog.cellsOf 3) (List.drop 0 _)) = _ at g0
    obtain ⟨y1, g1⟩ := some_of (hf 1 _ rfl) hx (by decide)
    change DataW.trod enc Try.prog w base spare held m 3 (List.take (Try.prog.cellsOf 3) (List.drop 1 _)) = _ at g1
    rw [cells_int] at g0 g1
    obtain ⟨v0, e0⟩ := fld_int g0
    obtain ⟨v1, e1⟩ := fld_int g1
    simp at e0 e1
    subst e0 e1
    refine ⟨(v0, v1), ?_, ?_⟩
    · have := hc 0 _ rfl; rwa [add_0] at this
    · have := hc 1 _ rfl; rwa [add_off _ (by decide)] at this
theorem opens_code : Opens enc Try.prog w base spare held 51 3 CodeAt := fun n cs y p hc h hl => by
  obtain ⟨xs, m, _, _, _, hx, hf⟩ := DataW.trod_struct Try.underlying51 h
  match cs, hl with
  | [c0, c1, c2], _ =>
    obtain ⟨y0, g0⟩ := some_of (hf 0 _ rfl) hx (by decide)
    change DataW.trod enc Try.prog w base spare held m 3 (List.take (Try.prog.cellsOf 3) (List.drop 0 _)) = _ at g0
    obtain ⟨y1, g1⟩ := some_of (hf 1 _ rfl) hx (by decide)
    change DataW.trod enc Try.prog w base spare held m 3 (List.take (Try.prog.cellsOf 3) (List.drop 1 _)) = _ at g1
    obtain ⟨y2, g2⟩ := some_of (hf 2 _ rfl) hx (by decide)
    change DataW.trod enc Try.prog w base spare held m 3 (List.take (Try.prog.cellsOf 3) (List.drop 2 _)) = _ at g2
    rw [cells_int] at g0 g1 g2
    obtain ⟨v0, e0⟩ := fld_int g0
    obtain ⟨v1, e1⟩ := fld_int g1
    obtain ⟨v2, e2⟩ := fld_int g2
    simp at e0 e1 e2
    subst e0 e1 e2
    refine ⟨(v0, v1, v2), ?_, ?_, ?_⟩
    · have := hc 0 _ rfl; rwa [add_0] at this
    · have := hc 1 _ rfl; rwa [add_off _ (by decide)] at this
    · have := hc 2 _ rfl; rwa [add_off _ (by decide)] at this

theorem slc_types {n : Nat} {cs : List Value} {y : DataW H × List MemPlace} (h : DataW.trod enc Try.prog w base spare held n 23 cs = some y) : ∃ A cap l, cs = [.slice A l.length cap] ∧ SlcIs TyAt 2 w w.heap.size A cap l ∧ (A = none → cap = 0) :=
  open_rowOf Try.underlying23 cells_type (by decide) opens_type h
theorem slc_code {n : Nat} {cs : List Value} {y : DataW H × List MemPlace} (h : DataW.trod enc Try.prog w base spare held n 52 cs = some y) : ∃ A cap l, cs = [.slice A l.length cap] ∧ SlcIs CodeAt 3 w w.heap.size A cap l ∧ (A = none → cap = 0) :=
  open_rowOf Try.underlying52 (by kernel_rfl) (by decide) opens_code h
theorem slc_longs {n : Nat} {cs : List Value} {y : DataW H × List MemPlace} (h : DataW.trod enc Try.prog w base spare held n 24 cs = some y) : ∃ A cap l, cs = [.slice A l.length cap] ∧ SlcIs LongAt 1 w w.heap.size A cap l ∧ (A = none → cap = 0) :=
  open_rowOf Try.underlying24 (by kernel_rfl) (by decide) opens_long h

theorem cells_code : Try.prog.cellsOf 52 = 1 := by kernel_rfl
theorem opens_class : Opens enc Try.prog w base spare held 92 3 ClsAt := fun n cs y p hc h hl => by
  obtain ⟨xs, m, _, _, _, hx, hf⟩ := DataW.trod_struct Try.underlying92 h
  match cs, hl with
  | [c0, c1, c2], _ =>
    obtain ⟨y0, g0⟩ := some_of (hf 0 _ rfl) hx (by decide)
    change DataW.trod enc Try.prog w base spare held m 3 (List.take (Try.prog.cellsOf 3) (List.drop 0 _)) = _ at g0
    obtain ⟨y1, g1⟩ := some_of (hf 1 _ rfl) hx (by decide)
    change DataW.trod enc Try.prog w base spare held m 23 (List.take (Try.prog.cellsOf 23) (List.drop 1 _)) = _ at g1
    obtain ⟨y2, g2⟩ := some_of (hf 2 _ rfl) hx (by decide)
    change DataW.trod enc Try.prog w base spare held m 26 (List.take (Try.prog.cellsOf 26) (List.drop 2 _)) = _ at g2
    rw [cells_int] at g0
    rw [cells_types] at g1
    rw [cells_ints] at g2
    obtain ⟨v0, e0, r0⟩ := fld_intR g0
    obtain ⟨A1, k1, l1, e1, s1, _⟩ := slc_types g1
    obtain ⟨A2, k2, l2, e2, s2, _⟩ := slc_ints g2
    simp at e0 e1 e2
    subst e0 e1 e2
    refine ⟨⟨v0, l1, l2⟩, ?_, ⟨A1, k1, ?_, s1⟩, ⟨A2, k2, ?_, s2⟩, r0⟩
    · have := hc 0 _ rfl; rwa [add_0] at this
    · have := hc 1 _ rfl; rwa [add_off _ (by decide)] at this
    · have := hc 2 _ rfl; rwa [add_off _ (by decide)] at this
theorem opens_method : Opens enc Try.prog w base spare held 54 8 MthAt := fun n cs y p hc h hl => by
  obtain ⟨xs, m, _, _, _, hx, hf⟩ := DataW.trod_struct Try.underlying54 h
  match cs, hl with
  | [c0, c1, c2, c3, c4, c5, c6, c7], _ =>
    obtain ⟨y0, g0⟩ := some_of (hf 0 _ rfl) hx (by decide)
    change DataW.trod enc Try.prog w base spare held m 23 (List.take (Try.prog.cellsOf 23) (List.drop 0 _)) = _ at g0
    obtain ⟨y1, g1⟩ := some_of (hf 1 _ rfl) hx (by decide)
    change DataW.trod enc Try.prog w base spare held m 23 (List.take (Try.prog.cellsOf 23) (List.drop 1 _)) = _ at g1
    obtain ⟨y2, g2⟩ := some_of (hf 2 _ rfl) hx (by decide)
    change DataW.trod enc Try.prog w base spare held m 49 (List.take (Try.prog.cellsOf 49) (List.drop 2 _)) = _ at g2
    obtain ⟨y3, g3⟩ := some_of (hf 3 _ rfl) hx (by decide)
    change DataW.trod enc Try.prog w base spare held m 52 (List.take (Try.prog.cellsOf 52) (List.drop 4 _)) = _ at g3
    obtain ⟨y4, g4⟩ := some_of (hf 4 _ rfl) hx (by decide)
    change DataW.trod enc Try.prog w base spare held m 3 (List.take (Try.prog.cellsOf 3) (List.drop 5 _)) = _ at g4
    obtain ⟨y5, g5⟩ := some_of (hf 5 _ rfl) hx (by decide)
    change DataW.trod enc Try.prog w base spare held m 3 (List.take (Try.prog.cellsOf 3) (List.drop 6 _)) = _ at g5
    obtain ⟨y6, g6⟩ := some_of (hf 6 _ rfl) hx (by decide)
    change DataW.trod enc Try.prog w base spare held m 26 (List.take (Try.prog.cellsOf 26) (List.drop 7 _)) = _ at g6
    rw [cells_types] at g0 g1
    rw [cells_type] at g2
    rw [cells_code] at g3
    rw [cells_int] at g4 g5
    rw [cells_ints] at g6
    obtain ⟨A0, k0, l0, e0, s0, _⟩ := slc_types g0
    obtain ⟨A1, k1, l1, e1, s1, _⟩ := slc_types g1
    obtain ⟨A3, k3, l3, e3, s3, _⟩ := slc_code g3
    obtain ⟨v4, e4⟩ := fld_int g4
    obtain ⟨v5, e5⟩ := fld_int g5
    obtain ⟨A6, k6, l6, e6, s6, _⟩ := slc_ints g6
    obtain ⟨r, hr0, hr1⟩ := opens_type m _ y2 (off_ p 2) (fun j u hu => by
      match j, hu with
      | 0, hu => simp at hu; subst hu; have := hc 2 _ rfl; rw [add_off _ (by decide)] at this; rwa [add_0]
      | 1, hu => simp at hu; subst hu; have := hc 3 _ rfl; rw [add_off _ (by decide)] at this; rwa [add_off _ (by decide)]
      | j + 2, hu => simp at hu) g2 (by simp)
    simp at e0 e1 e3 e4 e5 e6
    subst e0 e1 e3 e4 e5 e6
    refine ⟨⟨l0, l1, r, l3, v4, v5, l6⟩, ⟨A0, k0, ?_, s0⟩, ⟨A1, k1, ?_, s1⟩, hr0, ?_, ⟨A3, k3, ?_, s3⟩, ?_, ?_, ⟨A6, k6, ?_, s6⟩⟩
    · have := hc 0 _ rfl; rwa [add_0] at this
    · have := hc 1 _ rfl; rwa [add_off _ (by decide)] at this
    · exact hr1
    · have := hc 4 _ rfl; rwa [add_off _ (by decide)] at this
    · have := hc 5 _ rfl; rwa [add_off _ (by decide)] at this
    · have := hc 6 _ rfl; rwa [add_off _ (by decide)] at this
    · have := hc 7 _ rfl; rwa [add_off _ (by decide)] at this

/-- An image by value. -/
theorem open_image {r : Reach} {b0 : Nat} {v : Value} {d : DataW H} {p : List MemPlace} (hv : Value.okWide Try.prog w r b0 28 v) (h : DataW.Trod enc Try.prog w base spare held 28 v d p) :
    ∃ (hd : Hnd) (m : Img), v = imgV hd m ∧ ImgIn w w.heap.size hd m := by
  obtain ⟨cs, rfl, hsz⟩ := okWide_struct Try.underlying28 hv
  obtain ⟨fuel, hf⟩ := h
  have hsz' : cs.size = 7 := hsz.trans (by kernel_rfl)
  obtain ⟨xs, m, _, _, _, hx, hf⟩ := DataW.trod_struct Try.underlying28 hf
  obtain ⟨l⟩ := cs
  have hl : l.length = 7 := hsz'
  match l, hl with
  | [c0, c1, c2, c3, c4, c5, c6], _ =>
    obtain ⟨y0, g0⟩ := some_of (hf 0 _ rfl) hx (by decide)
    change DataW.trod enc Try.prog w base spare held m 22 (List.take (Try.prog.cellsOf 22) (List.drop 0 _)) = _ at g0
    obtain ⟨y1, g1⟩ := some_of (hf 1 _ rfl) hx (by decide)
    change DataW.trod enc Try.prog w base spare held m 23 (List.take (Try.prog.cellsOf 23) (List.drop 1 _)) = _ at g1
    obtain ⟨y2, g2⟩ := some_of (hf 2 _ rfl) hx (by decide)
    change DataW.trod enc Try.prog w base spare held m 24 (List.take (Try.prog.cellsOf 24) (List.drop 2 _)) = _ at g2
    obtain ⟨y3, g3⟩ := some_of (hf 3 _ rfl) hx (by decide)
    change DataW.trod enc Try.prog w base spare held m 25 (List.take (Try.prog.cellsOf 25) (List.drop 3 _)) = _ at g3
    obtain ⟨y4, g4⟩ := some_of (hf 4 _ rfl) hx (by decide)
    change DataW.trod enc Try.prog w base spare held m 26 (List.take (Try.prog.cellsOf 26) (List.drop 4 _)) = _ at g4
    obtain ⟨y5, g5⟩ := some_of (hf 5 _ rfl) hx (by decide)
    change DataW.trod enc Try.prog w base spare held m 3 (List.take (Try.prog.cellsOf 3) (List.drop 5 _)) = _ at g5
    obtain ⟨y6, g6⟩ := some_of (hf 6 _ rfl) hx (by decide)
    change DataW.trod enc Try.prog w base spare held m 3 (List.take (Try.prog.cellsOf 3) (List.drop 6 _)) = _ at g6
    rw [show Try.prog.cellsOf 22 = 1 by kernel_rfl] at g0
    rw [cells_types] at g1
    rw [show Try.prog.cellsOf 24 = 1 by kernel_rfl] at g2
    rw [show Try.prog.cellsOf 25 = 1 by kernel_rfl] at g3
    rw [cells_ints] at g4
    rw [cells_int] at g5 g6
    obtain ⟨A0, k0, l0, e0, s0, _⟩ := open_rowOf Try.underlying22 (by kernel_rfl) (by decide) opens_class g0
    obtain ⟨A1, k1, l1, e1, s1, _⟩ := slc_types g1
    obtain ⟨A2, k2, l2, e2, s2, _⟩ := slc_longs g2
    obtain ⟨A3, k3, l3, e3, s3, _⟩ := open_rowOf Try.underlying25 (by kernel_rfl) (by decide) opens_method g3
    obtain ⟨A4, k4, l4, e4, s4, _⟩ := slc_ints g4
    obtain ⟨v5, e5⟩ := fld_int g5
    obtain ⟨v6, e6⟩ := fld_int g6
    simp [Value.cells] at e0 e1 e2 e3 e4 e5 e6
    subst e0 e1 e2 e3 e4 e5 e6
    exact ⟨⟨A0, A1, A2, A3, A4, k0, k1, k2, k3, k4⟩, ⟨l0, l1, l2, l3, l4, v5, v6⟩, rfl, s0, s1, s2, s3, s4⟩
end
end Go.Proofs.Ytefgepppcmhphaa
