/-
  The statement on types that were found (JudgeFound), walked: it answers true at any image and types.
  What an argument that came in reads as: types by value, slices of classes. Plain lemmas; the conditions stand in each.
  What an image that came in reads as: its classes, methods and all else, where they stand. Plain lemmas; no conditions.
  What an image that came in reads as, with how large its lists can be: no slice that comes in is of more bytes than there may be. Plain lemmas; no conditions.
  What types of all methods that came in read as, and how large they can be. Plain lemmas; the conditions stand in each.
-/
import Derived.Test.YtgpmdhdooglkfaaM49
import Derived.IntWalk
import Derived.RegionTactic
import Derived.ChangeAlike
import Derived.Deep.RegionHeld3
import Derived.Deep.QuietTactic
import Derived.BigQuiet
import Derived.Test.YtgpmdhdooglkfaaM01
import Derived.Test.YtgpmdhdooglkfaaRows
import Derived.ProofKit
import Derived.OpenShut
import Derived.Deep.Slices
import Derived.Deep.Fields
import Derived.ChangeSame
import Derived.Lib.SmallJoins
import Derived.SizedLaws
import Derived.Test.YtgpmdhdooglkfaaM45
namespace Go.Proofs.Ytgpmdhdooglkfaa
set_option maxRecDepth 100000
set_option linter.unusedVariables false
set_option linter.unusedSimpArgs false
open Go.ChangeShapes Go.WideShapes Go.ChangeAt Go.RowKit
set_option linter.unusedVariables false
set_option linter.unusedSimpArgs false

set_option maxHeartbeats 6400000 in
theorem judgeFound_any (m : Img) (h : Hnd) (other : List (List Shp)) (A : Option Addr) (c : Nat) (w : World) (H : ImgIn w w.heap.size h m) (hO : SlcIs (SlcAt ShpAt 2) 1 w w.heap.size A c other) (hl : other.length ≤ 140737488351232) (hz : MapsTo 140737488351232 other) :
    Calls Try.prog 3 #[imgV h m, .slice A other.length c] w fun e w' => e = .returned (.bool true) ∧ Below w.heap.size w w' := by
  have HW := Lib.hid (below_box (w := w) (h := h) (m := m))
  have HBX := Lib.hid (img_box w h m)
  have HZ : Hid (w.heap.size < (w.alloc (imgO h m)).heap.size) := Lib.hid (by simp)
  have HI := Lib.hid (H.now HW.out)
  obtain ⟨r, hr⟩ : ∃ r, saneB8 m = r := ⟨_, rfl⟩
  have HR := Lib.hid hr
  have HOT := Lib.hid (slcUp RowAt.keeps hO HW.out)
  have HLZ := Lib.hid (And.intro hl hz)
  obtain ⟨n, hn⟩ : ∃ n, other.length = n := ⟨_, rfl⟩
  have HON := Lib.hid hn
  rw [hn] at HLZ ⊢
  clear H hr hO hl hz hn
  go_enter Try.func3, Try.ntmps3
  go_upto_region 1 with fail
  generalize w.alloc (imgO h m) = w1 at *
  obtain ⟨q0, q1, q2, q3, q4, q5, q6⟩ := HBX.out
  have HX : Hid (Below w1.heap.size w1 w1) := Lib.hid (Below.refl _ _)
  cases r
  · go_wp2_with (first | (go_at_call 6; (with_reducible refine (sane10_is HI HX HR).mono ?_); rintro e w7 ⟨rfl, hb⟩; have HX := Lib.hid (HX.out.trans (hb.mono HX.out.size)); have HOT := Lib.hid (slcUp RowAt.keeps HOT.out hb); clear hb; obtain ⟨q0, q1, q2, q3, q4, q5, q6⟩ := HBX.out.keep HX.out HZ.out) | (go_at_call 8; (with_reducible refine (judgeAwake_any _).mono ?_); rintro e w7 ⟨rfl, hb⟩; have HX := Lib.hid (HX.out.trans (hb.mono HX.out.size)); have HOT := Lib.hid (slcUp RowAt.keeps HOT.out hb); clear hb; obtain ⟨q0, q1, q2, q3, q4, q5, q6⟩ := HBX.out.keep HX.out HZ.out))
    go_ret
    exact ⟨by first | rfl | simp, HW.out.trans (HX.out.mono (Nat.le_of_lt HZ.out))⟩
  have HM := Lib.hid (saneB8_yes HR.out)
  go_upto_if 16 with (first | (go_at_call 6; (with_reducible refine (sane10_is HI HX HR).mono ?_); rintro e w7 ⟨rfl, hb⟩; have HX := Lib.hid (HX.out.trans (hb.mono HX.out.size)); have HOT := Lib.hid (slcUp RowAt.keeps HOT.out hb); clear hb; obtain ⟨q0, q1, q2, q3, q4, q5, q6⟩ := HBX.out.keep HX.out HZ.out) | (go_at_call 7; (with_reducible refine (few10_is HOT HON HLZ).mono ?_); rintro e w7 ⟨r2, rfl, hf, hb⟩; have HFr2 := Lib.hid hf; have HX := Lib.hid (HX.out.trans (hb.mono HX.out.size)); have HOT := Lib.hid (slcUp RowAt.keeps HOT.out hb); clear hb hf; obtain ⟨q0, q1, q2, q3, q4, q5, q6⟩ := HBX.out.keep HX.out HZ.out))
  cases r2
  · go_wp2_with (first | (go_at_call 8; (with_reducible refine (judgeAwake_any _).mono ?_); rintro e w7 ⟨rfl, hb⟩; have HX := Lib.hid (HX.out.trans (hb.mono HX.out.size)); have HOT := Lib.hid (slcUp RowAt.keeps HOT.out hb); clear hb; obtain ⟨q0, q1, q2, q3, q4, q5, q6⟩ := HBX.out.keep HX.out HZ.out))
    go_ret
    exact ⟨by first | rfl | simp, HW.out.trans (HX.out.mono (Nat.le_of_lt HZ.out))⟩
  have HMZ : Hid (MapsTo 4000 other) := Lib.hid ((HFr2.out (by simp)).2.more (by decide))
  clear HFr2
  go_upto_region 4 with (go_at_call 9; (with_reducible refine (check_is HI HX HM).mono ?_); rintro e w7 ⟨Al, nl, cl, fl, pl, er, rfl, hb, hno, hyes⟩; have HNO := Lib.hid hno; have HYES := Lib.hid hyes; have HX := Lib.hid (HX.out.trans (hb.mono HX.out.size)); have HOT := Lib.hid (slcUp RowAt.keeps HOT.out hb); clear hb hno hyes; obtain ⟨q0, q1, q2, q3, q4, q5, q6⟩ := HBX.out.keep HX.out HZ.out)
  by_cases her : er = 0
  rotate_left
  · have hne : (er != 0) = true := by simpa using her
    have HRO : Hid (rightB m other = false) := Lib.hid (HNO.out her other)
    go_wp2_with (first | (go_at_call 8; (with_reducible refine (judgeAwake_any _).mono ?_); rintro e w7 ⟨rfl, hb⟩; have HX := Lib.hid (HX.out.trans (hb.mono HX.out.size)); have HOT := Lib.hid (slcUp RowAt.keeps HOT.out hb); clear hb; obtain ⟨q0, q1, q2, q3, q4, q5, q6⟩ := HBX.out.keep HX.out HZ.out) | (go_at_call 10; (with_reducible refine (jright_is HI HX HM HOT HMZ HON HRO).mono ?_); rintro e w7 ⟨rfl, hb⟩; have HX := Lib.hid (HX.out.trans (hb.mono HX.out.size)); have HOT := Lib.hid (slcUp RowAt.keeps HOT.out hb); clear hb; obtain ⟨q0, q1, q2, q3, q4, q5, q6⟩ := HBX.out.keep HX.out HZ.out))
    go_ret
    exact ⟨by first | rfl | simp, HW.out.trans (HX.out.mono (Nat.le_of_lt HZ.out))⟩
  subst her
  obtain ⟨l, hln, hls, hlm, hlb⟩ := HYES.out (by simp)
  have HL := Lib.hid hls
  have HLM := Lib.hid hlm
  have HLN := Lib.hid hln
  have HLR := Lib.hid hlb.right
  have HLO := Lib.hid hlb.self
  have HLB := Lib.hid hlb
  clear hln hls hlm hlb HYES HNO
  obtain ⟨ro, hro⟩ : ∃ r, rightB m other = r := ⟨_, rfl⟩
  have HRO := Lib.hid hro
  clear hro
  cases ro
  · go_wp2_with (first | (go_at_call 10; (with_reducible refine (jright_is HI HX HM HL HLM HLN HLR).mono ?_); rintro e w7 ⟨rfl, hb⟩; have HX := Lib.hid (HX.out.trans (hb.mono HX.out.size)); have HOT := Lib.hid (slcUp RowAt.keeps HOT.out hb); have HL := Lib.hid (slcUp RowAt.keeps HL.out hb); clear hb; obtain ⟨q0, q1, q2, q3, q4, q5, q6⟩ := HBX.out.keep HX.out HZ.out) | (go_at_call 11; (with_reducible refine (jover_is HI HX HM HL HL HLM HLM HLN HLN HLO).mono ?_); rintro e w7 ⟨rfl, hb⟩; have HX := Lib.hid (HX.out.trans (hb.mono HX.out.size)); have HOT := Lib.hid (slcUp RowAt.keeps HOT.out hb); have HL := Lib.hid (slcUp RowAt.keeps HL.out hb); clear hb; obtain ⟨q0, q1, q2, q3, q4, q5, q6⟩ := HBX.out.keep HX.out HZ.out) | (go_at_call 8; (with_reducible refine (judgeAwake_any _).mono ?_); rintro e w7 ⟨rfl, hb⟩; have HX := Lib.hid (HX.out.trans (hb.mono HX.out.size)); have HOT := Lib.hid (slcUp RowAt.keeps HOT.out hb); have HL := Lib.hid (slcUp RowAt.keeps HL.out hb); clear hb; obtain ⟨q0, q1, q2, q3, q4, q5, q6⟩ := HBX.out.keep HX.out HZ.out) | (go_at_call 10; (with_reducible refine (jright_is HI HX HM HOT HMZ HON HRO).mono ?_); rintro e w7 ⟨rfl, hb⟩; have HX := Lib.hid (HX.out.trans (hb.mono HX.out.size)); have HOT := Lib.hid (slcUp RowAt.keeps HOT.out hb); have HL := Lib.hid (slcUp RowAt.keeps HL.out hb); clear hb; obtain ⟨q0, q1, q2, q3, q4, q5, q6⟩ := HBX.out.keep HX.out HZ.out))
    go_ret
    exact ⟨by first | rfl | simp, HW.out.trans (HX.out.mono (Nat.le_of_lt HZ.out))⟩
  · have HOV := Lib.hid (HLB.out.least other HRO.out)
    go_wp2_with (first | (go_at_call 10; (with_reducible refine (jright_is HI HX HM HL HLM HLN HLR).mono ?_); rintro e w7 ⟨rfl, hb⟩; have HX := Lib.hid (HX.out.trans (hb.mono HX.out.size)); have HOT := Lib.hid (slcUp RowAt.keeps HOT.out hb); have HL := Lib.hid (slcUp RowAt.keeps HL.out hb); clear hb; obtain ⟨q0, q1, q2, q3, q4, q5, q6⟩ := HBX.out.keep HX.out HZ.out) | (go_at_call 11; (with_reducible refine (jover_is HI HX HM HL HL HLM HLM HLN HLN HLO).mono ?_); rintro e w7 ⟨rfl, hb⟩; have HX := Lib.hid (HX.out.trans (hb.mono HX.out.size)); have HOT := Lib.hid (slcUp RowAt.keeps HOT.out hb); have HL := Lib.hid (slcUp RowAt.keeps HL.out hb); clear hb; obtain ⟨q0, q1, q2, q3, q4, q5, q6⟩ := HBX.out.keep HX.out HZ.out) | (go_at_call 8; (with_reducible refine (judgeAwake_any _).mono ?_); rintro e w7 ⟨rfl, hb⟩; have HX := Lib.hid (HX.out.trans (hb.mono HX.out.size)); have HOT := Lib.hid (slcUp RowAt.keeps HOT.out hb); have HL := Lib.hid (slcUp RowAt.keeps HL.out hb); clear hb; obtain ⟨q0, q1, q2, q3, q4, q5, q6⟩ := HBX.out.keep HX.out HZ.out) | (go_at_call 10; (with_reducible refine (jright_is HI HX HM HOT HMZ HON HRO).mono ?_); rintro e w7 ⟨rfl, hb⟩; have HX := Lib.hid (HX.out.trans (hb.mono HX.out.size)); have HOT := Lib.hid (slcUp RowAt.keeps HOT.out hb); have HL := Lib.hid (slcUp RowAt.keeps HL.out hb); clear hb; obtain ⟨q0, q1, q2, q3, q4, q5, q6⟩ := HBX.out.keep HX.out HZ.out) | (go_at_call 11; (with_reducible refine (jover_is HI HX HM HL HOT HLM HMZ HLN HON HOV).mono ?_); rintro e w7 ⟨rfl, hb⟩; have HX := Lib.hid (HX.out.trans (hb.mono HX.out.size)); have HOT := Lib.hid (slcUp RowAt.keeps HOT.out hb); have HL := Lib.hid (slcUp RowAt.keeps HL.out hb); clear hb; obtain ⟨q0, q1, q2, q3, q4, q5, q6⟩ := HBX.out.keep HX.out HZ.out))
    go_ret
    exact ⟨by first | rfl | simp, HW.out.trans (HX.out.mono (Nat.le_of_lt HZ.out))⟩
end Go.Proofs.Ytgpmdhdooglkfaa
namespace Go.Proofs.Ytgpmdhdooglkfaa
set_option maxRecDepth 100000
set_option linter.unusedVariables false
set_option linter.unusedSimpArgs false
open Go.ChangeShapes Go.WideShapes Go.Deep Go.Joins Go.RowKit

/-- Values one by one make a list. -/
theorem gather {α : Type} {R : Nat → α → Prop} (n : Nat) (h : ∀ i, i < n → ∃ s, R i s) : ∃ l : List α, l.length = n ∧ ∀ i s, l[i]? = some s → R i s := by
  induction n with
  | zero => exact ⟨[], rfl, by simp⟩
  | succ n ih =>
    obtain ⟨l, hl, hr⟩ := ih fun i hi => h i (by omega)
    obtain ⟨s, hs⟩ := h n (by omega)
    refine ⟨l ++ [s], by simp [hl], fun i t ht => ?_⟩
    rcases Nat.lt_or_ge i l.length with hlt | hge
    · rw [List.getElem?_append_left hlt] at ht
      exact hr i t ht
    · rw [List.getElem?_append_right hge] at ht
      have hi : i - l.length = 0 := by
        rcases Nat.eq_zero_or_pos (i - l.length) with h0 | h0
        · exact h0
        · rw [List.getElem?_eq_none (by simp; omega)] at ht
          cases ht
      rw [hi] at ht
      have hin : i = n := by omega
      subst hin
      simp at ht
      subst ht
      exact hs

section
variable {H : Type} {enc : TypeId × Value → H} {P : Program} {w : World} {base : Nat} {held : Bool}
/-- A slice of structs of three one-cell fields, the first one an int: those ints, where they stand. -/
theorem open_supers {t e : TypeId} {f0 f1 f2 : Field} {A : Option Addr} {len cap : Nat} {d : DataW H} {p : List MemPlace} (ht : P.underlying t = some (.slice e)) (he : P.underlying e = some (.struct #[f0, f1, f2]))
    (hone : oneCellFields P #[f0, f1, f2] = true) (hC : P.cellsOf e = 3) (hti : P.underlying f0.type = some (.int .i64)) (h : DataW.Trod enc P w base (fun _ => true) held t (.slice A len cap) d p) :
    ∃ sup : List Int, sup.length = len ∧ Supers w w.heap.size A sup ∧ len ≤ cap ∧ cap ≤ 9223372036854775807 := by
  obtain ⟨fuel, hf⟩ := h
  rcases open_slice ht hf with ⟨hcs, _⟩ | ⟨a, l, c, m, n, D, Pl, hcs, _, hl, hm, hmm, _, hi⟩
  · simp [Value.cells] at hcs
    obtain ⟨rfl, rfl, rfl⟩ := hcs
    exact ⟨[], rfl, fun i s hs => by simp at hs, Nat.le_refl _, by omega⟩
  · simp [Value.cells] at hcs
    obtain ⟨rfl, rfl, rfl⟩ := hcs
    simp only [if_true] at hmm
    subst hmm
    obtain ⟨sup, hsl, hs⟩ := gather (R := fun i s => w.cell? (a.add (i * 3)) = some (.int .i64 s)) len fun i hil => by
      obtain ⟨cs', hc, ht'⟩ := hi i (by omega)
      rw [hC] at hc
      obtain ⟨_, hcl, hat⟩ := World.cells?_some hc
      obtain ⟨ys, n', _, _, _, _, hfs⟩ := DataW.trod_struct he ht'
      have h0 := hfs 0 f0 rfl
      obtain ⟨ho, hk⟩ := hone_of hone 0 f0 rfl
      rw [ho, hk, List.drop_zero] at h0
      have hys : ys[0]? = some (ys[0]'(by simp_all)) := List.getElem?_eq_getElem _
      obtain ⟨s, hs, _⟩ := DataW.trod_int hti (h0.trans hys)
      refine ⟨s, ?_⟩
      have h1 := hat 0 (by decide)
      have e1 : cs'[0]? = some (.int .i64 s) := by
        have := congrArg (fun l => l[0]?) hs
        simpa using this
      rw [← e1, ← h1, addr_add_add]
      rfl
    refine ⟨sup, hsl, fun i s hi => ?_, hl, by unfold maxLen at hm; omega⟩
    have hc := hs i s hi
    refine ⟨a, rfl, ?_, hc⟩
    have := World.block_lt_of_cell? w _ hc
    rwa [addr_add_block] at this

/-- A slice of integers: them, where they stand. -/
theorem open_row {t e : TypeId} {k : IntKind} {A : Option Addr} {len cap : Nat} {d : DataW H} {p : List MemPlace} (ht : P.underlying t = some (.slice e)) (he : P.underlying e = some (.int k)) (hC : P.cellsOf e = 1)
    (h : DataW.Trod enc P w base (fun _ => true) held t (.slice A len cap) d p) :
    ∃ z : List Int, z.length = len ∧ Lies w w.heap.size A (z.map (Value.int k)) ∧ (∀ n ∈ z, (Lit.int k n).wf = true) ∧ z.length ≤ cap ∧ cap ≤ 9223372036854775807 ∧ (A = none → cap = 0) := by
  obtain ⟨fuel, hf⟩ := h
  rcases open_ints ht he hC hf with ⟨hcs, _⟩ | ⟨x, l, c, zs, hcs, _, hl, hm, hz, _, hcell, hwz⟩
  · simp [Value.cells] at hcs
    obtain ⟨rfl, rfl, rfl⟩ := hcs
    exact ⟨[], rfl, Lies.nil, by simp, Nat.le_refl _, by omega, fun _ => rfl⟩
  · simp [Value.cells] at hcs
    obtain ⟨rfl, rfl, rfl⟩ := hcs
    have hzl : zs.length = cap := by simpa using hz
    refine ⟨zs.take len, by rw [List.length_take]; omega, fun j u hj => ?_, fun n hn => hwz n (List.mem_of_mem_take hn), by rw [List.length_take]; omega, by unfold maxLen at hm; omega, fun h => by cases h⟩
    rw [List.getElem?_map, List.getElem?_take] at hj
    split at hj
    · rename_i hjl
      have hjz : j < zs.length := by omega
      rw [List.getElem?_eq_getElem hjz] at hj
      simp at hj
      subst hj
      have hc := hcell j hjz
      refine ⟨x, rfl, ?_, ?_⟩
      · have := World.block_lt_of_cell? w _ hc
        rwa [addr_add_block] at this
      · rw [hc]
        simp [List.getElem?_eq_getElem hjz]
    · simp at hj

/-- A type by value: its kind and its number. -/
theorem open_type {r : Reach} {b0 : Nat} {t : TypeId} {f0 f1 : Field} {v : Value} {d : DataW H} {p : List MemPlace} {spare : Nat → Bool} (hs : P.underlying t = some (.struct #[f0, f1])) (hone : oneCellFields P #[f0, f1] = true) (hC : P.cellsOf t = 2)
    (h0 : P.underlying f0.type = some (.int .i64)) (h1 : P.underlying f1.type = some (.int .i64)) (hv : Value.okWide P w r b0 t v) (h : DataW.Trod enc P w base spare held t v d p) :
    ∃ k n : Int, v = tyV k n ∧ (Lit.int .i64 k).wf = true ∧ (Lit.int .i64 n).wf = true := by
  obtain ⟨v0, v1, y0, y1, m, rfl, _, _, t0, t1⟩ := open_agg2 hs hone hC hv h
  obtain ⟨k, e0, _, w0⟩ := DataW.trod_int h0 t0
  obtain ⟨n, e1, _, w1⟩ := DataW.trod_int h1 t1
  simp at e0 e1
  subst e0 e1
  exact ⟨k, n, rfl, w0, w1⟩
end

theorem wf_u8 {a : Int} (h : (Lit.int .u8 a).wf = true) : 0 ≤ a ∧ a ≤ 255 := by
  simpa [Lit.wf, IntKind.min, IntKind.max, IntKind.signed, IntKind.bits] using h
theorem wf_u16 {a : Int} (h : (Lit.int .u16 a).wf = true) : 0 ≤ a ∧ a ≤ 65535 := by
  simpa [Lit.wf, IntKind.min, IntKind.max, IntKind.signed, IntKind.bits] using h
theorem wf_u32 {a : Int} (h : (Lit.int .u32 a).wf = true) : 0 ≤ a ∧ a ≤ 4294967295 := by
  simpa [Lit.wf, IntKind.min, IntKind.max, IntKind.signed, IntKind.bits] using h
theorem wf_i32 {a : Int} (h : (Lit.int .i32 a).wf = true) : -2147483648 ≤ a ∧ a ≤ 2147483647 := by
  simpa [Lit.wf, IntKind.min, IntKind.max, IntKind.signed, IntKind.bits] using h
theorem wf_i64 {a : Int} (h : (Lit.int .i64 a).wf = true) : -9223372036854775808 ≤ a ∧ a ≤ 9223372036854775807 := by
  simpa [Lit.wf, IntKind.min, IntKind.max, IntKind.signed, IntKind.bits] using h
end Go.Proofs.Ytgpmdhdooglkfaa
namespace Go.Proofs.Ytgpmdhdooglkfaa
set_option maxRecDepth 100000
set_option linter.unusedVariables false
set_option linter.unusedSimpArgs false
open Go.ChangeShapes Go.WideShapes Go.Deep Go.Joins Go.RowKit
set_option linter.unusedVariables false

theorem add_0 (p : Addr) : p.add 0 = p := by simp [Addr.add]
theorem add_off {n : Nat} (p : Addr) (h : 0 < n) : p.add n = off_ p n := by
  unfold Addr.add off_
  rw [if_neg (by omega)]
section
variable {α H : Type} {enc : TypeId × Value → H} {P : Program} {w : World} {base : Nat} {held : Bool} {spare : Nat → Bool}
/-- What cells of a type read as. -/
def Opens (enc : TypeId × Value → H) (P : Program) (w : World) (base : Nat) (spare : Nat → Bool) (held : Bool) (e : TypeId) (k : Nat) (At : AtP α) : Prop :=
  ∀ (n : Nat) (cs : List Value) (y : DataW H × List MemPlace) (p : Addr), (∀ j u, cs[j]? = some u → w.cell? (p.add j) = some u) → DataW.trod enc P w base spare held n e cs = some y → cs.length = k → ∃ x : α, At w w.heap.size p x

/-- A slice's one cell: the things that it holds, where they stand. -/
theorem open_rowOf {t e : TypeId} {k fuel : Nat} {cs : List Value} {x : DataW H × List MemPlace} {At : AtP α} (ht : P.underlying t = some (.slice e)) (hC : P.cellsOf e = k) (hk : 0 < k) (hO : Opens enc P w base spare held e k At)
    (h : DataW.trod enc P w base spare held fuel t cs = some x) : ∃ A cap l, cs = [.slice A l.length cap] ∧ SlcIs At k w w.heap.size A cap l ∧ (A = none → cap = 0) := by
  rcases open_slice ht h with ⟨hcs, _⟩ | ⟨a, len, cap, m, n, D, Pl, hcs, _, hl, hm, hmm, _, hi⟩
  · exact ⟨none, 0, [], hcs, ⟨Nat.le_refl _, by omega, RowOf.nil⟩, fun _ => rfl⟩
  · have hml : len ≤ m := by rw [hmm]; split <;> omega
    obtain ⟨l, hLl, hL⟩ := gather (R := fun i (x : α) => At w w.heap.size (a.add (i * k)) x ∧ a.block < w.heap.size) len fun i hil => by
      obtain ⟨cs', hc, ht'⟩ := hi i (by omega)
      rw [hC] at hc
      obtain ⟨_, hcl, hat⟩ := World.cells?_some hc
      have hat' : ∀ j u, cs'[j]? = some u → w.cell? ((a.add (i * k)).add j) = some u := fun j u hu => by
        have hj : j < k := by
          rcases Nat.lt_or_ge j k with g | g
          · exact g
          · rw [List.getElem?_eq_none (by omega)] at hu; cases hu
        exact (hat j hj).trans hu
      obtain ⟨x, hx⟩ := hO n cs' _ (a.add (i * k)) hat' ht' hcl
      refine ⟨x, hx, ?_⟩
      have h0 := hat' 0 (cs'[0]'(by omega)) (List.getElem?_eq_getElem (by omega))
      have := World.block_lt_of_cell? w _ h0
      rwa [addr_add_block, addr_add_block] at this
    refine ⟨some a, cap, l, by rw [hLl]; exact hcs, ⟨by omega, by unfold maxLen at hm; omega, fun i x hx => ?_⟩, fun h => by cases h⟩
    exact ⟨a, rfl, (hL i x hx).2, (hL i x hx).1⟩
end

section
variable {H : Type} {enc : TypeId × Value → H} {w : World} {base : Nat} {held : Bool} {spare : Nat → Bool}
theorem cells_int : Try.prog.cellsOf 3 = 1 := by kernel_rfl
theorem cells_type : Try.prog.cellsOf 39 = 2 := by kernel_rfl
theorem cells_types : Try.prog.cellsOf 23 = 1 := by kernel_rfl
theorem cells_ints : Try.prog.cellsOf 26 = 1 := by kernel_rfl
section
variable {α β : Type} {k : Nat} {At : AtP α}
/-- A field of one int. -/
theorem fld_int {n : Nat} {cs : List Value} {y : DataW H × List MemPlace} (h : DataW.trod enc Try.prog w base spare held n 3 cs = some y) : ∃ v : Int, cs = [.int .i64 v] := by
  obtain ⟨v, rfl, _, _⟩ := DataW.trod_int Try.underlying3 h
  exact ⟨v, rfl⟩
theorem fld_intR {n : Nat} {cs : List Value} {y : DataW H × List MemPlace} (h : DataW.trod enc Try.prog w base spare held n 3 cs = some y) : ∃ v : Int, cs = [.int .i64 v] ∧ -9223372036854775808 ≤ v ∧ v ≤ 9223372036854775807 := by
  obtain ⟨v, rfl, _, hw⟩ := DataW.trod_int Try.underlying3 h
  exact ⟨v, rfl, (wf_i64 hw).1, (wf_i64 hw).2⟩
theorem some_of {γ : Type} {xs : List γ} {i n : Nat} {o : Option γ} (h : o = xs[i]?) (hl : xs.length = n) (hi : i < n) : ∃ y, o = some y := ⟨_, h.trans (List.getElem?_eq_getElem (by omega))⟩
end
theorem opens_int : Opens enc Try.prog w base spare held 3 1 IntAt := fun n cs y p hc h _ => by
  obtain ⟨v, rfl⟩ := fld_int h
  exact ⟨v, by have := hc 0 _ rfl; rwa [add_0] at this⟩
theorem opens_long : Opens enc Try.prog w base spare held 21 1 LongAt := fun n cs y p hc h _ => by
  obtain ⟨v, rfl, _, hw⟩ := DataW.trod_int Try.underlying21 h
  exact ⟨v, by have := hc 0 _ rfl; rwa [add_0] at this, (wf_i32 hw).1, (wf_i32 hw).2⟩
theorem opens_type : Opens enc Try.prog w base spare held 39 2 TyAt := fun n cs y p hc h hl => by
  obtain ⟨xs, m, _, _, _, hx, hf⟩ := DataW.trod_struct Try.underlying39 h
  match cs, hl with
  | [c0, c1], _ =>
    obtain ⟨y0, g0⟩ := some_of (hf 0 _ rfl) hx (by decide)
    change DataW.trod enc Try.prog w base spare held m 3 (List.take (Try.prog.cellsOf 3) (List.drop 0 _)) = _ at g0
    obtain ⟨y1, g1⟩ := some_of (hf 1 _ rfl) hx (by decide)
    change DataW.trod enc Try.prog w base spare held m 3 (List.take (Try.prog.cellsOf 3) (List.drop 1 _)) = _ at g1
    rw [cells_int] at g0 g1
    obtain ⟨v0, e0⟩ := fld_int g0
    obtain ⟨v1, e1⟩ := fld_int g1
    simp at e0 e1
    subst e0 e1
    refine ⟨(v0, v1), ?_, ?_⟩
    · have := hc 0 _ rfl; rwa [add_0] at this
    · have := hc 1 _ rfl; rwa [add_off _ (by decide)] at this
theorem opens_code : Opens enc Try.prog w base spare held 49 3 CodeAt := fun n cs y p hc h hl => by
  obtain ⟨xs, m, _, _, _, hx, hf⟩ := DataW.trod_struct Try.underlying49 h
  match cs, hl with
  | [c0, c1, c2], _ =>
    obtain ⟨y0, g0⟩ := some_of (hf 0 _ rfl) hx (by decide)
    change DataW.trod enc Try.prog w base spare held m 3 (List.take (Try.prog.cellsOf 3) (List.drop 0 _)) = _ at g0
    obtain ⟨y1, g1⟩ := some_of (hf 1 _ rfl) hx (by decide)
    change DataW.trod enc Try.prog w base spare held m 3 (List.take (Try.prog.cellsOf 3) (List.drop 1 _)) = _ at g1
    obtain ⟨y2, g2⟩ := some_of (hf 2 _ rfl) hx (by decide)
    change DataW.trod enc Try.prog w base spare held m 3 (List.take (Try.prog.cellsOf 3) (List.drop 2 _)) = _ at g2
    rw [cells_int] at g0 g1 g2
    obtain ⟨v0, e0⟩ := fld_int g0
    obtain ⟨v1, e1⟩ := fld_int g1
    obtain ⟨v2, e2⟩ := fld_int g2
    simp at e0 e1 e2
    subst e0 e1 e2
    refine ⟨(v0, v1, v2), ?_, ?_, ?_⟩
    · have := hc 0 _ rfl; rwa [add_0] at this
    · have := hc 1 _ rfl; rwa [add_off _ (by decide)] at this
    · have := hc 2 _ rfl; rwa [add_off _ (by decide)] at this

theorem slc_types {n : Nat} {cs : List Value} {y : DataW H × List MemPlace} (h : DataW.trod enc Try.prog w base spare held n 23 cs = some y) : ∃ A cap l, cs = [.slice A l.length cap] ∧ SlcIs TyAt 2 w w.heap.size A cap l ∧ (A = none → cap = 0) :=
  open_rowOf Try.underlying23 cells_type (by decide) opens_type h
theorem slc_ints {n : Nat} {cs : List Value} {y : DataW H × List MemPlace} (h : DataW.trod enc Try.prog w base spare held n 26 cs = some y) : ∃ A cap l, cs = [.slice A l.length cap] ∧ SlcIs IntAt 1 w w.heap.size A cap l ∧ (A = none → cap = 0) :=
  open_rowOf Try.underlying26 cells_int (by decide) opens_int h
theorem slc_code {n : Nat} {cs : List Value} {y : DataW H × List MemPlace} (h : DataW.trod enc Try.prog w base spare held n 50 cs = some y) : ∃ A cap l, cs = [.slice A l.length cap] ∧ SlcIs CodeAt 3 w w.heap.size A cap l ∧ (A = none → cap = 0) :=
  open_rowOf Try.underlying50 (by kernel_rfl) (by decide) opens_code h
theorem slc_longs {n : Nat} {cs : List Value} {y : DataW H × List MemPlace} (h : DataW.trod enc Try.prog w base spare held n 24 cs = some y) : ∃ A cap l, cs = [.slice A l.length cap] ∧ SlcIs LongAt 1 w w.heap.size A cap l ∧ (A = none → cap = 0) :=
  open_rowOf Try.underlying24 (by kernel_rfl) (by decide) opens_long h

theorem cells_code : Try.prog.cellsOf 50 = 1 := by kernel_rfl
theorem opens_class : Opens enc Try.prog w base spare held 88 3 ClsAt := fun n cs y p hc h hl => by
  obtain ⟨xs, m, _, _, _, hx, hf⟩ := DataW.trod_struct Try.underlying88 h
  match cs, hl with
  | [c0, c1, c2], _ =>
    obtain ⟨y0, g0⟩ := some_of (hf 0 _ rfl) hx (by decide)
    change DataW.trod enc Try.prog w base spare held m 3 (List.take (Try.prog.cellsOf 3) (List.drop 0 _)) = _ at g0
    obtain ⟨y1, g1⟩ := some_of (hf 1 _ rfl) hx (by decide)
    change DataW.trod enc Try.prog w base spare held m 23 (List.take (Try.prog.cellsOf 23) (List.drop 1 _)) = _ at g1
    obtain ⟨y2, g2⟩ := some_of (hf 2 _ rfl) hx (by decide)
    change DataW.trod enc Try.prog w base spare held m 26 (List.take (Try.prog.cellsOf 26) (List.drop 2 _)) = _ at g2
    rw [cells_int] at g0
    rw [cells_types] at g1
    rw [cells_ints] at g2
    obtain ⟨v0, e0, r0⟩ := fld_intR g0
    obtain ⟨A1, k1, l1, e1, s1, _⟩ := slc_types g1
    obtain ⟨A2, k2, l2, e2, s2, _⟩ := slc_ints g2
    simp at e0 e1 e2
    subst e0 e1 e2
    refine ⟨⟨v0, l1, l2⟩, ?_, ⟨A1, k1, ?_, s1⟩, ⟨A2, k2, ?_, s2⟩, r0⟩
    · have := hc 0 _ rfl; rwa [add_0] at this
    · have := hc 1 _ rfl; rwa [add_off _ (by decide)] at this
    · have := hc 2 _ rfl; rwa [add_off _ (by decide)] at this
theorem opens_method : Opens enc Try.prog w base spare held 52 8 MthAt := fun n cs y p hc h hl => by
  obtain ⟨xs, m, _, _, _, hx, hf⟩ := DataW.trod_struct Try.underlying52 h
  match cs, hl with
  | [c0, c1, c2, c3, c4, c5, c6, c7], _ =>
    obtain ⟨y0, g0⟩ := some_of (hf 0 _ rfl) hx (by decide)
    change DataW.trod enc Try.prog w base spare held m 23 (List.take (Try.prog.cellsOf 23) (List.drop 0 _)) = _ at g0
    obtain ⟨y1, g1⟩ := some_of (hf 1 _ rfl) hx (by decide)
    change DataW.trod enc Try.prog w base spare held m 23 (List.take (Try.prog.cellsOf 23) (List.drop 1 _)) = _ at g1
    obtain ⟨y2, g2⟩ := some_of (hf 2 _ rfl) hx (by decide)
    change DataW.trod enc Try.prog w base spare held m 39 (List.take (Try.prog.cellsOf 39) (List.drop 2 _)) = _ at g2
    obtain ⟨y3, g3⟩ := some_of (hf 3 _ rfl) hx (by decide)
    change DataW.trod enc Try.prog w base spare held m 50 (List.take (Try.prog.cellsOf 50) (List.drop 4 _)) = _ at g3
    obtain ⟨y4, g4⟩ := some_of (hf 4 _ rfl) hx (by decide)
    change DataW.trod enc Try.prog w base spare held m 3 (List.take (Try.prog.cellsOf 3) (List.drop 5 _)) = _ at g4
    obtain ⟨y5, g5⟩ := some_of (hf 5 _ rfl) hx (by decide)
    change DataW.trod enc Try.prog w base spare held m 3 (List.take (Try.prog.cellsOf 3) (List.drop 6 _)) = _ at g5
    obtain ⟨y6, g6⟩ := some_of (hf 6 _ rfl) hx (by decide)
    change DataW.trod enc Try.prog w base spare held m 26 (List.take (Try.prog.cellsOf 26) (List.drop 7 _)) = _ at g6
    rw [cells_types] at g0 g1
    rw [cells_type] at g2
    rw [cells_code] at g3
    rw [cells_int] at g4 g5
    rw [cells_ints] at g6
    obtain ⟨A0, k0, l0, e0, s0, _⟩ := slc_types g0
    obtain ⟨A1, k1, l1, e1, s1, _⟩ := slc_types g1
    obtain ⟨A3, k3, l3, e3, s3, _⟩ := slc_code g3
    obtain ⟨v4, e4⟩ := fld_int g4
    obtain ⟨v5, e5⟩ := fld_int g5
    obtain ⟨A6, k6, l6, e6, s6, _⟩ := slc_ints g6
    obtain ⟨r, hr0, hr1⟩ := opens_type m _ y2 (off_ p 2) (fun j u hu => by
      match j, hu with
      | 0, hu => simp at hu; subst hu; have := hc 2 _ rfl; rw [add_off _ (by decide)] at this; rwa [add_0]
      | 1, hu => simp at hu; subst hu; have := hc 3 _ rfl; rw [add_off _ (by decide)] at this; rwa [add_off _ (by decide)]
      | j + 2, hu => simp at hu) g2 (by simp)
    simp at e0 e1 e3 e4 e5 e6
    subst e0 e1 e3 e4 e5 e6
    refine ⟨⟨l0, l1, r, l3, v4, v5, l6⟩, ⟨A0, k0, ?_, s0⟩, ⟨A1, k1, ?_, s1⟩, hr0, ?_, ⟨A3, k3, ?_, s3⟩, ?_, ?_, ⟨A6, k6, ?_, s6⟩⟩
    · have := hc 0 _ rfl; rwa [add_0] at this
    · have := hc 1 _ rfl; rwa [add_off _ (by decide)] at this
    · exact hr1
    · have := hc 4 _ rfl; rwa [add_off _ (by decide)] at this
    · have := hc 5 _ rfl; rwa [add_off _ (by decide)] at this
    · have := hc 6 _ rfl; rwa [add_off _ (by decide)] at this
    · have := hc 7 _ rfl; rwa [add_off _ (by decide)] at this

/-- An image by value. -/
theorem open_image {r : Reach} {b0 : Nat} {v : Value} {d : DataW H} {p : List MemPlace} (hv : Value.okWide Try.prog w r b0 28 v) (h : DataW.Trod enc Try.prog w base spare held 28 v d p) :
    ∃ (hd : Hnd) (m : Img), v = imgV hd m ∧ ImgIn w w.heap.size hd m := by
  obtain ⟨cs, rfl, hsz⟩ := okWide_struct Try.underlying28 hv
  obtain ⟨fuel, hf⟩ := h
  have hsz' : cs.size = 7 := hsz.trans (by kernel_rfl)
  obtain ⟨xs, m, _, _, _, hx, hf⟩ := DataW.trod_struct Try.underlying28 hf
  obtain ⟨l⟩ := cs
  have hl : l.length = 7 := hsz'
  match l, hl with
  | [c0, c1, c2, c3, c4, c5, c6], _ =>
    obtain ⟨y0, g0⟩ := some_of (hf 0 _ rfl) hx (by decide)
    change DataW.trod enc Try.prog w base spare held m 22 (List.take (Try.prog.cellsOf 22) (List.drop 0 _)) = _ at g0
    obtain ⟨y1, g1⟩ := some_of (hf 1 _ rfl) hx (by decide)
    change DataW.trod enc Try.prog w base spare held m 23 (List.take (Try.prog.cellsOf 23) (List.drop 1 _)) = _ at g1
    obtain ⟨y2, g2⟩ := some_of (hf 2 _ rfl) hx (by decide)
    change DataW.trod enc Try.prog w base spare held m 24 (List.take (Try.prog.cellsOf 24) (List.drop 2 _)) = _ at g2
    obtain ⟨y3, g3⟩ := some_of (hf 3 _ rfl) hx (by decide)
    change DataW.trod enc Try.prog w base spare held m 25 (List.take (Try.prog.cellsOf 25) (List.drop 3 _)) = _ at g3
    obtain ⟨y4, g4⟩ := some_of (hf 4 _ rfl) hx (by decide)
    change DataW.trod enc Try.prog w base spare held m 26 (List.take (Try.prog.cellsOf 26) (List.drop 4 _)) = _ at g4
    obtain ⟨y5, g5⟩ := some_of (hf 5 _ rfl) hx (by decide)
    change DataW.trod enc Try.prog w base spare held m 3 (List.take (Try.prog.cellsOf 3) (List.drop 5 _)) = _ at g5
    obtain ⟨y6, g6⟩ := some_of (hf 6 _ rfl) hx (by decide)
    change DataW.trod enc Try.prog w base spare held m 3 (List.take (Try.prog.cellsOf 3) (List.drop 6 _)) = _ at g6
    rw [show Try.prog.cellsOf 22 = 1 by kernel_rfl] at g0
    rw [cells_types] at g1
    rw [show Try.prog.cellsOf 24 = 1 by kernel_rfl] at g2
    rw [show Try.prog.cellsOf 25 = 1 by kernel_rfl] at g3
    rw [cells_ints] at g4
    rw [cells_int] at g5 g6
    obtain ⟨A0, k0, l0, e0, s0, _⟩ := open_rowOf Try.underlying22 (by kernel_rfl) (by decide) opens_class g0
    obtain ⟨A1, k1, l1, e1, s1, _⟩ := slc_types g1
    obtain ⟨A2, k2, l2, e2, s2, _⟩ := slc_longs g2
    obtain ⟨A3, k3, l3, e3, s3, _⟩ := open_rowOf Try.underlying25 (by kernel_rfl) (by decide) opens_method g3
    obtain ⟨A4, k4, l4, e4, s4, _⟩ := slc_ints g4
    obtain ⟨v5, e5⟩ := fld_int g5
    obtain ⟨v6, e6⟩ := fld_int g6
    simp [Value.cells] at e0 e1 e2 e3 e4 e5 e6
    subst e0 e1 e2 e3 e4 e5 e6
    exact ⟨⟨A0, A1, A2, A3, A4, k0, k1, k2, k3, k4⟩, ⟨l0, l1, l2, l3, l4, v5, v6⟩, rfl, s0, s1, s2, s3, s4⟩
end
end Go.Proofs.Ytgpmdhdooglkfaa
namespace Go.Proofs.Ytgpmdhdooglkfaa
set_option maxRecDepth 100000
set_option linter.unusedVariables false
set_option linter.unusedSimpArgs false
open Go.ChangeShapes Go.WideShapes Go.Deep Go.Joins Go.RowKit
set_option linter.unusedVariables false

/-- The lists of a class, a method, an image are of no more bytes than a slice that comes in may be. -/
def ClsSized (c : Cls) : Prop := c.fields.length * 16 ≤ 140737488351232 ∧ c.slots.length * 8 ≤ 140737488351232
def MthSized (x : Mth) : Prop := x.args.length * 16 ≤ 140737488351232 ∧ x.locals.length * 16 ≤ 140737488351232 ∧ x.code.length * 24 ≤ 140737488351232 ∧ x.phi.length * 8 ≤ 140737488351232
structure ImgSized (m : Img) : Prop where
  classes : m.classes.length * 56 ≤ 140737488351232
  statics : m.statics.length * 16 ≤ 140737488351232
  ints : m.ints.length * 4 ≤ 140737488351232
  methods : m.methods.length * 128 ≤ 140737488351232
  entries : m.entries.length * 8 ≤ 140737488351232
  ct : ∀ c ∈ m.classes, ClsSized c
  mt : ∀ x ∈ m.methods, MthSized x

section
variable {α H : Type} {enc : TypeId × Value → H} {P : Program} {w : World} {base : Nat} {held : Bool} {spare : Nat → Bool}
/-- No part of a datum is too large. -/
def Light (P : Program) (t : TypeId) (d : DataW H) : Prop := ∀ n ∈ d.weights P t, n ≤ 140737488351232
theorem light_elems {e : TypeId} : ∀ {l : List (DataW H)} {d : DataW H}, d ∈ l → ∀ n ∈ d.weights P e, n ∈ DataW.weightsAll P e l
  | [], _, h, _, _ => by simp at h
  | x :: r, d, h, n, hn => by
    simp only [DataW.weightsAll, List.mem_append]
    rcases List.mem_cons.mp h with rfl | h
    · exact .inl hn
    · exact .inr (light_elems h n hn)
theorem light_slice {t e : TypeId} {elems spare' : List (DataW H)} (ht : P.underlying t = some (.slice e)) (h : Light P t (.slice elems spare')) : (elems.length + spare'.length) * P.bytesOf e ≤ 140737488351232 ∧ ∀ d ∈ elems, Light P e d :=
  ⟨h _ (by simp [DataW.weights, ht]), fun d hd n hn => h n (by
    simp only [DataW.weights, ht, List.mem_cons, List.mem_append]
    exact .inr (.inl (light_elems hd n hn)))⟩
theorem light_field {t : TypeId} {fs : Array Field} {xs : List (DataW H × List MemPlace)} {d : DataW H} (ht : P.underlying t = some (.struct fs)) (hd : d = .agg (xs.map (·.1))) (h : Light P t d) {j : Nat} {f : Field} {y : DataW H × List MemPlace}
    (hf : fs[j]? = some f) (hy : xs[j]? = some y) : Light P f.type y.1 := fun n hn => by
  subst hd
  refine h n ?_
  simp only [DataW.weights, ht]
  exact DataW.weights_mem_each (j := j) (by simp [hf]) (by simp [hy]) n hn

/-- What cells of a type read as, and how large it is. -/
def OpensZ (enc : TypeId × Value → H) (P : Program) (w : World) (base : Nat) (spare : Nat → Bool) (held : Bool) (e : TypeId) (k : Nat) (At : AtP α) (Z : α → Prop) : Prop :=
  ∀ (n : Nat) (cs : List Value) (y : DataW H × List MemPlace) (p : Addr), (∀ j u, cs[j]? = some u → w.cell? (p.add j) = some u) → DataW.trod enc P w base spare held n e cs = some y → cs.length = k → ∃ x : α, At w w.heap.size p x ∧ (Light P e y.1 → Z x)

theorem open_rowOfZ {t e : TypeId} {k fuel b : Nat} {cs : List Value} {x : DataW H × List MemPlace} {At : AtP α} {Z : α → Prop} (ht : P.underlying t = some (.slice e)) (hC : P.cellsOf e = k) (hby : P.bytesOf e = b) (hk : 0 < k) (hO : OpensZ enc P w base spare held e k At Z)
    (h : DataW.trod enc P w base spare held fuel t cs = some x) : ∃ A cap l, cs = [.slice A l.length cap] ∧ SlcIs At k w w.heap.size A cap l ∧ (Light P t x.1 → l.length * b ≤ 140737488351232 ∧ ∀ y ∈ l, Z y) := by
  rcases open_slice ht h with ⟨hcs, _⟩ | ⟨a, len, cap, m, n, D, Pl, hcs, _, hl, hm, hmm, hx, hi⟩
  · exact ⟨none, 0, [], hcs, ⟨Nat.le_refl _, by omega, RowOf.nil⟩, fun _ => ⟨by simp, fun y hy => by simp at hy⟩⟩
  · have hml : len ≤ m := by rw [hmm]; split <;> omega
    obtain ⟨l, hLl, hL⟩ := gather (R := fun i (y : α) => (At w w.heap.size (a.add (i * k)) y ∧ a.block < w.heap.size) ∧ (Light P e (D i) → Z y)) len fun i hil => by
      obtain ⟨cs', hc, ht'⟩ := hi i (by omega)
      rw [hC] at hc
      obtain ⟨_, hcl, hat⟩ := World.cells?_some hc
      have hat' : ∀ j u, cs'[j]? = some u → w.cell? ((a.add (i * k)).add j) = some u := fun j u hu => by
        have hj : j < k := by
          rcases Nat.lt_or_ge j k with g | g
          · exact g
          · rw [List.getElem?_eq_none (by omega)] at hu; cases hu
        exact (hat j hj).trans hu
      obtain ⟨y, hy, hz⟩ := hO n cs' _ (a.add (i * k)) hat' ht' hcl
      refine ⟨y, ⟨hy, ?_⟩, hz⟩
      have h0 := hat' 0 (cs'[0]'(by omega)) (List.getElem?_eq_getElem (by omega))
      have := World.block_lt_of_cell? w _ h0
      rwa [addr_add_block, addr_add_block] at this
    refine ⟨some a, cap, l, by rw [hLl]; exact hcs, ⟨by omega, by unfold maxLen at hm; omega, fun i y hy => ⟨a, rfl, (hL i y hy).1.2, (hL i y hy).1.1⟩⟩, fun hw => ?_⟩
    rw [hx] at hw
    obtain ⟨h1, h2⟩ := light_slice ht hw
    rw [hby] at h1
    simp only [List.length_map, List.length_range] at h1
    refine ⟨Nat.le_trans (Nat.mul_le_mul_right _ (by omega)) h1, fun y hy => ?_⟩
    obtain ⟨i, hi'⟩ := List.getElem?_of_mem hy
    have hil : i < len := by
      rcases Nat.lt_or_ge i l.length with g | g
      · omega
      · rw [List.getElem?_eq_none g] at hi'; cases hi'
    exact (hL i y hi').2 (h2 _ (List.mem_map.mpr ⟨i, List.mem_range.mpr hil, rfl⟩))
theorem OpensZ.of {e : TypeId} {k : Nat} {At : AtP α} (h : Opens enc P w base spare held e k At) : OpensZ enc P w base spare held e k At (fun _ => True) := fun n cs y p h1 h2 h3 => by
  obtain ⟨x, hx⟩ := h n cs y p h1 h2 h3
  exact ⟨x, hx, fun _ => trivial⟩
end

section
variable {H : Type} {enc : TypeId × Value → H} {w : World} {base : Nat} {held : Bool} {spare : Nat → Bool}
theorem slc_typesZ {n : Nat} {cs : List Value} {y : DataW H × List MemPlace} (h : DataW.trod enc Try.prog w base spare held n 23 cs = some y) : ∃ A cap l, cs = [.slice A l.length cap] ∧ SlcIs TyAt 2 w w.heap.size A cap l ∧ (Light Try.prog 23 y.1 → l.length * 16 ≤ 140737488351232 ∧ ∀ t ∈ l, True) :=
  open_rowOfZ Try.underlying23 cells_type (by kernel_rfl) (by decide) (OpensZ.of opens_type) h
theorem slc_intsZ {n : Nat} {cs : List Value} {y : DataW H × List MemPlace} (h : DataW.trod enc Try.prog w base spare held n 26 cs = some y) : ∃ A cap l, cs = [.slice A l.length cap] ∧ SlcIs IntAt 1 w w.heap.size A cap l ∧ (Light Try.prog 26 y.1 → l.length * 8 ≤ 140737488351232 ∧ ∀ t ∈ l, True) :=
  open_rowOfZ Try.underlying26 cells_int (by kernel_rfl) (by decide) (OpensZ.of opens_int) h
theorem slc_codeZ {n : Nat} {cs : List Value} {y : DataW H × List MemPlace} (h : DataW.trod enc Try.prog w base spare held n 50 cs = some y) : ∃ A cap l, cs = [.slice A l.length cap] ∧ SlcIs CodeAt 3 w w.heap.size A cap l ∧ (Light Try.prog 50 y.1 → l.length * 24 ≤ 140737488351232 ∧ ∀ t ∈ l, True) :=
  open_rowOfZ Try.underlying50 (by kernel_rfl) (by kernel_rfl) (by decide) (OpensZ.of opens_code) h
theorem slc_longsZ {n : Nat} {cs : List Value} {y : DataW H × List MemPlace} (h : DataW.trod enc Try.prog w base spare held n 24 cs = some y) : ∃ A cap l, cs = [.slice A l.length cap] ∧ SlcIs LongAt 1 w w.heap.size A cap l ∧ (Light Try.prog 24 y.1 → l.length * 4 ≤ 140737488351232 ∧ ∀ t ∈ l, True) :=
  open_rowOfZ Try.underlying24 (by kernel_rfl) (by kernel_rfl) (by decide) (OpensZ.of opens_long) h

theorem opens_classZ : OpensZ enc Try.prog w base spare held 88 3 ClsAt ClsSized := fun n cs y p hc h hl => by
  obtain ⟨xs, m, _, hxe, _, hx, hf⟩ := DataW.trod_struct Try.underlying88 h
  match cs, hl with
  | [c0, c1, c2], _ =>
    obtain ⟨y0, g0⟩ := some_of (hf 0 _ rfl) hx (by decide)
    have w0 := (hf 0 _ rfl).symm.trans g0
    change DataW.trod enc Try.prog w base spare held m 3 (List.take (Try.prog.cellsOf 3) (List.drop 0 _)) = _ at g0
    obtain ⟨y1, g1⟩ := some_of (hf 1 _ rfl) hx (by decide)
    have w1 := (hf 1 _ rfl).symm.trans g1
    change DataW.trod enc Try.prog w base spare held m 23 (List.take (Try.prog.cellsOf 23) (List.drop 1 _)) = _ at g1
    obtain ⟨y2, g2⟩ := some_of (hf 2 _ rfl) hx (by decide)
    have w2 := (hf 2 _ rfl).symm.trans g2
    change DataW.trod enc Try.prog w base spare held m 26 (List.take (Try.prog.cellsOf 26) (List.drop 2 _)) = _ at g2
    rw [cells_int] at g0
    rw [cells_types] at g1
    rw [cells_ints] at g2
    obtain ⟨v0, e0, r0⟩ := fld_intR g0
    obtain ⟨A1, k1, l1, e1, s1, zl1⟩ := slc_typesZ g1
    obtain ⟨A2, k2, l2, e2, s2, zl2⟩ := slc_intsZ g2
    simp at e0 e1 e2
    subst e0 e1 e2
    refine ⟨⟨v0, l1, l2⟩, ⟨?_, ⟨A1, k1, ?_, s1⟩, ⟨A2, k2, ?_, s2⟩, r0⟩, fun hw => ⟨(zl1 (light_field Try.underlying88 (congrArg Prod.fst hxe) hw (j := 1) rfl w1)).1, (zl2 (light_field Try.underlying88 (congrArg Prod.fst hxe) hw (j := 2) rfl w2)).1⟩⟩
    · have := hc 0 _ rfl; rwa [add_0] at this
    · have := hc 1 _ rfl; rwa [add_off _ (by decide)] at this
    · have := hc 2 _ rfl; rwa [add_off _ (by decide)] at this
theorem opens_methodZ : OpensZ enc Try.prog w base spare held 52 8 MthAt MthSized := fun n cs y p hc h hl => by
  obtain ⟨xs, m, _, hxe, _, hx, hf⟩ := DataW.trod_struct Try.underlying52 h
  match cs, hl with
  | [c0, c1, c2, c3, c4, c5, c6, c7], _ =>
    obtain ⟨y0, g0⟩ := some_of (hf 0 _ rfl) hx (by decide)
    have w0 := (hf 0 _ rfl).symm.trans g0
    change DataW.trod enc Try.prog w base spare held m 23 (List.take (Try.prog.cellsOf 23) (List.drop 0 _)) = _ at g0
    obtain ⟨y1, g1⟩ := some_of (hf 1 _ rfl) hx (by decide)
    have w1 := (hf 1 _ rfl).symm.trans g1
    change DataW.trod enc Try.prog w base spare held m 23 (List.take (Try.prog.cellsOf 23) (List.drop 1 _)) = _ at g1
    obtain ⟨y2, g2⟩ := some_of (hf 2 _ rfl) hx (by decide)
    have w2 := (hf 2 _ rfl).symm.trans g2
    change DataW.trod enc Try.prog w base spare held m 39 (List.take (Try.prog.cellsOf 39) (List.drop 2 _)) = _ at g2
    obtain ⟨y3, g3⟩ := some_of (hf 3 _ rfl) hx (by decide)
    have w3 := (hf 3 _ rfl).symm.trans g3
    change DataW.trod enc Try.prog w base spare held m 50 (List.take (Try.prog.cellsOf 50) (List.drop 4 _)) = _ at g3
    obtain ⟨y4, g4⟩ := some_of (hf 4 _ rfl) hx (by decide)
    have w4 := (hf 4 _ rfl).symm.trans g4
    change DataW.trod enc Try.prog w base spare held m 3 (List.take (Try.prog.cellsOf 3) (List.drop 5 _)) = _ at g4
    obtain ⟨y5, g5⟩ := some_of (hf 5 _ rfl) hx (by decide)
    have w5 := (hf 5 _ rfl).symm.trans g5
    change DataW.trod enc Try.prog w base spare held m 3 (List.take (Try.prog.cellsOf 3) (List.drop 6 _)) = _ at g5
    obtain ⟨y6, g6⟩ := some_of (hf 6 _ rfl) hx (by decide)
    have w6 := (hf 6 _ rfl).symm.trans g6
    change DataW.trod enc Try.prog w base spare held m 26 (List.take (Try.prog.cellsOf 26) (List.drop 7 _)) = _ at g6
    rw [cells_types] at g0 g1
    rw [cells_type] at g2
    rw [cells_code] at g3
    rw [cells_int] at g4 g5
    rw [cells_ints] at g6
    obtain ⟨A0, k0, l0, e0, s0, zl0⟩ := slc_typesZ g0
    obtain ⟨A1, k1, l1, e1, s1, zl1⟩ := slc_typesZ g1
    obtain ⟨A3, k3, l3, e3, s3, zl3⟩ := slc_codeZ g3
    obtain ⟨v4, e4⟩ := fld_int g4
    obtain ⟨v5, e5⟩ := fld_int g5
    obtain ⟨A6, k6, l6, e6, s6, zl6⟩ := slc_intsZ g6
    obtain ⟨r, hr0, hr1⟩ := opens_type m _ y2 (off_ p 2) (fun j u hu => by
      match j, hu with
      | 0, hu => simp at hu; subst hu; have := hc 2 _ rfl; rw [add_off _ (by decide)] at this; rwa [add_0]
      | 1, hu => simp at hu; subst hu; have := hc 3 _ rfl; rw [add_off _ (by decide)] at this; rwa [add_off _ (by decide)]
      | j + 2, hu => simp at hu) g2 (by simp)
    simp at e0 e1 e3 e4 e5 e6
    subst e0 e1 e3 e4 e5 e6
    refine ⟨⟨l0, l1, r, l3, v4, v5, l6⟩, ⟨⟨A0, k0, ?_, s0⟩, ⟨A1, k1, ?_, s1⟩, hr0, ?_, ⟨A3, k3, ?_, s3⟩, ?_, ?_, ⟨A6, k6, ?_, s6⟩⟩, fun hw => ⟨(zl0 (light_field Try.underlying52 (congrArg Prod.fst hxe) hw (j := 0) rfl w0)).1, (zl1 (light_field Try.underlying52 (congrArg Prod.fst hxe) hw (j := 1) rfl w1)).1, (zl3 (light_field Try.underlying52 (congrArg Prod.fst hxe) hw (j := 3) rfl w3)).1, (zl6 (light_field Try.underlying52 (congrArg Prod.fst hxe) hw (j := 6) rfl w6)).1⟩⟩
    · have := hc 0 _ rfl; rwa [add_0] at this
    · have := hc 1 _ rfl; rwa [add_off _ (by decide)] at this
    · exact hr1
    · have := hc 4 _ rfl; rwa [add_off _ (by decide)] at this
    · have := hc 5 _ rfl; rwa [add_off _ (by decide)] at this
    · have := hc 6 _ rfl; rwa [add_off _ (by decide)] at this
    · have := hc 7 _ rfl; rwa [add_off _ (by decide)] at this

/-- An image by value. -/
theorem open_imageZ {r : Reach} {b0 : Nat} {v : Value} {d : DataW H} {p : List MemPlace} (hv : Value.okWide Try.prog w r b0 28 v) (h : DataW.Trod enc Try.prog w base spare held 28 v d p) :
    ∃ (hd : Hnd) (m : Img), v = imgV hd m ∧ ImgIn w w.heap.size hd m ∧ (Light Try.prog 28 d → ImgSized m) := by
  obtain ⟨cs, rfl, hsz⟩ := okWide_struct Try.underlying28 hv
  obtain ⟨fuel, hf⟩ := h
  have hsz' : cs.size = 7 := hsz.trans (by kernel_rfl)
  obtain ⟨xs, m, _, hxe, _, hx, hf⟩ := DataW.trod_struct Try.underlying28 hf
  obtain ⟨l⟩ := cs
  have hl : l.length = 7 := hsz'
  match l, hl with
  | [c0, c1, c2, c3, c4, c5, c6], _ =>
    obtain ⟨y0, g0⟩ := some_of (hf 0 _ rfl) hx (by decide)
    have w0 := (hf 0 _ rfl).symm.trans g0
    change DataW.trod enc Try.prog w base spare held m 22 (List.take (Try.prog.cellsOf 22) (List.drop 0 _)) = _ at g0
    obtain ⟨y1, g1⟩ := some_of (hf 1 _ rfl) hx (by decide)
    have w1 := (hf 1 _ rfl).symm.trans g1
    change DataW.trod enc Try.prog w base spare held m 23 (List.take (Try.prog.cellsOf 23) (List.drop 1 _)) = _ at g1
    obtain ⟨y2, g2⟩ := some_of (hf 2 _ rfl) hx (by decide)
    have w2 := (hf 2 _ rfl).symm.trans g2
    change DataW.trod enc Try.prog w base spare held m 24 (List.take (Try.prog.cellsOf 24) (List.drop 2 _)) = _ at g2
    obtain ⟨y3, g3⟩ := some_of (hf 3 _ rfl) hx (by decide)
    have w3 := (hf 3 _ rfl).symm.trans g3
    change DataW.trod enc Try.prog w base spare held m 25 (List.take (Try.prog.cellsOf 25) (List.drop 3 _)) = _ at g3
    obtain ⟨y4, g4⟩ := some_of (hf 4 _ rfl) hx (by decide)
    have w4 := (hf 4 _ rfl).symm.trans g4
    change DataW.trod enc Try.prog w base spare held m 26 (List.take (Try.prog.cellsOf 26) (List.drop 4 _)) = _ at g4
    obtain ⟨y5, g5⟩ := some_of (hf 5 _ rfl) hx (by decide)
    have w5 := (hf 5 _ rfl).symm.trans g5
    change DataW.trod enc Try.prog w base spare held m 3 (List.take (Try.prog.cellsOf 3) (List.drop 5 _)) = _ at g5
    obtain ⟨y6, g6⟩ := some_of (hf 6 _ rfl) hx (by decide)
    have w6 := (hf 6 _ rfl).symm.trans g6
    change DataW.trod enc Try.prog w base spare held m 3 (List.take (Try.prog.cellsOf 3) (List.drop 6 _)) = _ at g6
    rw [show Try.prog.cellsOf 22 = 1 by kernel_rfl] at g0
    rw [cells_types] at g1
    rw [show Try.prog.cellsOf 24 = 1 by kernel_rfl] at g2
    rw [show Try.prog.cellsOf 25 = 1 by kernel_rfl] at g3
    rw [cells_ints] at g4
    rw [cells_int] at g5 g6
    obtain ⟨A0, k0, l0, e0, s0, zl0⟩ := open_rowOfZ (b := 56) Try.underlying22 (by kernel_rfl) (by kernel_rfl) (by decide) opens_classZ g0
    obtain ⟨A1, k1, l1, e1, s1, zl1⟩ := slc_typesZ g1
    obtain ⟨A2, k2, l2, e2, s2, zl2⟩ := slc_longsZ g2
    obtain ⟨A3, k3, l3, e3, s3, zl3⟩ := open_rowOfZ (b := 128) Try.underlying25 (by kernel_rfl) (by kernel_rfl) (by decide) opens_methodZ g3
    obtain ⟨A4, k4, l4, e4, s4, zl4⟩ := slc_intsZ g4
    obtain ⟨v5, e5⟩ := fld_int g5
    obtain ⟨v6, e6⟩ := fld_int g6
    simp [Value.cells] at e0 e1 e2 e3 e4 e5 e6
    subst e0 e1 e2 e3 e4 e5 e6
    exact ⟨⟨A0, A1, A2, A3, A4, k0, k1, k2, k3, k4⟩, ⟨l0, l1, l2, l3, l4, v5, v6⟩, rfl, ⟨s0, s1, s2, s3, s4⟩, fun hw => ⟨(zl0 (light_field Try.underlying28 (congrArg Prod.fst hxe) hw (j := 0) rfl w0)).1, (zl1 (light_field Try.underlying28 (congrArg Prod.fst hxe) hw (j := 1) rfl w1)).1, (zl2 (light_field Try.underlying28 (congrArg Prod.fst hxe) hw (j := 2) rfl w2)).1, (zl3 (light_field Try.underlying28 (congrArg Prod.fst hxe) hw (j := 3) rfl w3)).1, (zl4 (light_field Try.underlying28 (congrArg Prod.fst hxe) hw (j := 4) rfl w4)).1, (zl0 (light_field Try.underlying28 (congrArg Prod.fst hxe) hw (j := 0) rfl w0)).2, (zl3 (light_field Try.underlying28 (congrArg Prod.fst hxe) hw (j := 3) rfl w3)).2⟩⟩
end
end Go.Proofs.Ytgpmdhdooglkfaa
namespace Go.Proofs.Ytgpmdhdooglkfaa
set_option maxRecDepth 100000
set_option linter.unusedVariables false
set_option linter.unusedSimpArgs false
open Go.ChangeShapes Go.WideShapes Go.Deep Go.Joins Go.RowKit
set_option linter.unusedVariables false

section
variable {H : Type} {enc : TypeId × Value → H} {w : World} {base : Nat} {held : Bool} {spare : Nat → Bool}
def ShpSized (s : Shp) : Prop := s.stack.length * 16 ≤ 140737488351232
def RowSized (S : List Shp) : Prop := S.length * 32 ≤ 140737488351232 ∧ ∀ s ∈ S, ShpSized s
theorem opens_shapeZ : OpensZ enc Try.prog w base spare held 44 2 ShpAt ShpSized := fun n cs y p hc h hl => by
  obtain ⟨xs, m, _, hxe, _, hx, hf⟩ := DataW.trod_struct Try.underlying44 h
  match cs, hl with
  | [c0, c1], _ =>
    obtain ⟨y0, g0⟩ := some_of (hf 0 _ rfl) hx (by decide)
    have w0 := (hf 0 _ rfl).symm.trans g0
    change DataW.trod enc Try.prog w base spare held m 4 (List.take (Try.prog.cellsOf 4) (List.drop 0 _)) = _ at g0
    obtain ⟨y1, g1⟩ := some_of (hf 1 _ rfl) hx (by decide)
    have w1 := (hf 1 _ rfl).symm.trans g1
    change DataW.trod enc Try.prog w base spare held m 23 (List.take (Try.prog.cellsOf 23) (List.drop 1 _)) = _ at g1
    rw [show Try.prog.cellsOf 4 = 1 by kernel_rfl] at g0
    rw [cells_types] at g1
    obtain ⟨v0, e0, _⟩ := DataW.trod_bool Try.underlying4 g0
    obtain ⟨A1, k1, l1, e1, s1, zl1⟩ := slc_typesZ g1
    simp at e0 e1
    subst e0 e1
    refine ⟨⟨v0, l1⟩, ⟨?_, A1, k1, ?_, s1⟩, fun hw => (zl1 (light_field Try.underlying44 (congrArg Prod.fst hxe) hw (j := 1) rfl w1)).1⟩
    · have := hc 0 _ rfl; rwa [add_0] at this
    · have := hc 1 _ rfl; rwa [add_off _ (by decide)] at this
theorem opens_rowZ : OpensZ enc Try.prog w base spare held 42 1 (SlcAt ShpAt 2) RowSized := fun n cs y p hc h hl => by
  obtain ⟨A, cap, l, e, hs, hz⟩ := open_rowOfZ (b := 32) Try.underlying42 (by kernel_rfl) (by kernel_rfl) (by decide) opens_shapeZ h
  subst e
  exact ⟨l, ⟨A, cap, by have := hc 0 _ rfl; rwa [add_0] at this, hs⟩, hz⟩
/-- Types of all methods. -/
theorem open_mapsZ {A : Option Addr} {len cap : Nat} {d : DataW H} {p : List MemPlace} (h : DataW.Trod enc Try.prog w base spare held 29 (.slice A len cap) d p) :
    ∃ L, len = L.length ∧ SlcIs (SlcAt ShpAt 2) 1 w w.heap.size A cap L ∧ (Light Try.prog 29 d → L.length ≤ 140737488351232 ∧ MapsTo 140737488351232 L) := by
  obtain ⟨fuel, hf⟩ := h
  obtain ⟨A', cap', L, hc, hs, hz⟩ := open_rowOfZ (b := 24) Try.underlying29 (by kernel_rfl) (by kernel_rfl) (by decide) opens_rowZ hf
  have hc : [Value.slice A len cap] = [Value.slice A' L.length cap'] := hc
  injection hc with hc
  injection hc with e1 e2 e3
  subst e1 e2 e3
  refine ⟨L, rfl, hs, fun q => ?_⟩
  obtain ⟨h1, h2⟩ := hz q
  exact ⟨by omega, fun S hS => ⟨by have := (h2 S hS).1; omega, fun s hs => by have := (h2 S hS).2 s hs; unfold ShpSized at this; omega⟩⟩
end
end Go.Proofs.Ytgpmdhdooglkfaa
