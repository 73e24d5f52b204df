/-
  A walk through a graph begun, and the rings of a graph.
  Whether a part of a graph leads to itself.
  depth.Bound: what each method, and all that it comes to, takes.
-/
import Derived.Test.YtefgepppcmhphaaM41
import Derived.Deep.OwnRows
import Derived.Maps.RangeWalk
import Derived.Test.YtefgepppcmhphaaM30
import Derived.Test.YtefgepppcmhphaaM37
import Derived.Test.YtefgepppcmhphaaM26
import Derived.Test.YtefgepppcmhphaaM28
namespace Go.Proofs.Ytefgepppcmhphaa
set_option maxRecDepth 100000
set_option linter.unusedVariables false
set_option linter.unusedSimpArgs false
open Go.ChangeShapes Go.WideShapes Go.ChangeAt Go.RowKit
set_option linter.unusedVariables false

/-- A walk that has met nothing yet. -/
def StartOut (EL : List (List Int)) (n : Nat) (w : World) (e : Ending) (w' : World) : Prop :=
  ∃ g, e = .returned (.pointer (some ⟨g, 0, none⟩)) ∧ (∃ a ρ, WkIn w' w.heap.size g EL n ⟨0, fun _ => 0, fun _ => 0, fun _ => 0, [], [], []⟩ a ρ) ∧ Below w.heap.size w w'
theorem heap_three {w : World} {o x : Obj} {b : Nat} (h0 : w.heap.size ≤ b) (h1 : b < w.heap.size + 3) : ((((w.alloc o).alloc o).alloc o).alloc x).heap[b]? = some o := by
  have e : ∀ (W : World) (y : Obj) (k : Nat), k < W.heap.size → (W.alloc y).heap[k]? = W.heap[k]? := fun W y k hk => Below.heap_alloc W y k hk
  have z1 : (w.alloc o).heap.size = w.heap.size + 1 := by simp
  have z2 : ((w.alloc o).alloc o).heap.size = w.heap.size + 2 := by simp
  have z3 : (((w.alloc o).alloc o).alloc o).heap.size = w.heap.size + 3 := by simp
  rw [e _ _ _ (by omega)]
  by_cases h2 : b = w.heap.size + 2
  · have := heap_alloc_new ((w.alloc o).alloc o) o
    rw [z2] at this
    rw [h2]
    exact this
  rw [e _ _ _ (by omega)]
  by_cases h3 : b = w.heap.size + 1
  · have := heap_alloc_new (w.alloc o) o
    rw [z1] at this
    rw [h3]
    exact this
  rw [e _ _ _ (by omega)]
  have : b = w.heap.size := by omega
  rw [this]
  exact heap_alloc_new w o
theorem rowI_zero (n : Nat) (f : Nat → Int) (hf : ∀ x, f x = 0) : (rowI n f).map (Value.int .i64) = List.replicate n (.int .i64 0) := by
  refine List.ext_getElem? fun i => ?_
  unfold rowI
  rw [List.getElem?_map, List.getElem?_map, List.getElem?_replicate]
  by_cases h : i < n
  · rw [List.getElem?_range h, if_pos h]; simp [hf]
  · rw [List.getElem?_eq_none (by rw [List.length_range]; omega), if_neg h]; rfl
theorem start_mem {EL : List (List Int)} {n : Nat} {E : Option Addr} {ce : Nat} {w : World} (hE : SlcIs (SlcAt IntAt 1) 1 w w.heap.size E ce EL) (hn : EL.length = n) (hl : n ≤ 1048576) (he : ∀ l ∈ EL, l.length ≤ 1048576) {gp gb gg : Nat}
    (h1 : w.heap.size ≤ gp ∧ gp < w.heap.size + 3) (h2 : w.heap.size ≤ gb ∧ gb < w.heap.size + 3) (h3 : w.heap.size ≤ gg ∧ gg < w.heap.size + 3) (h4 : gp ≠ gb ∧ gp ≠ gg ∧ gb ≠ gg) {W : World}
    (hW : W = ((((w.alloc (.cells (madeCells #[Value.int .i64 0] n) 3)).alloc (.cells (madeCells #[Value.int .i64 0] n) 3)).alloc (.cells (madeCells #[Value.int .i64 0] n) 3)).alloc (.cells #[.slice E n ce, .int .i64 0, .slice (some ⟨gp, 0, none⟩) n n, .slice (some ⟨gb, 0, none⟩) n n, .slice (some ⟨gg, 0, none⟩) n n, .slice none 0 0, .slice none 0 0, .slice none 0 0] 79)).drew) :
    (∃ a ρ, WkIn W w.heap.size (w.heap.size + 3) EL n ⟨0, fun _ => 0, fun _ => 0, fun _ => 0, [], [], []⟩ a ρ) ∧ Below w.heap.size w W := by
  have hb : Below w.heap.size w W := by
    rw [hW]
    exact ((((((Below.refl w.heap.size w).alloc (Nat.le_refl _) _).alloc (by simp) _).alloc (by simp; omega) _).alloc (by simp; omega) _)).drew
  have hm : madeCells #[Value.int .i64 0] n = (List.replicate n (Value.int .i64 0)).toArray := by
    have := made_one (z := .int .i64 0) (v := .int .i64 0) rfl n
    have hc : (Value.int .i64 0).cells = #[Value.int .i64 0] := rfl
    rw [Nat.mul_one, hc] at this
    exact Array.toList_inj.mp (by rw [this])
  have hrow : ∀ b (f : Nat → Int), w.heap.size ≤ b → b < w.heap.size + 3 → (∀ x, f x = 0) → NumsIn W b (rowI n f) := fun b f g0 g1 hf => by
    unfold NumsIn Whole
    rw [rowI_zero n f hf, ← hm, hW]
    exact heap_three g0 g1
  refine ⟨⟨⟨gp, gb, gg, E, ce, none, 0, none, 0, none, 0, []⟩, fun b => if b < w.heap.size then 9 else if b = gp then 1 else if b = gb then 2 else if b = gg then 3 else if b = w.heap.size + 3 then 0 else 10, ?_⟩, hb⟩
  refine ⟨fun b q => if_pos q, hb.size, hn, Nat.zero_le _, hl, hE.below_to (SlcAt.keeps IntAt.keeps 1) hb (Nat.le_refl _), he, ?_, hrow _ _ h1.1 h1.2 (fun _ => rfl), hrow _ _ h2.1 h2.2 (fun _ => rfl), hrow _ _ h3.1 h3.2 (fun _ => rfl), World.ownsRow_nil _ _ _ _, World.ownsRow_nil _ _ _ _, World.ownsRow_nil _ _ _ _, fun i v c hv => by simp at hv, ?_, ?_, ?_, ?_, fun b q => by simp [Value.ownBlock] at q, fun b q => by simp [Value.ownBlock] at q, fun b q => by simp [Value.ownBlock] at q⟩
  · unfold Whole
    rw [hW]
    have := heap_alloc_new (((w.alloc (.cells (madeCells #[Value.int .i64 0] n) 3)).alloc (.cells (madeCells #[Value.int .i64 0] n) 3)).alloc (.cells (madeCells #[Value.int .i64 0] n) 3)) (.cells #[.slice E n ce, .int .i64 0, .slice (some ⟨gp, 0, none⟩) n n, .slice (some ⟨gb, 0, none⟩) n n, .slice (some ⟨gg, 0, none⟩) n n, .slice none 0 0, .slice none 0 0, .slice none 0 0] 79)
    have hz : (((w.alloc (.cells (madeCells #[Value.int .i64 0] n) 3)).alloc (.cells (madeCells #[Value.int .i64 0] n) 3)).alloc (.cells (madeCells #[Value.int .i64 0] n) 3)).heap.size = w.heap.size + 3 := by simp
    rw [hz] at this
    exact this
  · try dsimp only
    rw [if_neg (by omega), if_neg (by omega), if_neg (by omega), if_neg (by omega), if_pos rfl]
  · try dsimp only
    rw [if_neg (by omega), if_pos rfl]
  · try dsimp only
    rw [if_neg (by omega), if_neg (by omega), if_pos rfl]
  · try dsimp only
    rw [if_neg (by omega), if_neg (by omega), if_neg (by omega), if_pos rfl]
set_option maxHeartbeats 1600000 in
theorem sstart_any (EL : List (List Int)) (n : Nat) (E : Option Addr) (ce : Nat) (w : World) (hE : SlcIs (SlcAt IntAt 1) 1 w w.heap.size E ce EL) (hn : EL.length = n) (hl : n ≤ 1048576) (he : ∀ l ∈ EL, l.length ≤ 1048576) :
    Calls Try.prog 35 #[.slice E n ce] w (StartOut EL n w) := by
  have HE := Lib.hid hE
  have HN := Lib.hid hn
  have HEL := Lib.hid he
  clear hE hn he
  have hmk := run_make_row' (P := Try.prog) 26 3 (.int .i64 0) 8 Try.underlying26 info_int rfl .i64 .i64 n (by omega) (by omega)
  go_enter Try.func35, Try.ntmps35
  go_wp2_with fail
  go_region
  all_goals
    go_wp2_with fail
    go_ret
    exact ⟨_, rfl, start_mem HE.out HN.out hl HEL.out ⟨by omega, by omega⟩ ⟨by omega, by omega⟩ ⟨by omega, by omega⟩ ⟨by omega, by omega, by omega⟩ rfl⟩
/-- Parts as they lie in new memory. -/
structure PartsAt (w : World) (B : Nat) (A : Option Addr) (c : Nat) (P : List (List Nat)) : Prop where
  le : P.length ≤ c
  cap : c ≤ 9223372036854775807
  row : ∀ (i : Nat) (p : List Nat), P[i]? = some p → ∃ g gi ci, A = some ⟨g, 0, none⟩ ∧ B ≤ g ∧ g < w.heap.size ∧ w.cell? ⟨g, i, none⟩ = some (.slice (some ⟨gi, 0, none⟩) p.length ci) ∧ B ≤ gi ∧ gi < w.heap.size ∧ p.length ≤ ci ∧ ci ≤ 9223372036854775807 ∧ ∀ (j v : Nat), p[j]? = some v → w.cell? ⟨gi, j, none⟩ = some (.int .i64 (v : Int))
theorem PartsAt.keep {w w' : World} {B : Nat} {A : Option Addr} {c : Nat} {P : List (List Nat)} (h : PartsAt w B A c P) (hz : w.heap.size ≤ w'.heap.size) (hk : ∀ b, B ≤ b → b < w.heap.size → w'.heap[b]? = w.heap[b]?) : PartsAt w' B A c P :=
  ⟨h.le, h.cap, fun i p hp => by
    obtain ⟨g, gi, ci, h1, h2, h3, h4, h5, h6, h7, h8, h9⟩ := h.row i p hp
    exact ⟨g, gi, ci, h1, h2, by omega, (World.cell?_of_block (w := w) (hk g h2 h3)).trans h4, h5, by omega, h7, h8, fun j v hj => (World.cell?_of_block (w := w) (hk gi h5 h6)).trans (h9 j v hj)⟩⟩
theorem WkIn.parts_at {w : World} {B g n : Nat} {EL : List (List Int)} {S : Wk} {a : WkAd} {ρ : Nat → Nat} (h : WkIn w B g EL n S a ρ) : PartsAt w B a.Ap a.cp S.parts := by
  have hl : a.vs.length = S.parts.length := by have := h.prt.1; simpa using this
  rcases Nat.eq_zero_or_pos S.parts.length with h0 | h0
  · have hc := h.prt.2
    refine ⟨?_, ?_, fun i p hp => by have := (List.getElem?_eq_some_iff.mp hp).1; omega⟩
    · omega
    · rcases hc with ⟨hv, _⟩ | ⟨g, cap, cur, hv, _, _, _, h2, _⟩
      · injection hv with e1 e2 e3; omega
      · injection hv with e1 e2 e3; unfold maxLen at h2; omega
  obtain ⟨g', e, h1, h2, h3, h4⟩ := own_some h.prt h0
  refine ⟨h1, h2, fun i p hp => ?_⟩
  have hi := (List.getElem?_eq_some_iff.mp hp).1
  have hv : a.vs[i]? = some (a.vs[i]'(by omega)) := List.getElem?_eq_getElem (by omega)
  obtain ⟨gi, ci, rest, e1, b1, b2, b3, b4, b5⟩ := h.pin i _ p hv hp
  have hrow := h.prt
  rw [e] at hrow
  rw [e1] at hv
  refine ⟨g', gi, ci, e, h4, h3, own_cell hrow hv, b1, Whole.lt b5, b3, b4, fun j v hj => ?_⟩
  exact b5.cells j _ (by rw [List.getElem?_append_left (by rw [natV_len]; exact (List.getElem?_eq_some_iff.mp hj).1)]; exact natV_at hj)
/-- What Rings answers. -/
def RingsOut (EL : List (List Int)) (n : Nat) (w : World) (e : Ending) (w' : World) : Prop :=
  ∃ A c P, e = .returned (.slice A (List.length P) c) ∧ RingsOf EL n P ∧ PartsAt w' w.heap.size A c P ∧ Below w.heap.size w w'
set_option maxHeartbeats 1600000 in
theorem srings_any (EL : List (List Int)) (n : Nat) (E : Option Addr) (ce : Nat) (w : World) (hE : SlcIs (SlcAt IntAt 1) 1 w w.heap.size E ce EL) (hn : EL.length = n) (hl : n ≤ 1048576) (he : ∀ l ∈ EL, l.length ≤ 1048576) :
    Calls Try.prog 20 #[.slice E n ce] w (RingsOut EL n w) := by
  have HS := Lib.hid (sstart_any EL n E ce w hE hn hl he)
  clear hE hn he
  obtain ⟨B, hB⟩ : ∃ B, w.heap.size = B := ⟨_, rfl⟩
  go_enter Try.func20, Try.ntmps20
  go_wp2_with (go_at_call 35; go_loud (refine HS.out.mono ?_); rintro e w1 ⟨g, rfl, hW, hb⟩; have HW1 := Lib.hid hW; have X1 := Lib.hid hb; clear hW hb)
  have HI : Hid (∃ S a ρ, WkIn w1 w.heap.size g EL n S a ρ ∧ Tar EL n S ∧ S.way = [] ∧ ∀ x, x < 0 → 0 < S.place x) := Lib.hid (by
    obtain ⟨a, ρ, h⟩ := HW1.out
    exact ⟨_, a, ρ, h, Tar.start, rfl, fun x hx => by omega⟩)
  clear HW1
  go_loopw [9] (fun i wr => ∃ k : Nat, k ≤ n ∧ i = .int .i64 k ∧ Hid (∃ S a ρ, WkIn wr w.heap.size g EL n S a ρ ∧ Tar EL n S ∧ S.way = [] ∧ ∀ x, x < k → 0 < S.place x) ∧ Hid (Below w.heap.size w wr)) (fun i _ => n - (intOf i).toNat)
  case atStart => exact ⟨0, Nat.zero_le _, rfl, HI, X1⟩
  case round =>
    clear HI X1
    obtain ⟨k, hk, rfl, HI, HX⟩ := hrel
    obtain ⟨S, a, ρ, hW, hT, hw, hp⟩ := HI.out
    clear HI
    have HW := Lib.hid hW
    have HT := Lib.hid hT
    have HWN := Lib.hid hw
    have HP := Lib.hid hp
    clear hW hT hw hp
    obtain ⟨gp, gb, gg, E1, ce1, Ay, cy, Ao, co, Ap, cp, vs⟩ := a
    by_cases hkn : k < n
    · have q2 := HW.out.blk.cells 2 _ rfl
      obtain ⟨c2, _⟩ := HW.out.p_at hkn
      dsimp only at q2 c2
      obtain ⟨pk, hpk⟩ : ∃ z, S.place k = z := ⟨_, rfl⟩
      rw [hpk] at c2
      have HPK := Lib.hid hpk
      clear hpk
      by_cases h0 : pk = 0
      · have hcmp : ((pk : Int) == 0) = true := by simpa using h0
        have HFR := Lib.hid (sfrom_any w.heap.size g n k EL S _ ρ wr HW.out HT.out HWN.out hkn (by rw [HPK.out]; exact h0))
        clear h0
        go_wp2_with (go_at_call 36; go_loud (refine HFR.out.mono ?_); rintro e w5 ⟨rfl, hf, hb⟩; have HF := Lib.hid hf; have X5 := Lib.hid (HX.out.trans hb); clear hf hb)
        go_roundw
        case rel =>
          obtain ⟨S', a', ρ', h1, h2, h3, h4, h5⟩ := HF.out
          refine ⟨k + 1, by omega, by go_num, Lib.hid ⟨S', a', ρ', h1, h2, h3, fun x hx => ?_⟩, X5⟩
          rcases Nat.lt_or_ge x k with q | q
          · exact h4 x (HP.out x q)
          · obtain rfl : x = k := by omega
            exact h5
        case measure => simp [intOf]; omega
      · have hp0 : ¬ (pk : Int) = 0 := by omega
        have hcmp : ((pk : Int) == 0) = false := by simpa using h0
        go_wp2_with fail
        go_roundw
        case rel =>
          refine ⟨k + 1, by omega, by go_num, Lib.hid ⟨S, _, _, HW.out, HT.out, HWN.out, fun x hx => ?_⟩, HX⟩
          rcases Nat.lt_or_ge x k with q | q
          · exact HP.out x q
          · obtain rfl : x = k := by omega
            rw [HPK.out]
            omega
        case measure => simp [intOf]; omega
    · obtain rfl : k = n := by omega
      have q7 := HW.out.blk.cells 7 _ rfl
      dsimp only at q7
      go_wp2_with fail
      go_ret
      exact ⟨Ap, cp, S.parts, rfl, HT.out.end_ HWN.out HP.out, HW.out.parts_at, HX.out⟩
end Go.Proofs.Ytefgepppcmhphaa
namespace Go.Proofs.Ytefgepppcmhphaa
set_option maxRecDepth 100000
set_option linter.unusedVariables false
set_option linter.unusedSimpArgs false
open Go.ChangeShapes Go.WideShapes Go.ChangeAt Go.RowKit
set_option linter.unusedVariables false

/-- Does a list lead to one of a part? -/
def leadB (L : List Int) (p : List Nat) : Bool := L.any fun t => p.any fun v => decide ((v : Int) = t)
def cycB (EL : List (List Int)) (p : List Nat) : Bool := p.any fun f => leadB (eds EL f) p
theorem lead_take {L : List Int} {p : List Nat} {s : Nat} (hs : s < L.length) : leadB (L.take (s + 1)) p = (leadB (L.take s) p || p.any fun v => decide ((v : Int) = L[s])) := by
  unfold leadB
  rw [List.take_add_one, List.getElem?_eq_getElem hs, List.any_append]
  simp
theorem lead_more {L : List Int} {p : List Nat} {k : Nat} (h : leadB (L.take k) p = true) : leadB L p = true := by
  unfold leadB at h ⊢
  obtain ⟨t, ht, h⟩ := List.any_eq_true.mp h
  exact List.any_eq_true.mpr ⟨t, List.mem_of_mem_take ht, h⟩
theorem cyc_iff {EL : List (List Int)} {p : List Nat} : cycB EL p = true ↔ ∃ f ∈ p, ∃ t ∈ p, edgeB EL f t := by
  unfold cycB leadB
  rw [List.any_eq_true]
  constructor
  · rintro ⟨f, hf, h⟩
    obtain ⟨t, ht, h⟩ := List.any_eq_true.mp h
    obtain ⟨v, hv, h⟩ := List.any_eq_true.mp h
    have e : (v : Int) = t := by simpa using h
    exact ⟨f, hf, v, hv, by unfold edgeB; rw [e]; exact ht⟩
  · rintro ⟨f, hf, t, ht, h⟩
    exact ⟨f, hf, List.any_eq_true.mpr ⟨(t : Int), h, List.any_eq_true.mpr ⟨t, ht, by simp⟩⟩⟩
/-- The set of a part. -/
def hasB (p : List Nat) (g : Nat) : Bool := p.any fun v => decide (v = g)
theorem has_any {p : List Nat} {t : Nat} : (p.any fun v => decide ((v : Int) = (t : Int))) = hasB p t := by
  unfold hasB
  congr 1
  funext v
  exact decide_eq_decide.mpr (by omega)
theorem has_snoc {p : List Nat} {t : Nat} (ht : t < p.length) (g : Nat) : hasB (p.take (t + 1)) g = (hasB (p.take t) g || decide (g = p[t])) := by
  unfold hasB
  rw [List.take_add_one, List.getElem?_eq_getElem ht, List.any_append]
  simp
  congr 1
  exact decide_eq_decide.mpr ⟨fun h => h.symm, fun h => h.symm⟩

set_option maxHeartbeats 1600000 in
theorem sleads_any (L : List Int) (p : List Nat) (n b : Nat) (A : Option Addr) (c : Nat) (w : World) (hL : SlcIs IntAt 1 w w.heap.size A c L) (hM : MetIs w b (hasB p) n) (hn : n ≤ 1048576) (hr : ∀ t ∈ L, 0 ≤ t ∧ t < (n : Int)) :
    Calls Try.prog 38 #[.slice A L.length c, .map (some b)] w fun e w' => e = .returned (.bool (leadB L p)) ∧ Below w.heap.size w w' := by
  have HLS := Lib.hid hL
  have HM := Lib.hid hM
  have HR := Lib.hid hr
  have hb := hM.lt
  have hc1 := hL.le
  have hc2 := hL.cap
  clear hL hM hr
  go_enter Try.func38, Try.ntmps38
  go_wp2_with fail
  go_loopw [11] (fun i wr => ∃ s : Nat, s ≤ L.length ∧ i = .int .i64 s ∧ Hid (leadB (L.take s) p = false) ∧ Hid (Below w.heap.size w wr)) (fun i _ => L.length - (intOf i).toNat)
  case atStart => exact ⟨0, Nat.zero_le _, rfl, Lib.hid rfl, Lib.hid (Below.refl _ _)⟩
  case round =>
    obtain ⟨s, hs, rfl, HF, HX⟩ := hrel
    by_cases hsl : s < L.length
    · obtain ⟨t, ht⟩ : ∃ t, L[s] = t := ⟨_, rfl⟩
      obtain ⟨t0, t1⟩ := HR.out t (by rw [← ht]; exact List.getElem_mem hsl)
      obtain ⟨ad, rfl, hab, hc⟩ := HLS.out.row.at_ hsl
      rw [Nat.mul_one, ht] at hc
      have c0 := (HX.out.cell (p := ad.add s) (by rw [addr_add_block]; exact hab)).trans hc
      obtain ⟨tn, rfl⟩ := Int.eq_ofNat_of_zero_le t0
      have htn : tn < n := by omega
      have HSN : Hid (leadB (L.take (s + 1)) p = hasB p tn) := Lib.hid (by rw [lead_take hsl, HF.out, Bool.false_or, ht, has_any])
      have HM1 := Lib.hid (HM.out.below HX.out hb)
      clear hc t0 t1 ht hab
      cases hq : hasB p tn
      · have HQ := Lib.hid hq
        clear hq
        go_upto_region 4 with fail
        go_wp2_with (at_lookup; go_loud (refine wp_met_look _ rfl _ _ 81 rfl Try.underlying81 b n tn (hasB p) false rfl HM1.out htn hn rfl HQ.out ?_))
        go_roundw
        case rel => exact ⟨s + 1, by omega, by go_num, Lib.hid (HSN.out.trans HQ.out), Lib.hid (HX.out.alloc HX.out.size _)⟩
        case measure => simp [intOf]; omega
      · have HQ := Lib.hid hq
        clear hq
        go_upto_region 4 with fail
        go_wp2_with (at_lookup; go_loud (refine wp_met_look _ rfl _ _ 81 rfl Try.underlying81 b n tn (hasB p) true rfl HM1.out htn hn rfl HQ.out ?_))
        go_ret
        exact ⟨by rw [lead_more (HSN.out.trans HQ.out)]; rfl, HX.out.alloc HX.out.size _⟩
    · obtain rfl : s = L.length := by omega
      rw [List.take_length] at HF
      go_wp2_with fail
      go_ret
      exact ⟨by rw [HF.out]; rfl, HX.out⟩
theorem sleads_is {L : List Int} {p : List Nat} {n b c k : Nat} {A : Option Addr} {w : World} {r : Bool} (HL : Hid (SlcIs IntAt 1 w w.heap.size A c L)) (HM : Hid (MetIs w b (hasB p) n)) (hn : n ≤ 1048576) (HR : Hid (∀ t ∈ L, 0 ≤ t ∧ t < (n : Int))) (HB : Hid (leadB L p = r)) (HK : Hid (L.length = k)) :
    Calls Try.prog 38 #[.slice A k c, .map (some b)] w fun e w' => e = .returned (.bool r) ∧ Below w.heap.size w w' := by
  obtain rfl := HK.out
  have := sleads_any L p n b A c w HL.out HM.out hn HR.out
  rw [HB.out] at this
  exact this
theorem below_grown {w w' : World} (h : Below w.heap.size w w') : w.grownBy w' none := ⟨h.os, h.tape, h.output, h.size, fun k hk _ => h.block k hk⟩
set_option maxHeartbeats 3200000 in
theorem scyclic_any (EL : List (List Int)) (n : Nat) (E : Option Addr) (ce : Nat) (p : List Nat) (A : Option Addr) (c : Nat) (w : World) (hE : SlcIs (SlcAt IntAt 1) 1 w w.heap.size E ce EL) (hn : EL.length = n) (hl : n ≤ 1048576) (he : ∀ f : Nat, ∀ t ∈ eds EL f, 0 ≤ t ∧ t < (n : Int)) (hp : ∀ v ∈ p, v < n) (hA : Lies w w.heap.size A (natV p)) (hc1 : p.length ≤ c) (hc2 : c ≤ 9223372036854775807) :
    Calls Try.prog 22 #[.slice E n ce, .slice A p.length c] w fun e w' => e = .returned (.bool (cycB EL p)) ∧ Below w.heap.size w w' := by
  have hce1 := hE.le
  have hce2 := hE.cap
  rw [hn] at hce1
  have HE := Lib.hid hE
  have HN := Lib.hid hn
  have HEL := Lib.hid he
  have HP := Lib.hid hp
  have HA := Lib.hid hA
  have hmm := @run_makeMap Try.prog
  have HM0 := Lib.hid ((MetIs.made w n).cong (q := hasB (p.take 0)) (fun g _ => by simp [hasB]))
  have HX0 := Lib.hid ((Below.refl w.heap.size w).alloc (Nat.le_refl _) (.map #[] 0))
  clear hE hn he hp hA
  go_enter Try.func22, Try.ntmps22
  go_wp2_with fail
  go_loopw [12] (fun i wr => ∃ t : Nat, t ≤ p.length ∧ i = .int .i64 t ∧ Hid (MetIs wr w.heap.size (hasB (p.take t)) n) ∧ Hid (Below w.heap.size w wr)) (fun i _ => p.length - (intOf i).toNat)
  case atStart => exact ⟨0, Nat.zero_le _, rfl, HM0, HX0⟩
  case round =>
    clear HM0 HX0
    obtain ⟨t, ht, rfl, HM, HX⟩ := hrel
    by_cases htp : t < p.length
    · obtain ⟨x, hx⟩ : ∃ x, p[t] = x := ⟨_, rfl⟩
      have hxn := HP.out x (by rw [← hx]; exact List.getElem_mem htp)
      obtain ⟨ad, rfl, hab, hc⟩ := HA.out t (.int .i64 (x : Int)) (natV_at (by rw [List.getElem?_eq_getElem htp, hx]))
      have c0 := (HX.out.cell (p := ad.add t) (by rw [addr_add_block]; exact hab)).trans hc
      have HSN := Lib.hid (fun g : Nat => has_snoc htp g)
      rw [hx] at HSN
      clear hc hx hab
      go_wp2_with (at_mapUpdate; go_loud (refine wp_met_store _ rfl _ _ _ 81 (.inl rfl) Try.underlying81 w.heap.size n x _ rfl HM.out hxn hl rfl rfl ?_); intro w7 hm7 hg7; have HM7 := Lib.hid hm7; have HX7 := Lib.hid (HX.out.grown hg7 HX.out.size (fun j hj => by injection hj with hj; omega)); clear hm7 hg7)
      go_roundw
      case rel => exact ⟨t + 1, by omega, by go_num, Lib.hid (HM7.out.cong (fun g _ => (HSN.out g).symm)), HX7⟩
      case measure => simp [intOf]; omega
    · obtain rfl : t = p.length := by omega
      rw [List.take_length] at HM
      have hbl := HM.out.lt
      obtain ⟨D, hD, hh⟩ := HM.out
      have HH := Lib.hid hh
      have HMR := HM
      clear HM hh
      obtain ⟨w0, hw0⟩ : ∃ W, W = wr := ⟨_, rfl⟩
      subst hw0
      go_wp2_with (at_range; go_loud (refine wpList_range_own _ rfl _ 81 rfl 3 82 law_int Try.underlying81 _ w.heap.size _ D rfl hD ?_); intro w3 hrg0 hg0 hs0)
      have HMP : Hid (∀ x : Int, Go.Maps.has D (.int .i64 x) = true ↔ ∃ g : Nat, x = (g : Int) ∧ g < n ∧ hasB p g = true) := Lib.hid (fun x => by
        rw [HH.out x, decide_eq_true_eq, mem_pick])
      have HM3 := Lib.hid (HMR.out.kept hg0 (by simp))
      have HX3 := Lib.hid (HX.out.grown hg0 HX.out.size (fun j hj => by cases hj))
      have hlt0 : w.heap.size < w0.heap.size := hbl
      have HD0 : Hid (∀ x : Nat, Go.Maps.has D (.int .i64 (x : Int)) = true → Go.Maps.has D (.int .i64 (x : Int)) = false → leadB (eds EL x) p = false) := Lib.hid (fun x h1 h2 => by rw [h1] at h2; cases h2)
      go_frame
      go_loopw [8] (fun _ wr => ∃ (left : Lit → Bool) (cnt : Nat), wr.ranges Try.prog 3 (unitElem (H := Unit)) w.heap.size w0.heap.size (Go.Maps.size D) D left cnt ∧ Hid (∀ x : Nat, Go.Maps.has D (.int .i64 (x : Int)) = true → left (.int .i64 (x : Int)) = false → leadB (eds EL x) p = false) ∧ Hid (MetIs wr w.heap.size (hasB p) n) ∧ Hid (Below w.heap.size w wr)) (fun _ wr => wr.rangeLeft w.heap.size w0.heap.size)
      case atStart => exact ⟨_, _, hrg0, HD0, HM3, HX3⟩
      case round =>
        clear HD0 HM3 HX3 HX HMR
        obtain ⟨left, cnt, hrg, HDN, HMR, HX⟩ := hrel
        go_wp2_with (at_next; go_loud (refine wpList_next_ranges _ rfl _ rfl 3 law_int (unitElem (H := Unit)) (Value.int .i64) (fun _ : Unit => .agg #[]) (fun key kl hk => by obtain ⟨x, hx, _⟩ := Maps.keyOf_int_inv Try.underlying3 hk; exact ⟨x, hx⟩) (fun v y hv => by obtain ⟨rfl, _⟩ := unitElem_inv hv; exact ⟨(), rfl⟩) w.heap.size w0.heap.size _ _ _ _ rfl hrg ?_ ?_))
        · intro hc0 hl0
          have HC : Hid (cycB EL p = false) := Lib.hid (by
            unfold cycB
            rw [List.any_eq_false]
            intro f hf
            have hfn := HP.out f hf
            have hb : hasB p f = true := by unfold hasB; exact List.any_eq_true.mpr ⟨f, hf, by simp⟩
            rw [HDN.out f ((HMP.out f).mpr ⟨f, rfl, hfn, hb⟩) (hl0 _)]
            simp)
          clear hc0 hl0 hrg
          go_wp2_with fail
          go_ret
          exact ⟨by rw [HC.out]; rfl, HX.out⟩
        · intro x c kl y w2 cnt2 hkey hlk hv hat hrg2 hlt hg2 hs2 hen
          obtain ⟨x', ex, rfl, _⟩ := Maps.keyOf_int_inv Try.underlying3 hkey
          cases ex
          obtain ⟨f, rfl, hfn, hfp⟩ := (HMP.out x).mp (Go.Maps.has_true_of_atKey hat)
          have HM2 := Lib.hid (HMR.out.kept hg2 (by simp; omega))
          have HX2 := Lib.hid (HX.out.grown hg2 HX.out.size (fun j hj => by cases hj; omega))
          have hfl : f < EL.length := by rw [HN.out]; exact hfn
          obtain ⟨L, hL⟩ : ∃ L, EL[f] = L := ⟨_, rfl⟩
          have heds : eds EL f = L := by unfold eds; rw [List.getElem?_eq_getElem hfl, hL]; rfl
          obtain ⟨adE, rfl, hab, AL, cL, hcE, hLS⟩ := HE.out.row f L (by rw [List.getElem?_eq_getElem hfl, hL])
          rw [Nat.mul_one] at hcE
          have HLS := Lib.hid hLS
          have HRL : Hid (∀ t ∈ L, 0 ≤ t ∧ t < (n : Int)) := Lib.hid (fun t ht => HEL.out f t (by rw [heds]; exact ht))
          have HED := Lib.hid heds
          have HCE := Lib.hid hcE
          have HSN := Lib.hid (snode_any (some adE) n ce (f : Int) w2 true (by rw [decide_eq_true (by omega), decide_eq_true (by omega)]; rfl))
          clear hs2 hkey hv hLS hcE hL hfl heds
          have HCY : Hid (leadB L p = true → cycB EL p = true) := Lib.hid (fun q => by
            unfold hasB at hfp
            obtain ⟨v, hv, e⟩ := List.any_eq_true.mp hfp
            have e : v = f := by simpa using e
            subst e
            exact List.any_eq_true.mpr ⟨v, hv, by rw [HED.out]; exact q⟩)
          clear hfp hat
          cases hq : leadB L p
          · have HQ := Lib.hid hq
            clear hq
            go_wp2_with (first | (go_at_call 37; go_loud (refine HSN.out.mono ?_); rintro e w4 ⟨rfl, hb4⟩; have HR4 := Lib.hid (hrg2.kept (below_grown hb4) (by simp) (by simp)); have HM4 := Lib.hid (HM2.out.kept (below_grown hb4) (by simp)); have HX4 := Lib.hid (HX2.out.trans (hb4.mono HX2.out.size)); have c4 := (HX4.out.cell (p := adE.add f) (by rw [addr_add_block]; exact hab)).trans HCE.out; have HL4 := Lib.hid ((HLS.out.below_to IntAt.keeps HX4.out (Nat.le_refl _)).keep' IntAt.keeps HX4.out.size (fun _ _ => rfl)); clear hb4) | (go_at_call 38; go_loud (refine (sleads_is HL4 HM4 hl HRL HQ (Lib.hid rfl)).mono ?_); rintro e w5 ⟨rfl, hb5⟩; have HR5 := Lib.hid (HR4.out.kept (below_grown hb5) (by simp) (by simp)); have HM5 := Lib.hid (HM4.out.kept (below_grown hb5) (by simp)); have HX5 := Lib.hid (HX4.out.trans (hb5.mono HX4.out.size)); clear hb5))
            go_roundw
            case rel =>
              refine ⟨_, cnt2, HR5.out, Lib.hid (fun z h1 h2 => ?_), HM5, HX5⟩
              by_cases e : z = f
              · subst e; rw [HED.out, HQ.out]
              · refine HDN.out z h1 ?_
                have : ((Lit.int .i64 (z : Int)).sameKey (.int .i64 (f : Int))) = false := by simp [Lit.sameKey]; omega
                rw [this] at h2
                simpa using h2
            case measure => rw [HR5.out.left_eq, hrg.left_eq]; exact hlt
          · have HQ := Lib.hid hq
            clear hq
            go_wp2_with (first | (go_at_call 37; go_loud (refine HSN.out.mono ?_); rintro e w4 ⟨rfl, hb4⟩; have HM4 := Lib.hid (HM2.out.kept (below_grown hb4) (by simp)); have HX4 := Lib.hid (HX2.out.trans (hb4.mono HX2.out.size)); have c4 := (HX4.out.cell (p := adE.add f) (by rw [addr_add_block]; exact hab)).trans HCE.out; have HL4 := Lib.hid ((HLS.out.below_to IntAt.keeps HX4.out (Nat.le_refl _)).keep' IntAt.keeps HX4.out.size (fun _ _ => rfl)); clear hb4) | (go_at_call 38; go_loud (refine (sleads_is HL4 HM4 hl HRL HQ (Lib.hid rfl)).mono ?_); rintro e w5 ⟨rfl, hb5⟩; have HX5 := Lib.hid (HX4.out.trans (hb5.mono HX4.out.size)); clear hb5))
            go_ret
            exact ⟨by rw [HCY.out HQ.out]; rfl, HX5.out⟩
end Go.Proofs.Ytefgepppcmhphaa
namespace Go.Proofs.Ytefgepppcmhphaa
set_option maxRecDepth 100000
set_option linter.unusedVariables false
set_option linter.unusedSimpArgs false
open Go.ChangeShapes Go.WideShapes Go.ChangeAt Go.RowKit
set_option linter.unusedVariables false
set_option linter.unusedSimpArgs false

/-- What Bound answers: numbers, or an error. -/
def DBoundOut (m : Img) (maps : List (List Shp)) (w : World) (e : Ending) (w' : World) : Prop := ∃ A n c er, e = .returned (.tuple #[.slice A n c, .int .i64 er]) ∧ Below w.heap.size w w' ∧ (ringsB m = false → er = 5 ∧ n = 0) ∧ (ringsB m = true → er = 0 ∧ n = m.methods.length ∧ SlcIs IntAt 1 w' w'.heap.size A c (boundsOf m maps) ∧ ∀ ad, A = some ad → w.heap.size ≤ ad.block)
theorem srings_is {EL : List (List Int)} {n : Nat} {E : Option Addr} {ce : Nat} {w : World} (hE : Hid (SlcIs (SlcAt IntAt 1) 1 w w.heap.size E ce EL)) (hn : Hid (EL.length = n)) (hl : n ≤ 12) (he : Hid (∀ l ∈ EL, l.length ≤ 1048576)) :
    Calls Try.prog 20 #[.slice E n ce] w (RingsOut EL n w) :=
  srings_any EL n E ce w hE.out hn.out (by omega) he.out
theorem scyclic_is {EL : List (List Int)} {n np : Nat} {E : Option Addr} {ce : Nat} {p : List Nat} {A : Option Addr} {c : Nat} {w : World} {b : Bool} (hE : Hid (SlcIs (SlcAt IntAt 1) 1 w w.heap.size E ce EL)) (hn : Hid (EL.length = n)) (hl : n ≤ 12) (he : Hid (EdgesIn EL n ∧ ∀ g : Nat, (EL[g]?.getD []).length ≤ 12)) (hp : Hid ((∀ g ∈ p, g < n) ∧ p.length ≤ 12)) (hA : Hid (Lies w w.heap.size A (natV p))) (hc : Hid (p.length ≤ c ∧ c ≤ 9223372036854775807)) (hk : Hid (p.length = np)) (hb : Hid (cycB EL p = b)) :
    Calls Try.prog 22 #[.slice E n ce, .slice A np c] w fun e w' => e = .returned (.bool b) ∧ Below w.heap.size w w' := by
  obtain rfl := hk.out
  have H := scyclic_any EL n E ce p A c w hE.out hn.out (by omega) he.out.1 hp.out.1 hA.out hc.out.1 hc.out.2
  rw [hb.out] at H
  exact H
theorem part_lies {w : World} {gi : Nat} {p : List Nat} (hg : gi < w.heap.size) (h : ∀ (j v : Nat), p[j]? = some v → w.cell? ⟨gi, j, none⟩ = some (.int .i64 (v : Int))) : Lies w w.heap.size (some ⟨gi, 0, none⟩) (natV p) := fun j u hj => by
  unfold natV at hj
  rw [List.getElem?_map] at hj
  cases hp : p[j]? with
  | none => rw [hp] at hj; cases hj
  | some v =>
    rw [hp] at hj
    injection hj with hj
    subst hj
    refine ⟨_, rfl, hg, ?_⟩
    rw [show Addr.add ⟨gi, 0, none⟩ j = ⟨gi, j, none⟩ by unfold Addr.add; split <;> simp_all]
    exact h j v hp
theorem parts_set {w : World} {B c g i : Nat} {A : Option Addr} {P : List (List Nat)} {v : Value} (h : PartsAt w B A c P) (hg : g < B) : PartsAt (w.setCell ⟨g, i, none⟩ v) B A c P :=
  h.keep (by simp) (fun b hb _ => Below.heap_setCell w ⟨g, i, none⟩ v b (by show b ≠ g; omega))
/-- Whether one of a ring leads to itself: all of it, or none. -/
theorem cyc_way {EL : List (List Int)} {n : Nat} {P : List (List Nat)} (h : RingsOf EL n P) {i f : Nat} (hi : i < P.length) (hf : f ∈ P[i]) : wayB EL n f f = cycB EL P[i] :=
  Bool.eq_iff_iff.mpr ((h.cyc hi hf).symm.trans cyc_iff.symm)
theorem times_often {m : Img} {f : Nat} {b : Bool} (h : wayB (edgesOf m) m.methods.length f f = b) : timesOf m f = oftenOf m b f := by
  unfold timesOf oftenOf
  rw [h]
theorem bad_never {m : Img} {f : Nat} {b : Bool} (h : wayB (edgesOf m) m.methods.length f f = b) (h0 : oftenOf m b f = 0) : badRing m f = true := by
  unfold badRing
  rw [h]
  unfold oftenOf at h0
  cases b
  · rw [if_neg (by decide)] at h0; omega
  · rw [if_pos rfl] at h0
    rw [h0]
    rfl
theorem good_often {m : Img} {f : Nat} {b : Bool} (hm : SaneI m) (hf : f < m.methods.length) (h : wayB (edgesOf m) m.methods.length f f = b) (h0 : oftenOf m b f ≠ 0) : badRing m f = false := by
  have hl := (often_low (cyc := b) hm hf).1
  unfold badRing
  rw [h]
  unfold oftenOf at h0 hl
  cases b
  · rfl
  · rw [if_pos rfl] at h0 hl
    rw [decide_eq_false (by omega)]
    rfl
theorem lies_set {w : World} {gi g i : Nat} {xs : List Value} {v : Value} (h : Lies w w.heap.size (some ⟨gi, 0, none⟩) xs) (hg : gi ≠ g) : Lies (w.setCell ⟨g, i, none⟩ v) (w.setCell ⟨g, i, none⟩ v).heap.size (some ⟨gi, 0, none⟩) xs := fun j u hu => by
  obtain ⟨ad, e, hb, hc⟩ := h j u hu
  injection e with e
  subst e
  refine ⟨_, rfl, by simpa using hb, ?_⟩
  exact (World.cell?_of_block (w := w) (Below.heap_setCell w ⟨g, i, none⟩ v _ (by rw [addr_add_block]; exact hg))).trans hc
set_option maxHeartbeats 12800000 in
theorem dbound_own (m : Img) (maps : List (List Shp)) (A : Option Addr) (c : Nat) (h : Hnd) (w : World) (H : ImgIn w w.heap.size h m) (hs : saneB8 m = true) (hM : SlcIs (SlcAt ShpAt 2) 1 w w.heap.size A c maps) (hz : MapsTo 4000 maps) :
    Calls Try.prog 9 #[imgV h m, .slice A maps.length c] w (DBoundOut m maps w) := by
  obtain ⟨i1, hi1, hy0, hy1, hy2⟩ := info_partsK info_int
  have HW := Lib.hid (below_box (w := w) (h := h) (m := m))
  have HBX := Lib.hid (img_box w h m)
  have HZ : Hid (w.heap.size < (w.alloc (imgO h m)).heap.size) := Lib.hid (by simp)
  have HI := Lib.hid (H.now HW.out)
  have HM0 := Lib.hid (slcUp RowAt.keeps hM HW.out)
  have HMZ := Lib.hid hz
  have hm := saneB8_yes hs
  have HM := Lib.hid hm
  have hl1 := hM.le
  have hl2 := hM.cap
  obtain ⟨n, hn⟩ : ∃ n, m.methods.length = n := ⟨_, rfl⟩
  have hn12 : n ≤ 12 := by have := (saneB8_parts hs).1; omega
  have HN := Lib.hid hn
  have HGC : Hid (m.classes.length ≤ 1000 ∧ m.methods.length ≤ 1000 ∧ ∀ x ∈ m.methods, x.code.length ≤ 1048576) := Lib.hid ⟨by have := hm.fits.cl; omega, by omega, fun x hx => by have := (hm.method hx).fits.cl; omega⟩
  obtain ⟨EL, hEL⟩ : ∃ EL, edgesOf m = EL := ⟨_, rfl⟩
  have HEQ := Lib.hid hEL
  have HELN : Hid (EL.length = n) := Lib.hid (by rw [← hEL, edges_len]; exact hn)
  have hrow : ∀ g : Nat, (EL[g]?.getD []).length ≤ 12 := fun g => by
    rw [← hEL]
    rcases Nat.lt_or_ge g m.methods.length with q | q
    · rw [edges_at q]
      have := calls_len m (g : Int)
      show (callsOf m (g : Int)).length ≤ 12
      omega
    · rw [List.getElem?_eq_none (by rw [edges_len]; exact q)]
      exact Nat.zero_le _
  have HED : Hid (EdgesIn EL n ∧ ∀ g : Nat, (EL[g]?.getD []).length ≤ 12) := Lib.hid ⟨by rw [← hEL, ← hn]; exact edges_in m, hrow⟩
  have HRL : Hid (∀ l ∈ EL, l.length ≤ 1048576) := Lib.hid (fun l hl => by
    obtain ⟨i, hi, rfl⟩ := List.mem_iff_getElem.mp hl
    have := hrow i
    rw [List.getElem?_eq_getElem hi] at this
    have : EL[i].length ≤ 12 := this
    omega)
  obtain ⟨nm, hnm⟩ : ∃ z, maps.length = z := ⟨_, rfl⟩
  have HMN := Lib.hid hnm
  rw [hnm] at hl1 ⊢
  clear H hM hz hs hn hEL hnm hrow hm
  have HX : Hid (Below (w.alloc (imgO h m)).heap.size (w.alloc (imgO h m)) (w.alloc (imgO h m))) := Lib.hid (Below.refl _ _)
  go_enter Try.func9, Try.ntmps9
  go_upto_region 1 with fail
  generalize w.alloc (imgO h m) = w1 at *
  obtain ⟨q0, q1, q2, q3, q4, q5, q6⟩ := HBX.out
  go_upto_region 2 with (go_at_call 19; (with_reducible refine (dgraph_is HI HX HGC HN HEQ).mono ?_); rintro e w2 ⟨gE, rfl, hg1, hg2, hs, hb⟩; have HE2 := Lib.hid hs; have HX2 := Lib.hid hb; have HGE := Lib.hid hg2; clear hg1 hg2 hs hb)
  clear HX q0 q1 q2 q3 q4 q5 q6
  go_upto_region 3 with (at_make; refine wpList_make_full _ rfl _ _ 26 rfl w2.heap.size 3 i1 (.int .i64 0) 1 Try.underlying26 hi1 hy0 hy1 .i64 .i64 _ _ n rfl rfl rfl rfl (by rw [hy2]; omega) (by unfold maxLen; omega) (Nat.le_refl _) ?_; intro w3 hown hgrow; have HO3 := Lib.hid hown; have HB3 := Lib.hid ((Below.refl w2.heap.size w2).grown hgrow (Nat.le_refl _) (fun k hk => by cases hk)); clear hown hgrow)
  have HNI : Hid (NumsIn w3 w2.heap.size (List.replicate n 0)) := Lib.hid (by
    have h1 := own_whole1 HO3.out
    rw [made_one (v := .int .i64 0) rfl] at h1
    unfold NumsIn
    rw [List.map_replicate]
    exact h1)
  obtain ⟨gB, hgB⟩ : ∃ z, w2.heap.size = z := ⟨_, rfl⟩
  have HGB : Hid (w2.heap.size ≤ gB) := Lib.hid (by rw [hgB]; exact Nat.le_refl _)
  have HGB2 : Hid (w1.heap.size ≤ gB) := Lib.hid (by rw [← hgB]; exact HX2.out.size)
  have HGB3 : Hid (gB < w3.heap.size) := Lib.hid (by rw [← hgB]; exact Whole.lt HNI.out)
  rw [hgB] at HNI
  clear HO3
  try simp only [hgB]
  clear hgB
  have HE3 : Hid (SlcIs (SlcAt IntAt 1) 1 w3 w3.heap.size (some ⟨gE, 0, none⟩) n EL) := Lib.hid (slcUp (SlcAt.keeps IntAt.keeps 1) HE2.out HB3.out)
  go_upto_region 4 with (go_at_call 20; (with_reducible refine (srings_is HE3 HELN hn12 HRL).mono ?_); rintro e w4 ⟨Ap, cp, P, rfl, hr, hpa, hb⟩; have HR := Lib.hid hr; have HPA := Lib.hid hpa; have HB4 := Lib.hid (HB3.out.trans (hb.mono HB3.out.size)); have HN4 := Lib.hid (HNI.out.keep hb); clear hr hpa hb)
  have hpl1 := HPA.out.le
  have hpl2 := HPA.out.cap
  have HDI : Hid (DInv EL n (costOf m maps) P 0 (List.replicate n 0)) := Lib.hid DInv.start
  have hPl : P.length ≤ 12 := by
    have h1 : P.length ≤ P.flatten.length := by
      have h2 : ∀ Q : List (List Nat), (∀ c ∈ Q, c ≠ []) → Q.length ≤ Q.flatten.length := by
        intro Q
        induction Q with
        | nil => intro _; exact Nat.le_refl _
        | cons c Q ih =>
          intro hq
          have h3 := ih (fun c hc => hq c (List.mem_cons_of_mem _ hc))
          have h4 := List.length_pos_iff.mpr (hq c (List.mem_cons_self ..))
          rw [List.flatten_cons, List.length_append, List.length_cons]
          omega
      exact h2 P (fun c hc => (HR.out.srt c hc).1)
    have h2 : P.flatten.length ≤ n := nod_len HR.out.nod HR.out.lt
    omega
  generalize (List.replicate n (0 : Int)) = O0 at *
  clear HNI HE3
  try simp only [HN.out]
  go_loopw [23] (fun i wr => ∃ (k : Nat) (O : List Int), k ≤ P.length ∧ i = .int .i64 k ∧ Hid (DInv EL n (costOf m maps) P k O) ∧ Hid (∀ j, (hj : j < P.length) → j < k → ∀ g ∈ P[j], badRing m g = false) ∧ Hid (NumsIn wr gB O) ∧ Hid (PartsAt wr w3.heap.size Ap cp P) ∧ Hid (Below w2.heap.size w2 wr)) (fun i _ => P.length - (intOf i).toNat)
  case atStart => exact ⟨0, O0, Nat.zero_le _, rfl, HDI, Lib.hid (fun j _ hj => by omega), HN4, HPA, HB4⟩
  case round =>
    clear HDI HN4 HPA HB4
    obtain ⟨i, O, hi, rfl, HDI, HBD, HNI, HPA, HV⟩ := hrel
    by_cases hlt : i < P.length
    rotate_left
    · have hil : ¬ (i : Int) < (P.length : Int) := by omega
      have HDN : Hid (O = boundsOf m maps) := Lib.hid (by
        rw [HDI.out.done HR.out (by omega)]
        unfold boundsOf
        rw [HEQ.out, HN.out])
      have HRB : Hid (ringsB m = true) := Lib.hid (by
        unfold ringsB
        refine range_all.mpr (fun f hf => ?_)
        obtain ⟨p, hp, hfp⟩ := List.mem_flatten.mp (HR.out.all f (by rw [HN.out] at hf; exact hf))
        obtain ⟨j, hj, rfl⟩ := List.mem_iff_getElem.mp hp
        rw [HBD.out j hj (by omega) f hfp]
        rfl)
      have HX := Lib.hid (HX2.out.trans (HV.out.mono HX2.out.size))
      go_wp2_with fail
      refine bodyPost_ret (v := .tuple #[.slice (some ⟨gB, 0, none⟩) n n, .int .i64 0]) (by simp [results, Try.results9, go_sem]) rfl ?_
      exact ⟨some ⟨gB, 0, none⟩, n, n, 0, rfl, HW.out.trans (HX.out.mono (Nat.le_of_lt HZ.out)), fun e => (by rw [HRB.out] at e; cases e), fun _ => ⟨rfl, HN.out.symm, by rw [← HDN.out]; exact HNI.out.slc HDI.out.len (by omega), fun ad e => by injection e with e; subst e; exact Nat.le_trans (Nat.le_of_lt HZ.out) HGB2.out⟩⟩
    obtain ⟨p, hp⟩ : ∃ p, P[i] = p := ⟨_, rfl⟩
    have hpi : P[i]? = some p := by rw [List.getElem?_eq_getElem hlt, hp]
    have HPI := Lib.hid hpi
    obtain ⟨gP, gi, ci, rfl, hgP, hgP2, r0, hgi, hgi2, hci, hci2, hcells⟩ := HPA.out.row i p hpi
    have HPL : Hid (Lies wr wr.heap.size (some ⟨gi, 0, none⟩) (natV p)) := Lib.hid (part_lies hgi2 hcells)
    have HGI : Hid (w3.heap.size ≤ gi) := Lib.hid hgi
    have HCI : Hid (p.length ≤ ci ∧ ci ≤ 9223372036854775807) := Lib.hid ⟨hci, hci2⟩
    have hpn : ∀ g ∈ p, g < n := fun g hg => HR.out.lt g (flat_mem hlt (by rw [hp]; exact hg))
    have hps : p.Pairwise (· < ·) := by have := (HR.out.srt _ (List.getElem_mem hlt)).2; rwa [hp] at this
    have hpl : p.length ≤ 12 := by
      have : p.length ≤ n := nod_len (hps.imp (fun {a b} q => by omega)) hpn
      omega
    have HP : Hid ((∀ g ∈ p, g < n) ∧ p.length ≤ 12) := Lib.hid ⟨hpn, hpl⟩
    have HPM : Hid ((∀ g ∈ p, g < m.methods.length) ∧ p.length ≤ 12) := Lib.hid ⟨fun g hg => by rw [HN.out]; exact hpn g hg, hpl⟩
    have HPS := Lib.hid hps
    obtain ⟨np, hnp⟩ : ∃ z, p.length = z := ⟨_, rfl⟩
    have HNP := Lib.hid hnp
    obtain ⟨cyc, hcyc⟩ : ∃ b, cycB EL p = b := ⟨_, rfl⟩
    have HCY := Lib.hid hcyc
    have HWY : Hid (∀ f ∈ p, wayB (edgesOf m) m.methods.length f f = cyc) := Lib.hid (fun f hf => by
      rw [HEQ.out, HN.out, ← hcyc, ← hp]
      exact cyc_way HR.out hlt (by rw [hp]; exact hf))
    have HSC : Hid (sumP (costC m maps cyc) p = sumP (costOf m maps) p) := Lib.hid (sumP_congr (fun g hg => by unfold costC costOf; rw [times_often (HWY.out g hg)]))
    have HX := Lib.hid (HX2.out.trans (HV.out.mono HX2.out.size))
    have HEr : Hid (SlcIs (SlcAt IntAt 1) 1 wr wr.heap.size (some ⟨gE, 0, none⟩) n EL) := Lib.hid (slcUp (SlcAt.keeps IntAt.keeps 1) HE2.out HV.out)
    have HXD : Hid (Below w1.heap.size w1 wr.drew) := Lib.hid HX.out.drew
    have HVD : Hid (Below w2.heap.size w2 wr.drew) := Lib.hid HV.out.drew
    have HED2 : Hid (SlcIs (SlcAt IntAt 1) 1 wr.drew wr.drew.heap.size (some ⟨gE, 0, none⟩) n EL) := Lib.hid (slcUp (SlcAt.keeps IntAt.keeps 1) HE2.out HVD.out)
    have HPLD : Hid (Lies wr.drew wr.drew.heap.size (some ⟨gi, 0, none⟩) (natV p)) := Lib.hid HPL.out
    rw [hnp] at r0 hpl
    clear hp hpi hgP hgP2 hgi hgi2 hci hci2 hcells hpn hps hnp hcyc
    go_upto_region 6 with fail
    clear r0
    go_region_held3 (fun w' => w'.cell? ⟨w.heap.size, 0, none⟩ = some (.slice h.A0 m.classes.length h.c0) ∧ w'.cell? ⟨w.heap.size, 1, none⟩ = some (.slice h.A1 m.statics.length h.c1) ∧ w'.cell? ⟨w.heap.size, 2, none⟩ = some (.slice h.A2 m.ints.length h.c2) ∧ w'.cell? ⟨w.heap.size, 3, none⟩ = some (.slice h.A3 m.methods.length h.c3) ∧ w'.cell? ⟨w.heap.size, 4, none⟩ = some (.slice h.A4 m.entries.length h.c4) ∧ w'.cell? ⟨w.heap.size, 5, none⟩ = some (.int .i64 m.stack) ∧ w'.cell? ⟨w.heap.size, 6, none⟩ = some (.int .i64 m.heap)) (first | exact HBX.out.keep HXD.out HZ.out | exact HBX.out.keep HX5.out HZ.out | exact HBX.out.keep HX6.out HZ.out) (first
      | (go_at_call 22; (with_reducible refine (scyclic_is HED2 HELN hn12 HED HP HPLD HCI HNP HCY).mono ?_); rintro e w5 ⟨rfl, hb⟩; have HX5 := Lib.hid (HXD.out.trans (hb.mono HXD.out.size)); have HV5 := Lib.hid (HVD.out.trans (hb.mono HVD.out.size)); have HL5 : Hid (Lies w5 w5.heap.size (some ⟨gi, 0, none⟩) (natV p)) := Lib.hid ((HPLD.out.below hb).more hb.size); have HD5 := Lib.hid hb; clear hb)
      | (go_at_call 21; (with_reducible refine (dcells_is HI HX5 HM (Lib.hid (slcUp RowAt.keeps HM0.out HX5.out)) HMZ HMN HL5 HPM HNP).mono ?_); rintro e w6 ⟨s6, ok6, rfl, hno, hyes, hb⟩; have HX6 := Lib.hid (HX5.out.trans (hb.mono HX5.out.size)); have HV6 := Lib.hid (HV5.out.trans (hb.mono HV5.out.size)); have HL6 : Hid (Lies w6 w6.heap.size (some ⟨gi, 0, none⟩) (natV p)) := Lib.hid ((HL5.out.below hb).more hb.size); have HD6 := Lib.hid (HD5.out.trans (hb.mono HD5.out.size)); have HNO := Lib.hid hno; have HYES := Lib.hid hyes; clear hno hyes hb))
    rename_i hHeld
    clear hHeld
    have hi12 : i < 12 := by omega
    cases ok6
    · have HRB : Hid (ringsB m = false) := Lib.hid (by
        obtain ⟨g, hg, h0⟩ := HNO.out rfl
        unfold ringsB
        exact range_not (HPM.out.1 g hg) (by rw [bad_never (HWY.out g hg) h0]; rfl))
      clear HNO HYES
      go_wp2_with fail
      refine bodyPost_ret (v := .tuple #[.slice none 0 0, .int .i64 5]) (by simp [results, Try.results9, go_sem]) rfl ?_
      exact ⟨none, 0, 0, 5, rfl, HW.out.trans (HX6.out.mono (Nat.le_of_lt HZ.out)), fun _ => ⟨rfl, rfl⟩, fun e => by rw [HRB.out] at e; cases e⟩
    have HBD6 : Hid (∀ j, (hj : j < P.length) → j < i + 1 → ∀ g ∈ P[j], badRing m g = false) := Lib.hid (fun j hj hji g hg => by
      rcases Nat.lt_or_ge j i with q | q
      · exact HBD.out j hj q g hg
      · obtain rfl : j = i := by omega
        have e : P[j] = p := by have := HPI.out; rw [List.getElem?_eq_getElem hj] at this; injection this
        rw [e] at hg
        exact good_often HM.out (HPM.out.1 g hg) (HWY.out g hg) ((HYES.out rfl).1 g hg))
    have HS6 : Hid (s6 = sumP (costOf m maps) p) := Lib.hid (by rw [(HYES.out rfl).2, HSC.out])
    have HN6 : Hid (NumsIn w6 gB O) := Lib.hid ((show NumsIn wr.drew gB O from HNI.out).keep HD6.out)
    have HPA6 : Hid (PartsAt w6 w3.heap.size (some ⟨gP, 0, none⟩) cp P) := Lib.hid ((HPA.out.keep (w' := wr.drew) (Nat.le_refl _) (fun _ _ _ => rfl)).keep HD6.out.size (fun b _ hb => HD6.out.block b hb))
    have HE6 : Hid (SlcIs (SlcAt IntAt 1) 1 w6 w6.heap.size (some ⟨gE, 0, none⟩) n EL) := Lib.hid (slcUp (SlcAt.keeps IntAt.keeps 1) HE2.out HV6.out)
    have HOL : Hid (O.length = n ∧ ∀ t, 0 ≤ oN O t) := Lib.hid ⟨HDI.out.len, HDI.out.low⟩
    obtain ⟨r, hr⟩ : ∃ z, (takesOf EL p (oN O) p).foldl mx 0 = z := ⟨_, rfl⟩
    have HRR := Lib.hid hr
    have hrb := foldl_mx (M := 400000 * (i : Int)) (by omega) (takes_low (EL := EL) (p := p) (c := p) (fun t => ⟨HDI.out.low t, HDI.out.top t⟩))
    rw [hr] at hrb
    obtain ⟨hr0, hr1⟩ := hrb
    have hsb := sumP_bounds (C := costOf m maps) (c := p) (M := 32088) (by omega) (fun g => ⟨cost_low HM.out g, cost_top HM.out HMZ.out g⟩)
    rw [← HS6.out] at hsb
    obtain ⟨hs0, hs1⟩ := hsb
    have hs2 : s6 ≤ 385056 := by
      have := HP.out.2
      have : (p.length : Int) * 32088 ≤ 12 * 32088 := Int.mul_le_mul_of_nonneg_right (by omega) (by omega)
      omega
    have hr2 : r ≤ 4800000 := by omega
    clear HNO HYES hr hr1 hs1 HNI HPA
    go_upto_region 10 with (go_at_call 23; (with_reducible refine (dbeyond_is HE6 HELN hn12 HED HL6 HP HPS HNP HN6 HOL HRR).mono ?_); rintro e w7 ⟨rfl, hb⟩; have HV7 := Lib.hid (HV6.out.trans (hb.mono HV6.out.size)); have HN7 := Lib.hid (HN6.out.keep hb); have HPA7 := Lib.hid (HPA6.out.keep hb.size (fun b _ hb' => hb.block b hb')); have HL7 : Hid (Lies w7 w7.heap.size (some ⟨gi, 0, none⟩) (natV p)) := Lib.hid ((HL6.out.below hb).more hb.size); clear hb)
    have HST : Hid (DInv EL n (costOf m maps) P (i + 1) (putAll O p (s6 + r))) := Lib.hid (by
      have e : P[i] = p := by have := HPI.out; rw [List.getElem?_eq_getElem hlt] at this; injection this
      have := HDI.out.step (v := s6 + r) HR.out HED.out.1 hn12 (fun g => ⟨cost_low HM.out g, cost_top HM.out HMZ.out g⟩) hlt (by rw [e, HS6.out, HRR.out])
      rwa [e] at this)
    go_wp2_with fail
    go_loopw [47] (fun j wi => ∃ k : Nat, k ≤ np ∧ j = .int .i64 k ∧ Hid (NumsIn wi gB (putAll O (p.take k) (s6 + r))) ∧ Hid (PartsAt wi w3.heap.size (some ⟨gP, 0, none⟩) cp P) ∧ Hid (Lies wi wi.heap.size (some ⟨gi, 0, none⟩) (natV p)) ∧ Hid (Below w2.heap.size w2 wi)) (fun j _ => np - (intOf j).toNat)
    case atStart => exact ⟨0, Nat.zero_le _, rfl, HN7, HPA7, HL7, HV7⟩
    case round =>
      clear HN7 HPA7 HL7 HV7
      obtain ⟨k, hk, rfl, HNi, HPi, HLi, HVi⟩ := hrel
      by_cases hkn : k < np
      · have hkp : k < p.length := by rw [HNP.out]; exact hkn
        obtain ⟨f, hf⟩ : ∃ f, p[k] = f := ⟨_, rfl⟩
        have hfn : f < n := by rw [← hf]; exact HP.out.1 p[k] (List.getElem_mem hkp)
        obtain ⟨ar, e2, har, l0⟩ := HLi.out k (.int .i64 (f : Int)) (by unfold natV; rw [List.getElem?_map, List.getElem?_eq_getElem hkp, hf]; rfl)
        injection e2 with e2
        subst e2
        have l0 : wr.cell? ⟨gi, k, none⟩ = some (.int .i64 (f : Int)) := by rw [show Addr.add ⟨gi, 0, none⟩ k = ⟨gi, k, none⟩ by unfold Addr.add; split <;> simp_all] at l0; exact l0
        have HY : Hid (NumsIn (wr.setCell ⟨gB, f, none⟩ (.int .i64 (s6 + r))) gB (putAll O (p.take (k + 1)) (s6 + r))) := Lib.hid (by
          rw [putAll_take hkp, hf]
          exact HNi.out.set (s6 + r))
        have c0 := HNi.out.at_ (t := f) (by rw [putAll_len, HOL.out.1]; exact hfn)
        have f0 := Whole.free HNi.out f
        clear hf har hkp
        go_wp2_with fail
        go_roundw
        case rel => exact ⟨k + 1, by omega, by go_num, HY, Lib.hid (parts_set HPi.out HGB3.out), Lib.hid (lies_set HLi.out (by have := HGI.out; have := HGB3.out; omega)), Lib.hid (HVi.out.setCell (p := ⟨gB, f, none⟩) HGB.out _)⟩
        case measure => simp [intOf]; omega
      · have hkl : ¬ (k : Int) < (np : Int) := by omega
        have HNf : Hid (NumsIn wr gB (putAll O p (s6 + r))) := Lib.hid (by have := HNi.out; rwa [List.take_of_length_le (by rw [HNP.out]; omega)] at this)
        go_wp2_with fail
        go_roundw
        case rel => exact ⟨i + 1, _, by omega, by go_num, HST, HBD6, HNf, HPi, HVi⟩
        case measure => simp [intOf]; omega
end Go.Proofs.Ytefgepppcmhphaa
