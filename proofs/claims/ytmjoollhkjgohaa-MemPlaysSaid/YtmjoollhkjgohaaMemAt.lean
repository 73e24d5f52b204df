/-
  What arenas say of a number: at; what there is of cells: Stack, Used, Room, Place, Region.
-/
import Derived.Test.YtmjoollhkjgohaaMemRow
import Derived.IntWalk
import Derived.Laws.ResultCell
import Derived.RegionTactic
import Derived.ChangeAlike
import Derived.Deep.RegionHeld3
import Derived.Deep.QuietTactic
import Derived.BigQuiet
import Derived.Deep.Cut
namespace Go.Proofs.Ytmjoollhkjgohaa
set_option maxRecDepth 100000
set_option linter.unusedVariables false
set_option linter.unusedSimpArgs false
open Go.ChangeShapes Go.WideShapes Go.ChangeAt Go.RowKit
set_option linter.unusedVariables false
set_option linter.unusedSimpArgs false

def atR (l : List Rgn) (n : Int) : Rgn := if n < 0 then ⟨false, 0, 0⟩ else l[n.toNat]?.getD ⟨false, 0, 0⟩
theorem atR_none {l : List Rgn} {n : Int} (h : n < 0 ∨ (l.length : Int) ≤ n) : atR l n = ⟨false, 0, 0⟩ := by
  unfold atR
  split
  · rfl
  · rw [List.getElem?_eq_none (by omega)]; rfl
theorem atR_some {l : List Rgn} {n : Nat} {r : Rgn} (h : l[n]? = some r) : atR l (n : Int) = r := by
  unfold atR
  rw [if_neg (by omega), Int.toNat_natCast, h]; rfl
abbrev rgnA (r : Rgn) : Value := .agg #[.bool r.there, .int .i64 (r.place : Int), .int .i64 (r.cells : Int)]
section
variable {w : World} {B g gs gh cr : Nat} {S : Ara} {Ar : Option Addr} {ρ : Nat → Nat}
theorem mat_any (n : Int) (h : MemIn w B g gs gh S Ar cr ρ) :
    Calls Try.prog 20 #[.pointer (some ⟨g, 0, none⟩), .int .i64 n] w fun e w' => e = .returned (.tuple #[rgnA (atR S.rg n), .bool (atR S.rg n).there]) ∧ Below w.heap.size w w' := by
  have c2 := h.blk.cells 2 _ rfl
  have hcap := h.rcap
  have hg := h.lt.1
  by_cases h0 : n < 0
  · rw [atR_none (.inl h0)]
    go_enter Try.func20, Try.ntmps20
    go_wp2
    (try simp only [Exit.inBlock, Exit.then])
    refine bodyPost_ret (v := .tuple #[rgnA ⟨false, 0, 0⟩, .bool false]) ?_ rfl ⟨rfl, ?_⟩
    · rw [results_cell_tmp rfl]
      go_simp
    · exact (Below.refl _ _).alloc (Nat.le_refl _) _
  · obtain ⟨k, rfl⟩ := Int.eq_ofNat_of_zero_le (show 0 ≤ n by omega)
    by_cases h1 : k < S.rg.length
    · obtain ⟨gr, rfl, _, _, _, hgr⟩ := h.row (by omega)
      obtain ⟨r, hr⟩ : ∃ r, S.rg[k]? = some r := ⟨_, List.getElem?_eq_getElem h1⟩
      rw [atR_some hr]
      obtain ⟨_, hcl⟩ := ownK_cell h.rgs
      obtain ⟨e0, e1, e2⟩ := rgnsV_at hr
      have d0 := (hcl _ _ e0).1
      have d1 := (hcl _ _ e1).1
      have d2 := (hcl _ _ e2).1
      have h1' : (k : Int) < (S.rg.length : Int) := by omega
      generalize S.rg.length = len at *
      clear h hcl e0 e1 e2 hr
      go_enter Try.func20, Try.ntmps20
      go_wp2_with fail
      go_region
      go_wp2
      (try simp only [Exit.inBlock, Exit.then])
      refine bodyPost_ret (v := .tuple #[rgnA r, .bool r.there]) ?_ rfl ⟨rfl, ?_⟩
      · rw [results_cell_tmp rfl]
        go_simp
      · exact ((Below.refl _ _).alloc (Nat.le_refl _) _).drew
    · rw [atR_none (.inr (by omega))]
      go_enter Try.func20, Try.ntmps20
      go_wp2
      (try simp only [Exit.inBlock, Exit.then])
      refine bodyPost_ret (v := .tuple #[rgnA ⟨false, 0, 0⟩, .bool false]) ?_ rfl ⟨rfl, ?_⟩
      · rw [results_cell_tmp rfl]
        go_simp
      · exact (Below.refl _ _).alloc (Nat.le_refl _) _
theorem mat_nil (n : Int) (w : World) :
    Calls Try.prog 20 #[.pointer none, .int .i64 n] w fun e w' => e = .returned (.tuple #[rgnA ⟨false, 0, 0⟩, .bool false]) ∧ Below w.heap.size w w' := by
  go_enter Try.func20, Try.ntmps20
  go_wp2
  (try simp only [Exit.inBlock, Exit.then])
  refine bodyPost_ret (v := .tuple #[rgnA ⟨false, 0, 0⟩, .bool false]) ?_ rfl ⟨rfl, ?_⟩
  · rw [results_cell_tmp rfl]
    go_simp
  · exact (Below.refl _ _).alloc (Nat.le_refl _) _
theorem mstack_any (h : MemIn w B g gs gh S Ar cr ρ) :
    Calls Try.prog 13 #[.pointer (some ⟨g, 0, none⟩)] w fun e w' => e = .returned (.slice (some ⟨gs, 0, none⟩) S.st.length S.st.length) ∧ Below w.heap.size w w' := by
  have c0 := h.blk.cells 0 _ rfl
  clear h
  go_enter Try.func13, Try.ntmps13
  go_wp2
  go_ret
  exact ⟨rfl, Below.refl _ _⟩
theorem mstack_nil (w : World) :
    Calls Try.prog 13 #[.pointer none] w fun e w' => e = .returned (.slice none 0 0) ∧ Below w.heap.size w w' := by
  go_enter Try.func13, Try.ntmps13
  go_wp2
  go_ret
  exact ⟨rfl, Below.refl _ _⟩
theorem mused_any (h : MemIn w B g gs gh S Ar cr ρ) :
    Calls Try.prog 15 #[.pointer (some ⟨g, 0, none⟩)] w fun e w' => e = .returned (.int .i64 (S.used : Int)) ∧ Below w.heap.size w w' := by
  have c3 := h.blk.cells 3 _ rfl
  clear h
  go_enter Try.func15, Try.ntmps15
  go_wp2
  go_ret
  exact ⟨rfl, Below.refl _ _⟩
theorem mused_nil (w : World) :
    Calls Try.prog 15 #[.pointer none] w fun e w' => e = .returned (.int .i64 0) ∧ Below w.heap.size w w' := by
  go_enter Try.func15, Try.ntmps15
  go_wp2
  go_ret
  exact ⟨rfl, Below.refl _ _⟩
theorem mroom_any (h : MemIn w B g gs gh S Ar cr ρ) (hu : S.used ≤ S.hp.length) (hl : S.hp.length ≤ 65536) :
    Calls Try.prog 14 #[.pointer (some ⟨g, 0, none⟩)] w fun e w' => e = .returned (.int .i64 ((S.hp.length : Int) - (S.used : Int))) ∧ Below w.heap.size w w' := by
  have c1 := h.blk.cells 1 _ rfl
  have c3 := h.blk.cells 3 _ rfl
  clear h
  generalize S.hp.length = hl at *
  generalize S.used = us at *
  go_enter Try.func14, Try.ntmps14
  go_wp2_with fail
  go_region
  go_wp2
  go_ret
  exact ⟨rfl, (Below.refl _ _).drew⟩
theorem mroom_nil (w : World) :
    Calls Try.prog 14 #[.pointer none] w fun e w' => e = .returned (.int .i64 0) ∧ Below w.heap.size w w' := by
  go_enter Try.func14, Try.ntmps14
  go_wp2
  go_ret
  exact ⟨rfl, Below.refl _ _⟩
theorem mplace_any (n : Int) (h : MemIn w B g gs gh S Ar cr ρ) :
    Calls Try.prog 16 #[.pointer (some ⟨g, 0, none⟩), .int .i64 n] w fun e w' => e = .returned (.tuple #[.int .i64 ((atR S.rg n).place : Int), .bool (atR S.rg n).there]) ∧ Below w.heap.size w w' := by
  have HA := Lib.hid (mat_any n h)
  clear h
  generalize atR S.rg n = r at *
  go_enter Try.func16, Try.ntmps16
  go_wp2_with (go_at_call 20; (with_reducible refine HA.out.mono ?_); rintro e w1 ⟨rfl, hb⟩; have HB := Lib.hid hb; clear hb)
  go_ret2
  exact ⟨rfl, HB.out.alloc HB.out.size _⟩
theorem mplace_nil (n : Int) (w : World) :
    Calls Try.prog 16 #[.pointer none, .int .i64 n] w fun e w' => e = .returned (.tuple #[.int .i64 0, .bool false]) ∧ Below w.heap.size w w' := by
  have HA := Lib.hid (mat_nil n w)
  go_enter Try.func16, Try.ntmps16
  go_wp2_with (go_at_call 20; (with_reducible refine HA.out.mono ?_); rintro e w1 ⟨rfl, hb⟩; have HB := Lib.hid hb; clear hb)
  go_ret2
  exact ⟨rfl, HB.out.alloc HB.out.size _⟩
/-- A region's cells, as a slice. -/
def regV (gh : Nat) (r : Rgn) : Value := if r.there then .slice (some ⟨gh, if r.cells = 0 then 0 else r.place, none⟩) r.cells r.cells else .slice none 0 0
theorem mregion_any (n : Int) (h : MemIn w B g gs gh S Ar cr ρ) (hf : (atR S.rg n).place + (atR S.rg n).cells ≤ S.hp.length) (hl : S.hp.length ≤ 65536) :
    Calls Try.prog 11 #[.pointer (some ⟨g, 0, none⟩), .int .i64 n] w fun e w' => e = .returned (regV gh (atR S.rg n)) ∧ Below w.heap.size w w' := by
  have HA := Lib.hid (mat_any n h)
  have c1 := h.blk.cells 1 _ rfl
  have hg := h.lt.1
  clear h
  generalize atR S.rg n = r at *
  generalize S.hp.length = nh at *
  obtain ⟨there, place, cells⟩ := r
  cases there
  · go_enter Try.func11, Try.ntmps11
    go_wp2_with (go_at_call 20; (with_reducible refine HA.out.mono ?_); rintro e w1 ⟨rfl, hb⟩; have HB := Lib.hid hb; clear hb)
    go_ret
    exact ⟨rfl, HB.out.alloc HB.out.size _⟩
  · dsimp only at hf
    by_cases h0 : cells = 0
    · subst h0
      go_enter Try.func11, Try.ntmps11
      go_wp2_with (go_at_call 20; (with_reducible refine HA.out.mono ?_); rintro e w1 ⟨rfl, hb⟩; have HB := Lib.hid hb; have d1 := (hb.cell (p := ⟨g, 1, none⟩) hg).trans c1; have hg1 : g < w1.heap.size := Nat.lt_of_lt_of_le hg hb.size; clear hb)
      go_region
      go_wp2
      go_ret
      exact ⟨rfl, (HB.out.alloc HB.out.size _).drew⟩
    · have E := Lib.hid (show regV gh ⟨true, place, cells⟩ = .slice (some ⟨gh, place, none⟩) cells cells by unfold regV; rw [if_pos rfl, if_neg h0])
      rw [E.out]
      go_enter Try.func11, Try.ntmps11
      go_wp2_with (go_at_call 20; (with_reducible refine HA.out.mono ?_); rintro e w1 ⟨rfl, hb⟩; have HB := Lib.hid hb; have d1 := (hb.cell (p := ⟨g, 1, none⟩) hg).trans c1; have hg1 : g < w1.heap.size := Nat.lt_of_lt_of_le hg hb.size; clear hb)
      go_region
      go_wp2
      go_ret
      exact ⟨by rw [Nat.add_sub_cancel_left]; rfl, (HB.out.alloc HB.out.size _).drew⟩
theorem mregion_nil (n : Int) (w : World) :
    Calls Try.prog 11 #[.pointer none, .int .i64 n] w fun e w' => e = .returned (.slice none 0 0) ∧ Below w.heap.size w w' := by
  have HA := Lib.hid (mat_nil n w)
  go_enter Try.func11, Try.ntmps11
  go_wp2_with (go_at_call 20; (with_reducible refine HA.out.mono ?_); rintro e w1 ⟨rfl, hb⟩; have HB := Lib.hid hb; clear hb)
  go_ret
  exact ⟨rfl, HB.out.alloc HB.out.size _⟩
end
end Go.Proofs.Ytmjoollhkjgohaa
