/-
  What a method that came in by value reads as, and how long its lists are at most. Plain lemmas; the conditions stand in each.
-/
import Derived.Test.YtcehkmnneimdeaaImgOpenZ
import Derived.Test.YtcehkmnneimdeaaMth
namespace Go.Proofs.Ytcehkmnneimdeaa
set_option maxRecDepth 100000
set_option linter.unusedVariables false
set_option linter.unusedSimpArgs false
open Go.ChangeShapes Go.WideShapes Go.Deep Go.Joins Go.RowKit
set_option linter.unusedVariables false

section
variable {H : Type}
theorem bulk_pos (d : DataW H) : 1 ≤ Rows.uptoBulk d := by
  cases d with
  | lit l => cases l <;> simp [Rows.uptoBulk]
  | _ => simp [Rows.uptoBulk]
theorem bulk_long : ∀ l : List (DataW H), l.length ≤ Rows.uptoBulkAll l
  | [] => Nat.zero_le _
  | d :: r => by
    have h1 := bulk_pos d
    have h2 := bulk_long r
    simp only [Rows.uptoBulkAll, List.length_cons]
    omega
theorem bulk_of {d : DataW H} : ∀ {l : List (DataW H)}, d ∈ l → Rows.uptoBulk d ≤ Rows.uptoBulkAll l
  | [], h => by cases h
  | x :: r, h => by
    simp only [Rows.uptoBulkAll]
    rcases List.mem_cons.mp h with rfl | h
    · omega
    · have := bulk_of h
      omega
theorem bulk_field {xs : List (DataW H × List MemPlace)} {d : DataW H} {j : Nat} {y : DataW H × List MemPlace} (hd : d = .agg (xs.map (·.1))) (hy : xs[j]? = some y) : Rows.uptoBulk y.1 ≤ Rows.uptoBulk d := by
  subst hd
  have h : y.1 ∈ xs.map (·.1) := List.mem_map.mpr ⟨y, List.mem_of_getElem? hy, rfl⟩
  have := bulk_of h
  simp only [Rows.uptoBulk]
  omega
theorem bulk_slice {enc : TypeId × Value → H} {P : Program} {w : World} {base fuel len cap : Nat} {held : Bool} {spare : Nat → Bool} {t e : TypeId} {A : Option Addr} {x : DataW H × List MemPlace} (ht : P.underlying t = some (.slice e))
    (h : DataW.trod enc P w base spare held fuel t [.slice A len cap] = some x) : len ≤ Rows.uptoBulk x.1 := by
  rcases open_slice ht h with ⟨hcs, _⟩ | ⟨a, len', cap', m, n, D, Pl, hcs, _, hl, hm, hmm, hx, hi⟩
  · simp at hcs
    omega
  · simp at hcs
    obtain ⟨_, rfl, _⟩ := hcs
    rw [hx]
    have h1 := bulk_long ((List.range len).map D)
    rw [List.length_map, List.length_range] at h1
    simp only [Rows.uptoBulk]
    omega
variable {enc : TypeId × Value → H} {w : World} {base : Nat} {held : Bool} {spare : Nat → Bool}
/-- A method by value. -/
theorem open_method {r : Reach} {b0 : Nat} {v : Value} {d : DataW H} {p : List MemPlace} (hv : Value.okWide Try.prog w r b0 43 v) (h : DataW.Trod enc Try.prog w base spare held 43 v d p) :
    ∃ (hd : MHnd) (x : Mth), v = mthV hd x ∧ MthIn w w.heap.size hd x ∧ x.args.length ≤ Rows.uptoBulk d ∧ x.locals.length ≤ Rows.uptoBulk d := by
  obtain ⟨cs, rfl, hsz⟩ := okWide_struct Try.underlying43 hv
  obtain ⟨fuel, hf⟩ := h
  have hsz' : cs.size = 8 := hsz.trans (by kernel_rfl)
  obtain ⟨xs, m, _, hxe, _, hx, hf⟩ := DataW.trod_struct Try.underlying43 hf
  obtain ⟨l⟩ := cs
  have hl : l.length = 8 := hsz'
  match l, hl with
  | [c0, c1, c2, c3, c4, c5, c6, c7], _ =>
    obtain ⟨y0, g0⟩ := some_of (hf 0 _ rfl) hx (by decide)
    have w0 := (hf 0 _ rfl).symm.trans g0
    change DataW.trod enc Try.prog w base spare held m 23 (List.take (Try.prog.cellsOf 23) (List.drop 0 _)) = _ at g0
    obtain ⟨y1, g1⟩ := some_of (hf 1 _ rfl) hx (by decide)
    have w1 := (hf 1 _ rfl).symm.trans g1
    change DataW.trod enc Try.prog w base spare held m 23 (List.take (Try.prog.cellsOf 23) (List.drop 1 _)) = _ at g1
    obtain ⟨y2, g2⟩ := some_of (hf 2 _ rfl) hx (by decide)
    change DataW.trod enc Try.prog w base spare held m 40 (List.take (Try.prog.cellsOf 40) (List.drop 2 _)) = _ at g2
    obtain ⟨y3, g3⟩ := some_of (hf 3 _ rfl) hx (by decide)
    change DataW.trod enc Try.prog w base spare held m 41 (List.take (Try.prog.cellsOf 41) (List.drop 4 _)) = _ at g3
    obtain ⟨y4, g4⟩ := some_of (hf 4 _ rfl) hx (by decide)
    change DataW.trod enc Try.prog w base spare held m 3 (List.take (Try.prog.cellsOf 3) (List.drop 5 _)) = _ at g4
    obtain ⟨y5, g5⟩ := some_of (hf 5 _ rfl) hx (by decide)
    change DataW.trod enc Try.prog w base spare held m 3 (List.take (Try.prog.cellsOf 3) (List.drop 6 _)) = _ at g5
    obtain ⟨y6, g6⟩ := some_of (hf 6 _ rfl) hx (by decide)
    change DataW.trod enc Try.prog w base spare held m 26 (List.take (Try.prog.cellsOf 26) (List.drop 7 _)) = _ at g6
    rw [cells_types] at g0 g1
    rw [cells_type] at g2
    rw [cells_code] at g3
    rw [cells_int] at g4 g5
    rw [cells_ints] at g6
    obtain ⟨A0, k0, l0, e0, s0, _⟩ := slc_types g0
    obtain ⟨A1, k1, l1, e1, s1, _⟩ := slc_types g1
    obtain ⟨A3, k3, l3, e3, s3, _⟩ := slc_code g3
    obtain ⟨v4, e4⟩ := fld_int g4
    obtain ⟨v5, e5⟩ := fld_int g5
    obtain ⟨A6, k6, l6, e6, s6, _⟩ := slc_ints g6
    have hb0 : l0.length ≤ Rows.uptoBulk y0.1 := bulk_slice Try.underlying23 (e0 ▸ g0)
    have hb1 : l1.length ≤ Rows.uptoBulk y1.1 := bulk_slice Try.underlying23 (e1 ▸ g1)
    have hd0 := bulk_field (congrArg Prod.fst hxe) w0
    have hd1 := bulk_field (congrArg Prod.fst hxe) w1
    obtain ⟨zs, m2, _, _, _, hx2, hf2⟩ := DataW.trod_struct Try.underlying40 g2
    obtain ⟨z0, r0⟩ := some_of (hf2 0 _ rfl) hx2 (by decide)
    change DataW.trod enc Try.prog w base spare held m2 3 (List.take (Try.prog.cellsOf 3) (List.drop 0 _)) = _ at r0
    obtain ⟨z1, r1⟩ := some_of (hf2 1 _ rfl) hx2 (by decide)
    change DataW.trod enc Try.prog w base spare held m2 3 (List.take (Try.prog.cellsOf 3) (List.drop 1 _)) = _ at r1
    rw [cells_int] at r0 r1
    obtain ⟨v2, e2⟩ := fld_int r0
    obtain ⟨v3, e2'⟩ := fld_int r1
    simp [Value.cells] at e0 e1 e2 e2' e3 e4 e5 e6
    subst e0 e1 e2 e2' e3 e4 e5 e6
    exact ⟨⟨A0, A1, A3, A6, k0, k1, k3, k6⟩, ⟨l0, l1, (v2, v3), l3, v4, v5, l6⟩, rfl, ⟨s0, s1, s3, s6⟩, Nat.le_trans hb0 hd0, Nat.le_trans hb1 hd1⟩
end
end Go.Proofs.Ytcehkmnneimdeaa
