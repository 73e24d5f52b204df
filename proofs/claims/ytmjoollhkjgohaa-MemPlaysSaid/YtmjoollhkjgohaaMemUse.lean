/-
  What arenas answer, by the regions that stand in them. Plain lemmas over the calls' walks.
-/
import Derived.Test.YtmjoollhkjgohaaMemDrop
namespace Go.Proofs.Ytmjoollhkjgohaa
set_option maxRecDepth 100000
set_option linter.unusedVariables false
set_option linter.unusedSimpArgs false
open Go.ChangeShapes Go.WideShapes Go.ChangeAt Go.RowKit
set_option linter.unusedVariables false

section
variable {w w' : World} {B g gs gh nh c : Nat} {ρ : Nat → Nat} {st : List Int} {L : List (Nat × List Int)}
theorem MemIs.keep (h : MemIs w B g gs gh ρ st nh L c) (hb : Below w.heap.size w w') : MemIs w' B g gs gh ρ st nh L c := by
  obtain ⟨S, Ar, cr, hM, hr⟩ := h
  exact ⟨S, Ar, cr, hM.keep hb, hr⟩
theorem MemIs.far (h : MemIs w B g gs gh ρ st nh L c) (hO : Only w w' ρ 0) : MemIs w' B g gs gh ρ st nh L c := by
  obtain ⟨S, Ar, cr, hM, hr⟩ := h
  exact ⟨S, Ar, cr, hM.far hO, hr⟩
theorem MemIs.low (h : MemIs w B g gs gh ρ st nh L c) : (∀ b, b < B → ρ b = 0) ∧ (∀ b, w.heap.size ≤ b → ρ b = 0) ∧ B ≤ w.heap.size ∧ ρ g = 1 ∧ ρ gs = 2 ∧ ρ gh = 3 ∧ gh < w.heap.size := by
  obtain ⟨S, Ar, cr, hM, hr⟩ := h
  exact ⟨hM.low, hM.new, hM.size, hM.r1, hM.r2, hM.r3, hM.lt.2.2⟩
theorem MemIs.some_ (h : MemIs w B g gs gh ρ st nh L c) (hc : c ≤ c) {d : Nat} (hd : c ≤ d) : MemIs w B g gs gh ρ st nh L d := by
  obtain ⟨S, Ar, cr, hM, h1, h2, h3, h4⟩ := h
  exact ⟨S, Ar, cr, hM, h1, h2, h3, Nat.le_trans h4 hd⟩
theorem MemIs.flat_le (h : MemIs w B g gs gh ρ st nh L c) : (flatR L).length ≤ nh := by
  obtain ⟨S, Ar, cr, hM, h1, h2, rfl, h4⟩ := h
  rw [← h1.used]
  exact h1.used_le
theorem MemIs.nodup (h : MemIs w B g gs gh ρ st nh L c) {k j n : Nat} {x y : List Int} (hk : L[k]? = some (n, x)) (hj : L[j]? = some (n, y)) : k = j := by
  obtain ⟨S, Ar, cr, hM, h1, h2, rfl, h4⟩ := h
  exact h1.uniq hk hj
theorem MemIs.ids (h : MemIs w B g gs gh ρ st nh L c) : (L.map (fun x => x.1)).Nodup := by
  obtain ⟨S, Ar, cr, hM, h1, h2, rfl, h4⟩ := h
  exact h1.nod
theorem MemIs.id_lt (h : MemIs w B g gs gh ρ st nh L c) {n : Nat} (hn : hasR L n) : n < c := by
  obtain ⟨S, Ar, cr, hM, h1, h2, rfl, h4⟩ := h
  exact Nat.lt_of_lt_of_le (h1.id_lt hn) h4
/-- Where a region's slice leads. -/
def offR (o n : Nat) : Nat := if n = 0 then 0 else o
theorem mregion_is (h : MemIs w B g gs gh ρ st nh L c) (hl : nh ≤ 65536) {k i : Nat} {d : List Int} (hk : L[k]? = some (i, d)) :
    Calls Try.prog 11 #[.pointer (some ⟨g, 0, none⟩), .int .i64 (i : Int)] w fun e w' => e = .returned (.slice (some ⟨gh, offR (posR L k) d.length, none⟩) d.length d.length) ∧ Below w.heap.size w w' := by
  obtain ⟨S, Ar, cr, hM, hO, rfl, rfl, _⟩ := h
  have ha := hO.atR_has hk
  have hp := posR_le hk
  have hu := hO.used_le
  have hH := mregion_any (i : Int) hM (by rw [ha]; show posR L k + d.length ≤ _; rw [hO.used] at hu; omega) hl
  rw [ha] at hH
  exact hH
theorem mplace_is (h : MemIs w B g gs gh ρ st nh L c) {k i : Nat} {d : List Int} (hk : L[k]? = some (i, d)) :
    Calls Try.prog 16 #[.pointer (some ⟨g, 0, none⟩), .int .i64 (i : Int)] w fun e w' => e = .returned (.tuple #[.int .i64 (posR L k : Int), .bool true]) ∧ Below w.heap.size w w' := by
  obtain ⟨S, Ar, cr, hM, hO, rfl, rfl, _⟩ := h
  have hH := mplace_any (i : Int) hM
  rw [hO.atR_has hk] at hH
  exact hH
theorem mused_is (h : MemIs w B g gs gh ρ st nh L c) :
    Calls Try.prog 15 #[.pointer (some ⟨g, 0, none⟩)] w fun e w' => e = .returned (.int .i64 ((flatR L).length : Int)) ∧ Below w.heap.size w w' := by
  obtain ⟨S, Ar, cr, hM, hO, rfl, rfl, _⟩ := h
  have hH := mused_any hM
  rw [hO.used] at hH
  exact hH
theorem mroom_is (h : MemIs w B g gs gh ρ st nh L c) (hl : nh ≤ 65536) :
    Calls Try.prog 14 #[.pointer (some ⟨g, 0, none⟩)] w fun e w' => e = .returned (.int .i64 ((nh : Int) - ((flatR L).length : Int))) ∧ Below w.heap.size w w' := by
  obtain ⟨S, Ar, cr, hM, hO, rfl, rfl, _⟩ := h
  have hH := mroom_any hM hO.used_le hl
  rw [hO.used] at hH
  exact hH
theorem mstack_is (h : MemIs w B g gs gh ρ st nh L c) :
    Calls Try.prog 13 #[.pointer (some ⟨g, 0, none⟩)] w fun e w' => e = .returned (.slice (some ⟨gs, 0, none⟩) st.length st.length) ∧ Below w.heap.size w w' := by
  obtain ⟨S, Ar, cr, hM, hO, rfl, rfl, _⟩ := h
  exact mstack_any hM
theorem MemIs.stack (h : MemIs w B g gs gh ρ st nh L c) : Whole w gs (i32V st) 21 := by
  obtain ⟨S, Ar, cr, hM, hO, rfl, rfl, _⟩ := h
  exact hM.stk
/-- A cell of a region. -/
theorem MemIs.cell (h : MemIs w B g gs gh ρ st nh L c) {k i j : Nat} {d : List Int} {x : Int} (hk : L[k]? = some (i, d)) (hj : d[j]? = some x) : w.cell? ⟨gh, posR L k + j, none⟩ = some (.int .i32 x) ∧ w.frozen? ⟨gh, posR L k + j, none⟩ = false := by
  obtain ⟨S, Ar, cr, hM, hO, rfl, rfl, _⟩ := h
  have hjl := (List.getElem?_eq_some_iff.mp hj).1
  obtain ⟨rest, e⟩ := hO.hp
  refine ⟨hM.hpw.cells _ _ (i32V_at ?_), hM.hpw.free _⟩
  have := posR_le hk
  rw [e, List.getElem?_append_left (by omega), flatR_at hk hjl]
  exact hj
theorem MemIs.put (h : MemIs w B g gs gh ρ st nh L c) {k i j : Nat} {d : List Int} (hk : L[k]? = some (i, d)) (hj : j < d.length) (v : Int) :
    MemIs (w.setCell ⟨gh, posR L k + j, none⟩ (.int .i32 v)) B g gs gh ρ st nh (L.set k (i, d.set j v)) c ∧ MemStay w (w.setCell ⟨gh, posR L k + j, none⟩ (.int .i32 v)) ρ ρ := by
  obtain ⟨S, Ar, cr, hM, hO, rfl, rfl, hc⟩ := h
  exact ⟨⟨_, _, _, hM.heap _ v, hO.put hk hj v, rfl, List.length_set, hc⟩, MemStay.only (Only.cell (a := ⟨gh, _, none⟩) hM.r3 _) (by decide)⟩
/-- New arenas. -/
theorem mnew_is (s h : Int) (w : World) :
    Calls Try.prog 8 #[.int .i64 s, .int .i64 h] w fun e w' => ∃ g gs gh ρ, e = .returned (.pointer (some ⟨g, 0, none⟩)) ∧ MemIs w' w.heap.size g gs gh ρ (zerosM (manyM s)) (manyM h) [] 0 ∧ Below w.heap.size w w' :=
  (mnew_any s h w.heap.size w (Nat.le_refl _)).mono fun e w' ⟨g, gs, gh, ρ, he, hM, hb, _⟩ => ⟨g, gs, gh, ρ, he, ⟨_, _, _, hM, OrdM.start _ _, rfl, zerosM_len _, Nat.le_refl _⟩, hb⟩
/-- Of which numbers are there only the first ones the next one is given. -/
theorem give_next {n : Int} {e : Ending} {k : Nat} (hg : GiveOut B g gs gh ρ st nh L c n w e w') (hk : ∀ m, hasR L m ↔ m < k) (h0 : 0 ≤ n) (h1 : n ≤ (nh : Int) - ((flatR L).length : Int)) :
    e = .returned (.tuple #[.int .i64 (k : Int), .bool true]) ∧ ∃ ρ', MemIs w' B g gs gh ρ' st nh (L ++ [(k, zerosM n.toNat)]) (c + 1) ∧ MemStay w w' ρ ρ' := by
  rcases hg with ⟨hn, _, _⟩ | ⟨_, _, id, he, hid, hlow, hr⟩
  · exact absurd ⟨h0, h1⟩ hn
  · have e2 : id = k := by
      rcases Nat.lt_trichotomy id k with q | q | q
      · exact absurd ((hk id).mpr q) hid
      · exact q
      · exact absurd ((hk k).mp (hlow k q)) (Nat.lt_irrefl _)
    subst e2
    exact ⟨he, hr⟩
theorem mgive_no (n : Int) (h : MemIs w B g gs gh ρ st nh L c) (hl : nh ≤ 65536) (hc : c ≤ 999999) (hn : ¬ (0 ≤ n ∧ n ≤ (nh : Int) - ((flatR L).length : Int))) :
    Calls Try.prog 9 #[.pointer (some ⟨g, 0, none⟩), .int .i64 n] w fun e w' => e = .returned (.tuple #[.int .i64 0, .bool false]) ∧ Below w.heap.size w w' :=
  (mgive_any n h hl hc).mono fun e w' hg => by
    rcases hg with ⟨_, he, hb⟩ | ⟨h0, h1, _⟩
    · exact ⟨he, hb⟩
    · exact absurd ⟨h0, h1⟩ hn
theorem mgive_next (n : Nat) {k : Nat} (h : MemIs w B g gs gh ρ st nh L c) (hl : nh ≤ 65536) (hc : c ≤ 999999) (hk : ∀ m, hasR L m ↔ m < k) (hn : n + (flatR L).length ≤ nh) :
    Calls Try.prog 9 #[.pointer (some ⟨g, 0, none⟩), .int .i64 (n : Int)] w fun e w' => e = .returned (.tuple #[.int .i64 (k : Int), .bool true]) ∧ ∃ ρ', MemIs w' B g gs gh ρ' st nh (L ++ [(k, zerosM n)]) (c + 1) ∧ MemStay w w' ρ ρ' :=
  (mgive_any (n : Int) h hl hc).mono fun e w' hg => by
    have := give_next hg hk (by omega) (by omega)
    rw [Int.toNat_natCast] at this
    exact this
theorem mgive_yes (n : Nat) (h : MemIs w B g gs gh ρ st nh L c) (hl : nh ≤ 65536) (hc : c ≤ 999999) (hn : n + (flatR L).length ≤ nh) :
    Calls Try.prog 9 #[.pointer (some ⟨g, 0, none⟩), .int .i64 (n : Int)] w fun e w' => ∃ (id : Nat) (ρ' : Nat → Nat), e = .returned (.tuple #[.int .i64 (id : Int), .bool true]) ∧ ¬ hasR L id ∧ (∀ m, m < id → hasR L m) ∧ MemIs w' B g gs gh ρ' st nh (L ++ [(id, zerosM n)]) (c + 1) ∧ MemStay w w' ρ ρ' :=
  (mgive_any (n : Int) h hl hc).mono fun e w' hg => by
    rcases hg with ⟨hno, _, _⟩ | ⟨_, _, id, he, hid, hlow, ρ', hM, hS⟩
    · exact absurd ⟨by omega, by omega⟩ hno
    · rw [Int.toNat_natCast] at hM
      exact ⟨id, ρ', he, hid, hlow, hM, hS⟩
theorem mdrop_is (h : MemIs w B g gs gh ρ st nh L c) (hl : nh ≤ 65536) (hc : c ≤ 999999) {k i : Nat} {d : List Int} (hk : L[k]? = some (i, d)) :
    Calls Try.prog 10 #[.pointer (some ⟨g, 0, none⟩), .int .i64 (i : Int)] w fun e w' => e = .returned (.bool true) ∧ MemIs w' B g gs gh ρ st nh (L.eraseIdx k) c ∧ MemStay w w' ρ ρ :=
  (mdrop_any (i : Int) h hl hc).mono fun e w' hg => by
    rcases hg with ⟨hn, _, _⟩ | ⟨k', i', d', hi, hk', he, hM, hS⟩
    · exact absurd ⟨i, rfl, k, d, hk⟩ hn
    · have e2 : i' = i := by omega
      subst e2
      have e3 := h.nodup hk hk'
      subst e3
      exact ⟨he, hM, hS⟩
theorem mdrop_no (n : Int) (h : MemIs w B g gs gh ρ st nh L c) (hl : nh ≤ 65536) (hc : c ≤ 999999) (hn : ¬ ∃ i : Nat, n = (i : Int) ∧ hasR L i) :
    Calls Try.prog 10 #[.pointer (some ⟨g, 0, none⟩), .int .i64 n] w fun e w' => e = .returned (.bool false) ∧ Below w.heap.size w w' :=
  (mdrop_any n h hl hc).mono fun e w' hg => by
    rcases hg with ⟨_, he, hb⟩ | ⟨k', i', d', hi, hk', _⟩
    · exact ⟨he, hb⟩
    · exact absurd ⟨i', hi, k', d', hk'⟩ hn
theorem hasR_nil (m : Nat) : ¬ hasR [] m := fun ⟨k, c, h⟩ => by simp at h
theorem hasR_snoc {i : Nat} {d : List Int} (m : Nat) : hasR (L ++ [(i, d)]) m ↔ hasR L m ∨ m = i := by
  constructor
  · rintro ⟨k, x, h⟩
    rcases Nat.lt_or_ge k L.length with q | q
    · rw [List.getElem?_append_left q] at h
      exact .inl ⟨k, x, h⟩
    · rw [List.getElem?_append_right q] at h
      rcases Nat.eq_zero_or_pos (k - L.length) with e | e
      · rw [e] at h
        simp at h
        exact .inr h.1.symm
      · rw [List.getElem?_eq_none (by simp; omega)] at h
        cases h
  · rintro (⟨k, x, h⟩ | rfl)
    · exact ⟨k, x, by rw [List.getElem?_append_left (List.getElem?_eq_some_iff.mp h).1]; exact h⟩
    · exact ⟨L.length, d, by rw [List.getElem?_append_right (Nat.le_refl _), Nat.sub_self]; rfl⟩
end
end Go.Proofs.Ytmjoollhkjgohaa
