/-
  What the program's own reader of bytes comes to: New, Get, End, Bad, and no reader.
-/
import Derived.Test.YtikljohgdgibnaaBitsPut
import Derived.Test.YtikljohgdgibnaaBitsFirst
import Derived.Test.YtikljohgdgibnaaBitsMath
import Derived.OneCell
import Derived.Deep.QuietTactic
import Derived.BigQuiet
namespace Go.Proofs.Ytikljohgdgibnaa
set_option maxRecDepth 100000
open Go.ChangeShapes Go.WideShapes Go.ChangeAt Go.RowKit
set_option linter.unusedVariables false

/-- Block N is a reader: what is left of its bytes, and whether it is bad (then nothing is said of what is left). -/
def Rd (w : World) (N : Nat) (rest : List Int) (bad : Bool) : Prop :=
  ∃ (A : Option Addr) (cap : Nat) (xs : List Int), w.heap[N]? = some (.cells #[.slice A xs.length cap, .bool bad] 105 (0, 0)) ∧ Lies w N A (xs.map (Value.int .u8)) ∧ xs.length ≤ cap ∧ cap ≤ 9223372036854775807 ∧ (bad = false → xs = rest)
theorem Rd.lt {w : World} {N : Nat} {rest : List Int} {bad : Bool} (h : Rd w N rest bad) : N < w.heap.size := by
  obtain ⟨A, cap, xs, hh, _⟩ := h
  exact lt_of_block hh
theorem Rd.keep {w w' : World} {N : Nat} {rest : List Int} {bad : Bool} (h : Rd w N rest bad) (hb : Below w.heap.size w w') : Rd w' N rest bad := by
  have hlt := h.lt
  obtain ⟨A, cap, xs, hh, hl, h1, h2, h3⟩ := h
  exact ⟨A, cap, xs, by rw [hb.block N hlt]; exact hh, hl.below_to hb (by omega), h1, h2, h3⟩
theorem Rd.more {w : World} {N : Nat} {rest rest' : List Int} (h : Rd w N rest true) : Rd w N rest' true := by
  obtain ⟨A, cap, xs, hh, hl, h1, h2, h3⟩ := h
  exact ⟨A, cap, xs, hh, hl, h1, h2, fun h => by cases h⟩

theorem cell_two0 {w : World} {b : Nat} {u v : Value} {t : TypeId} (h : w.heap[b]? = some (.cells #[u, v] t (0, 0))) : w.cell? ⟨b, 0, none⟩ = some u := by simp [World.cell?, h]
theorem cell_two1 {w : World} {b : Nat} {u v : Value} {t : TypeId} (h : w.heap[b]? = some (.cells #[u, v] t (0, 0))) : w.cell? ⟨b, 1, none⟩ = some v := by simp [World.cell?, h]
theorem free_two {w : World} {b i : Nat} {u v : Value} {t : TypeId} (h : w.heap[b]? = some (.cells #[u, v] t (0, 0))) : w.frozen? ⟨b, i, none⟩ = false := by simp [World.frozen?, h]
theorem two_set0 {w : World} {b : Nat} {u v x : Value} {t : TypeId} (h : w.heap[b]? = some (.cells #[u, v] t (0, 0))) : (w.setCell ⟨b, 0, none⟩ x).heap[b]? = some (.cells #[x, v] t (0, 0)) := by
  have hlt := lt_of_block h
  have h' : w.heap[b] = .cells #[u, v] t (0, 0) := by simpa [Array.getElem?_eq_getElem hlt] using h
  show (w.heap.modify b _)[b]? = _
  rw [Array.getElem?_eq_getElem (by simpa using hlt), Array.getElem_modify_self, h']
  rfl
theorem two_set1 {w : World} {b : Nat} {u v x : Value} {t : TypeId} (h : w.heap[b]? = some (.cells #[u, v] t (0, 0))) : (w.setCell ⟨b, 1, none⟩ x).heap[b]? = some (.cells #[u, x] t (0, 0)) := by
  have hlt := lt_of_block h
  have h' : w.heap[b] = .cells #[u, v] t (0, 0) := by simpa [Array.getElem?_eq_getElem hlt] using h
  show (w.heap.modify b _)[b]? = _
  rw [Array.getElem?_eq_getElem (by simpa using hlt), Array.getElem_modify_self, h']
  rfl

theorem own_slice_cap {w : World} {base e n : Nat} {v : Value} {xs : List Value} (h : w.ownsRow base e 1 v n xs) : ∃ A c, v = .slice A n c ∧ Lies w w.heap.size A xs ∧ n ≤ c ∧ c ≤ 9223372036854775807 := by
  rcases h.2 with ⟨rfl, rfl⟩ | ⟨g, cap, cur, rfl, hb, hh, h1, h2, _⟩
  · exact ⟨none, 0, rfl, Lies.of_own h, Nat.le_refl _, by omega⟩
  · exact ⟨_, cap, rfl, Lies.of_own h, h1, by unfold maxLen at h2; omega⟩
theorem heap_new (w : World) (o : Obj) : (w.alloc o).heap[w.heap.size]? = some o := heap_alloc_new w o
/-- A new reader. -/
def NewOut (l : List Int) (w : World) (e : Ending) (w' : World) : Prop :=
  ∃ N, e = .returned (.pointer (some ⟨N, 0, none⟩)) ∧ w.heap.size ≤ N ∧ Rd w' N l false ∧ Below w.heap.size w w'
theorem bnew_any (l : List Int) (A : Option Addr) (cap B : Nat) (w : World) (hl : l.length ≤ 1048576) (hr : ∀ b ∈ l, 0 ≤ b ∧ b ≤ 255) (hA : A = none → cap = 0) (hB : B ≤ w.heap.size) (h : Lies w B A (l.map (Value.int .u8))) :
    Calls Try.prog 40 #[.slice A l.length cap] w (NewOut l w) := by
  obtain ⟨i0, hi, hz0, hz1, hz2⟩ := info_parts info_u8
  have HL := Lib.hid h
  have HA := Lib.hid hA
  clear h hr hA
  go_enter Try.func40, Try.ntmps40
  go_wp2_with (at_builtin; refine append_lies rfl _ _ 31 rfl w.heap.size 5 i0 (.int .u8 0) 1 Try.underlying31 hi hz0 hz1 hz2 rfl _ _ _ rfl (World.ownsRow_nil _ _ _ _) A l.length cap _ (l.map (Value.int .u8)) (by simp) rfl HA.out HL.out (u8_one _) (by unfold maxLen; omega) (by omega) (Nat.le_refl _) ?_; intro v2 w2 hown2 hgrow2; obtain ⟨A2, c2, rfl, hl2, hc2, hm2⟩ := own_slice_cap (own_from hown2); have HL2 := Lib.hid hl2; have HB := Lib.hid ((Below.refl w.heap.size w).grown hgrow2 (Nat.le_refl _) (fun k hk => by cases hk)); clear hown2 hgrow2 hl2)
  go_ret
  exact ⟨w2.heap.size, rfl, HB.out.size, ⟨A2, c2, l, heap_alloc_new _ _, HL2.out.below_to ((Below.refl w2.heap.size w2).alloc (Nat.le_refl _) _) (Nat.le_refl _), hc2, hm2, fun _ => rfl⟩, HB.out.alloc HB.out.size _⟩
def GetOut (k : IntKind) (N B : Nat) (n : Int) (rest : List Int) (bad : Bool) (w : World) (e : Ending) (w' : World) : Prop :=
  e = .returned (.int k n) ∧ Rd w' N rest bad ∧ Below B w w'

theorem bbad_same (N : Nat) (rest : List Int) (bad : Bool) (w : World) (h : Rd w N rest bad) :
    Calls Try.prog 84 #[.pointer (some ⟨N, 0, none⟩)] w fun e w' => e = .returned (.bool bad) ∧ w = w' := by
  obtain ⟨A, cap, xs, hh, _⟩ := h
  have c1 := cell_two1 hh
  clear hh
  cases bad
  all_goals
    go_enter Try.func84, Try.ntmps84
    go_wp2
    go_ret
    exact ⟨rfl, rfl⟩
theorem bbad_nil_same (w : World) : Calls Try.prog 84 #[.pointer none] w fun e w' => e = .returned (.bool true) ∧ w = w' := by
  go_enter Try.func84, Try.ntmps84
  go_wp2
  go_ret
  exact ⟨rfl, rfl⟩
theorem bbad_any (N : Nat) (rest : List Int) (bad : Bool) (w : World) (h : Rd w N rest bad) :
    Calls Try.prog 84 #[.pointer (some ⟨N, 0, none⟩)] w fun e w' => e = .returned (.bool bad) ∧ Below w.heap.size w w' :=
  (bbad_same N rest bad w h).mono fun e w' ⟨he, hw⟩ => ⟨he, hw ▸ Below.refl _ _⟩
theorem bbad_nil (w : World) : Calls Try.prog 84 #[.pointer none] w fun e w' => e = .returned (.bool true) ∧ Below w.heap.size w w' :=
  (bbad_nil_same w).mono fun e w' ⟨he, hw⟩ => ⟨he, hw ▸ Below.refl _ _⟩

theorem bend_any (N : Nat) (rest : List Int) (bad : Bool) (w : World) (h : Rd w N rest bad) :
    Calls Try.prog 42 #[.pointer (some ⟨N, 0, none⟩)] w fun e w' => e = .returned (.bool (!bad && rest.isEmpty)) ∧ Below w.heap.size w w' := by
  have HR := Lib.hid h
  obtain ⟨A, cap, xs, hh, hl, h1, h2, h3⟩ := h
  have c0 := cell_two0 hh
  clear hh hl
  cases bad
  · obtain rfl := h3 rfl
    clear h3
    by_cases hx : xs.length = 0
    · have E := Lib.hid (show xs.isEmpty = true by simpa using hx)
      have hx' : xs.length < 1 := by omega
      have hx'' : ((xs.length : Int) == 0) = true := by simpa using hx
      clear hx
      go_enter Try.func42, Try.ntmps42
      go_wp2_with (go_at_call 84; (with_reducible refine (bbad_same _ _ _ _ HR.out).mono ?_); rintro e w' ⟨rfl, rfl⟩)
      go_ret
      exact ⟨by rw [E.out]; rfl, Below.refl _ _⟩
    · have E := Lib.hid (show xs.isEmpty = false by cases xs with
        | nil => exact absurd rfl hx
        | cons _ _ => rfl)
      have hx' : 1 ≤ xs.length := by omega
      have hx'' : ((xs.length : Int) == 0) = false := by simpa using hx
      clear hx
      go_enter Try.func42, Try.ntmps42
      go_wp2_with (go_at_call 84; (with_reducible refine (bbad_same _ _ _ _ HR.out).mono ?_); rintro e w' ⟨rfl, rfl⟩)
      go_ret
      exact ⟨by rw [E.out]; rfl, Below.refl _ _⟩
  · clear h3
    go_enter Try.func42, Try.ntmps42
    go_wp2_with (go_at_call 84; (with_reducible refine (bbad_same _ _ _ _ HR.out).mono ?_); rintro e w' ⟨rfl, rfl⟩)
    go_ret
    exact ⟨rfl, Below.refl _ _⟩
theorem bend_nil (w : World) : Calls Try.prog 42 #[.pointer none] w fun e w' => e = .returned (.bool false) ∧ Below w.heap.size w w' := by
  go_enter Try.func42, Try.ntmps42
  go_wp2_with (go_at_call 84; (with_reducible refine (bbad_nil_same _).mono ?_); rintro e w' ⟨rfl, rfl⟩)
  go_ret
  exact ⟨rfl, Below.refl _ _⟩

theorem bget_nil (most : Int) (w : World) : Calls Try.prog 83 #[.pointer none, .int .i64 most] w fun e w' => e = .returned (.int .i64 0) ∧ Below w.heap.size w w' := by
  go_enter Try.func83, Try.ntmps83
  go_wp2_with (go_at_call 84; (with_reducible refine (bbad_nil_same _).mono ?_); rintro e w' ⟨rfl, rfl⟩)
  go_ret
  exact ⟨rfl, Below.refl _ _⟩

theorem rd_cut {w : World} {N n c s : Nat} {A A' : Option Addr} {cap : Nat} {xs : List Int} (h : w.heap[N]? = some (.cells #[.slice A xs.length cap, .bool false] 105 (0, 0))) (hl : Lies w N A (xs.map (Value.int .u8)))
    (hn : n = (xs.drop s).length) (hc : n ≤ c) (hm : c ≤ 9223372036854775807) (hl' : Lies w N A' ((xs.drop s).map (Value.int .u8))) : Rd (w.setCell ⟨N, 0, none⟩ (.slice A' n c)) N (xs.drop s) false := by
  subst hn
  exact ⟨A', c, xs.drop s, two_set0 h, hl'.below ((Below.refl N w).setCell (Nat.le_refl _) _), hc, hm, fun _ => rfl⟩
theorem rd_bad {w : World} {N : Nat} {u v : Value} {l : List Int} (h : w.heap[N]? = some (.cells #[u, v] 105 (0, 0))) : Rd ((w.setCell ⟨N, 0, none⟩ (.slice none 0 0)).setCell ⟨N, 1, none⟩ (.bool true)) N l true :=
  ⟨none, 0, [], two_set1 (two_set0 h), Lies.nil, Nat.le_refl _, by omega, fun h => by cases h⟩

/-- All blocks but one are as they were. -/
def Side (N : Nat) (w w' : World) : Prop := w'.heap.size = w.heap.size ∧ ∀ b, b ≠ N → w'.heap[b]? = w.heap[b]?
theorem Side.refl (N : Nat) (w : World) : Side N w w := ⟨rfl, fun _ _ => rfl⟩
theorem Side.trans {N : Nat} {w w1 w2 : World} (h : Side N w w1) (g : Side N w1 w2) : Side N w w2 := ⟨g.1.trans h.1, fun b hb => (g.2 b hb).trans (h.2 b hb)⟩
theorem Side.setCell {N : Nat} {w w1 : World} (h : Side N w w1) (i : Nat) (v : Value) : Side N w (w1.setCell ⟨N, i, none⟩ v) := by
  refine ⟨by simpa using h.1, fun b hb => Eq.trans ?_ (h.2 b hb)⟩
  show (w1.heap.modify N _)[b]? = _
  rw [Array.getElem?_modify, if_neg (fun g => hb g.symm)]
theorem Side.cell {N : Nat} {w w' : World} (h : Side N w w') {p : Addr} (hp : p.block ≠ N) : w'.cell? p = w.cell? p := by
  have e := h.2 p.block hp
  simp [World.cell?, e]
theorem Side.frozen {N : Nat} {w w' : World} (h : Side N w w') {p : Addr} (hp : p.block ≠ N) : w'.frozen? p = w.frozen? p := by
  have e := h.2 p.block hp
  simp [World.frozen?, e]
theorem bget_side (N B : Nat) (rest : List Int) (bad : Bool) (most : Int) (w : World) (hl : rest.length ≤ 1048576) (hr : ∀ b ∈ rest, 0 ≤ b ∧ b ≤ 255) (hBN : B ≤ N) (h : Rd w N rest bad) :
    Calls Try.prog 83 #[.pointer (some ⟨N, 0, none⟩), .int .i64 most] w fun e w' => GetOut .i64 N B (getR rest bad most).1 (getR rest bad most).2.1 (getR rest bad most).2.2 w e w' ∧ Side N w w' := by
  have HR := Lib.hid h
  have HB := Lib.hid hBN
  obtain ⟨A, cap, xs, hh, hla, h1, h2, h3⟩ := h
  have c0 := cell_two0 hh
  have c1 := cell_two1 hh
  have f0 : w.frozen? ⟨N, 0, none⟩ = false := free_two hh
  have f1 : w.frozen? ⟨N, 1, none⟩ = false := free_two hh
  have HH := Lib.hid hh
  have HL := Lib.hid hla
  clear hh hla hBN
  cases bad
  · obtain rfl := h3 rfl
    have HX := Lib.hid hr
    clear h3 hr
    obtain ⟨p, hp⟩ : ∃ p, nextOf xs = p := ⟨_, rfl⟩
    obtain ⟨n, s⟩ := p
    have HP := Lib.hid hp
    have HB5 : Hid (0 < s → n < 34359738368 ∧ s ≤ xs.length) := Lib.hid (fun g => by have := next_back (l := xs) HX.out (by rw [hp]; exact g); rw [hp] at this; exact ⟨this.1, this.2.2.2⟩)
    have HZ : Hid (s = 0 → n = 0) := Lib.hid (fun g => by have := next_zero (l := xs) (by rw [hp]; exact g); rw [hp] at this; exact this)
    clear hp
    by_cases h0 : s = 0
    · obtain rfl := HZ.out h0
      subst h0
      have E := Lib.hid (show getR xs false most = (0, xs, true) by unfold getR; rw [HP.out]; simp)
      rw [E.out]
      go_enter Try.func83, Try.ntmps83
      go_wp2_with (first
        | (go_at_call 84; (with_reducible refine (bbad_same _ _ _ _ HR.out).mono ?_); rintro e w' ⟨rfl, rfl⟩)
        | (go_at_call 96; (with_reducible refine (bfirst_any xs _ _ _ _ h1 h2 HX.out HL.out).mono ?_); rintro e w' ⟨he, rfl⟩; rw [HP.out] at he; subst he))
      go_ret
      exact ⟨⟨rfl, rd_bad HH.out, ((Below.refl B w).setCell HB.out _).setCell HB.out _⟩, ((Side.refl N w).setCell _ _).setCell _ _⟩
    · obtain ⟨g1, g2⟩ := HB5.out (by omega)
      have hs1 : ((s : Int) == 0) = false := by simpa using h0
      by_cases hm : (n : Int) ≤ most
      · have E := Lib.hid (show getR xs false most = ((n : Int), xs.drop s, false) by unfold getR; rw [HP.out]; simp [hm]; omega)
        rw [E.out]
        clear h0
        by_cases hcs : cap = s
        · subst hcs
          go_enter Try.func83, Try.ntmps83
          go_wp2_with (first
            | (go_at_call 84; (with_reducible refine (bbad_same _ _ _ _ HR.out).mono ?_); rintro e w' ⟨rfl, rfl⟩)
            | (go_at_call 96; (with_reducible refine (bfirst_any xs _ _ _ _ h1 h2 HX.out HL.out).mono ?_); rintro e w' ⟨he, rfl⟩; rw [HP.out] at he; subst he))
          go_ret
          exact ⟨⟨rfl, rd_cut HH.out HL.out (by simp; omega) (Nat.le_refl _) (by omega) (by rw [List.drop_eq_nil_of_le (by omega)]; exact Lies.nil), (Below.refl B w).setCell HB.out _⟩, (Side.refl N w).setCell _ _⟩
        · go_enter Try.func83, Try.ntmps83
          go_wp2_with (first
            | (go_at_call 84; (with_reducible refine (bbad_same _ _ _ _ HR.out).mono ?_); rintro e w' ⟨rfl, rfl⟩)
            | (go_at_call 96; (with_reducible refine (bfirst_any xs _ _ _ _ h1 h2 HX.out HL.out).mono ?_); rintro e w' ⟨he, rfl⟩; rw [HP.out] at he; subst he))
          go_ret
          exact ⟨⟨rfl, rd_cut HH.out HL.out (by simp) (by omega) (by omega) (by have := HL.out.drop_ s; rwa [← List.map_drop] at this), (Below.refl B w).setCell HB.out _⟩, (Side.refl N w).setCell _ _⟩
      · have E := Lib.hid (show getR xs false most = (0, xs, true) by unfold getR; rw [HP.out]; simp [hm])
        rw [E.out]
        go_enter Try.func83, Try.ntmps83
        go_wp2_with (first
          | (go_at_call 84; (with_reducible refine (bbad_same _ _ _ _ HR.out).mono ?_); rintro e w' ⟨rfl, rfl⟩)
          | (go_at_call 96; (with_reducible refine (bfirst_any xs _ _ _ _ h1 h2 HX.out HL.out).mono ?_); rintro e w' ⟨he, rfl⟩; rw [HP.out] at he; subst he))
        go_ret
        exact ⟨⟨rfl, rd_bad HH.out, ((Below.refl B w).setCell HB.out _).setCell HB.out _⟩, ((Side.refl N w).setCell _ _).setCell _ _⟩
  · have E := Lib.hid (show getR rest true most = (0, rest, true) by unfold getR; rw [if_neg (by simp)])
    rw [E.out]
    clear h3 hr
    go_enter Try.func83, Try.ntmps83
    go_wp2_with (go_at_call 84; (with_reducible refine (bbad_same _ _ _ _ HR.out).mono ?_); rintro e w' ⟨rfl, rfl⟩)
    go_ret
    exact ⟨⟨rfl, HR.out, Below.refl _ _⟩, Side.refl _ _⟩

theorem bget_any (N B : Nat) (rest : List Int) (bad : Bool) (most : Int) (w : World) (hl : rest.length ≤ 1048576) (hr : ∀ b ∈ rest, 0 ≤ b ∧ b ≤ 255) (hBN : B ≤ N) (h : Rd w N rest bad) :
    Calls Try.prog 83 #[.pointer (some ⟨N, 0, none⟩), .int .i64 most] w (GetOut .i64 N B (getR rest bad most).1 (getR rest bad most).2.1 (getR rest bad most).2.2 w) :=
  (bget_side N B rest bad most w hl hr hBN h).mono fun _ _ h => h.1

theorem new_len {Z : List Int} {A : Option Addr} {m cap B : Nat} {w : World} (HZ : Hid (Z.length = m)) (H2 : Hid (m ≤ 200)) (HR : Hid (∀ b ∈ Z, 0 ≤ b ∧ b ≤ 255)) (HB : Hid (B ≤ w.heap.size)) (HA : Hid (A = none → cap = 0)) (HL : Hid (Lies w B A (Z.map (Value.int .u8)))) :
    Calls Try.prog 40 #[.slice A m cap] w (NewOut Z w) := by
  obtain rfl := HZ.out
  exact bnew_any Z A cap B w (by have := H2.out; omega) HR.out HA.out HB.out HL.out
section
variable {w : World} {N B : Nat} {rest rest' : List Int} {bad bad' : Bool} {n most : Int}
theorem get_out (HR : Hid (Rd w N rest bad)) (HB : Hid (B ≤ N)) (HL : Hid (rest.length ≤ 1048576)) (HG : Hid (∀ b ∈ rest, 0 ≤ b ∧ b ≤ 255)) (G : Hid (getR rest bad most = (n, rest', bad'))) :
    Calls Try.prog 83 #[.pointer (some ⟨N, 0, none⟩), .int .i64 most] w (GetOut .i64 N B n rest' bad' w) := by
  have h := bget_any N B rest bad most w HL.out HG.out HB.out HR.out
  rw [G.out] at h
  exact h
theorem end_out (HR : Hid (Rd w N rest bad)) (E : Hid ((!bad && rest.isEmpty) = bad')) : Calls Try.prog 42 #[.pointer (some ⟨N, 0, none⟩)] w fun e w' => e = .returned (.bool bad') ∧ Below w.heap.size w w' := by
  have h := bend_any N rest bad w HR.out
  rw [E.out] at h
  exact h
end
end Go.Proofs.Ytikljohgdgibnaa
