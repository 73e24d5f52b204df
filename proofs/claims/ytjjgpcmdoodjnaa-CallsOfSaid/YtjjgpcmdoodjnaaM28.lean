/-
  The numbers of a set, rising (rising), by the program.
  What the program's own kind.Below comes to.
-/
import Derived.Test.YtjjgpcmdoodjnaaM03
import Derived.Test.YtjjgpcmdoodjnaaM04
import Derived.Test.YtjjgpcmdoodjnaaM27
import Derived.Test.YtjjgpcmdoodjnaaM25
import Derived.Deep.Cut
import Derived.WalkSpells
import Derived.Test.YtjjgpcmdoodjnaaM20
namespace Go.Proofs.Ytjjgpcmdoodjnaa
set_option maxRecDepth 100000
set_option linter.unusedVariables false
set_option linter.unusedSimpArgs false
open Go.ChangeShapes Go.WideShapes Go.ChangeAt Go.RowKit
open Go.Sort (Holds putRow)

/-- What was met so far: no number twice; just those that the map has and that are no longer to come. -/
def Got (D : DataW Unit) (left : Lit → Bool) (ss : List Int) : Prop := ss.Nodup ∧ ∀ x : Int, x ∈ ss ↔ (Go.Maps.has D (.int .i64 x) = true ∧ left (.int .i64 x) = false)
theorem Got.start (D : DataW Unit) : Got D (Go.Maps.has D) [] := ⟨List.nodup_nil, fun x => by cases Go.Maps.has D (.int .i64 x) <;> simp⟩
theorem Got.step {D : DataW Unit} {left : Lit → Bool} {ss : List Int} (h : Got D left ss) {x : Int} (hx : Go.Maps.has D (.int .i64 x) = true) (hlk : left (.int .i64 x) = true) : Got D (fun z => left z && !z.sameKey (.int .i64 x)) (ss ++ [x]) := by
  have hnew : x ∉ ss := fun hx => by have := ((h.2 x).1 hx).2; rw [hlk] at this; cases this
  refine ⟨List.nodup_append.2 ⟨h.1, by simp, fun a ha b hb => by simp at hb; subst hb; exact fun e => hnew (e ▸ ha)⟩, fun y => ?_⟩
  by_cases hy : y = x
  · subst hy; simp [hx, Lit.sameKey]
  · simp [h.2 y, hy, Lit.sameKey]
theorem sort_is (blk cap : Nat) (zs : List Int) (w : World) (hH : Holds (Value.int .i64) w blk 0 zs.toArray) (hblk : blk < w.heap.size) (hsz : zs.length < 4611686018427387904) :
    Calls Try.prog 25 #[.slice (some ⟨blk, 0, none⟩) zs.length cap] w fun e w' =>
      e = .returned (.tuple #[]) ∧ ∃ n os, w' = Go.Sort.grow (putRow (Value.int .i64) (Go.Sort.ahead w n) blk 0 (zs.mergeSort fun x y => decide (x ≤ y)).toArray) os :=
  Any.slices_Sort_int sort_lays blk 0 cap zs w hH hblk hsz
theorem sort_none (p : Option Addr) (cap : Nat) (w : World) : Calls Try.prog 25 #[.slice p 0 cap] w fun e w' => e = .returned (.tuple #[]) ∧ w' = w :=
  Any.slices_Sort_int_none sort_lays p cap w

set_option maxHeartbeats 1600000 in
theorem rising_any (b n : Nat) (p : Nat → Bool) (w : World) (H : MetIs w b p n) (hn : n ≤ 1048576) :
    Calls Try.prog 18 #[.map (some b)] w (OwnInts (pickTo p n) w) := by
  obtain ⟨i0, hi, hz0, hz1, hz2⟩ := info_parts info_int
  obtain ⟨D, ho, hh⟩ := H
  have hs := met_size ho hh
  have HH := Lib.hid hh
  have hbl := ho.lt
  clear hh
  go_enter Try.func18, Try.ntmps18
  go_wp2_with (at_range; refine wpList_range_own _ rfl _ 51 rfl 3 53 law_int Try.underlying51 _ b _ D rfl ho ?_; intro w0 hrg0 hg0 hs0)
  go_frame
  go_loopw [3] (fun v wr => ∃ (left : Lit → Bool) (cnt : Nat) (ss : List Int), wr.ranges Try.prog 3 (unitElem (H := Unit)) b w.heap.size (Go.Maps.size D) D left cnt ∧ ss.length + cnt ≤ Go.Maps.size D ∧
      wr.ownsRow w.heap.size 3 1 v ss.length (ss.map (Value.int .i64)) ∧ Hid (Got D left ss) ∧ Hid (Below w.heap.size w wr)) (fun _ wr => wr.rangeLeft b w.heap.size)
  case atStart =>
    exact ⟨_, _, [], hrg0, by simp, World.ownsRow_nil _ _ _ _, Lib.hid (Got.start D), Lib.hid ((Below.refl _ _).grown hg0 (Nat.le_refl _) (fun j hj => by cases hj))⟩
  case round =>
    obtain ⟨left, cnt, ss, hrg, hcs, hrow, HC, HX⟩ := hrel
    go_wp2_with (at_next; refine wpList_next_ranges _ rfl _ rfl 3 law_int (unitElem (H := Unit)) (Value.int .i64) (fun _ : Unit => .agg #[]) (fun key kl hk => by obtain ⟨x, hx, _⟩ := Maps.keyOf_int_inv Try.underlying3 hk; exact ⟨x, hx⟩) (fun v y hv => by obtain ⟨rfl, _⟩ := unitElem_inv hv; exact ⟨(), rfl⟩) b w.heap.size _ _ _ _ rfl hrg ?_ ?_)
    · intro hc0 hl0
      have hm : ∀ x, x ∈ ss ↔ x ∈ pickTo p n := fun x => by rw [HC.out.2 x, hl0, HH.out x]; simp
      have hsort := sort_pick HC.out.1 hm
      rcases hrow.2 with ⟨rfl, hz⟩ | ⟨g, cap, cur, rfl, hbase, hb, h1, h2, h3, h4⟩
      · have hsn : ss = [] := List.eq_nil_of_length_eq_zero hz
        subst hsn
        have hpe : pickTo p n = [] := by rw [← hsort]; simp
        have HPE := Lib.hid hpe
        clear hsort hm hpe
        go_wp2_with (go_at_call 25; refine (sort_none _ _ _).mono ?_; rintro e w' ⟨rfl, rfl⟩)
        go_ret
        rw [HPE.out]
        exact ⟨_, rfl, World.ownsRow_nil _ _ _ _, HX.out⟩
      · have hH : Holds (Value.int .i64) wr g 0 ss.toArray := holds_of_blockI hb (by simpa using h4)
        have hgl : g < wr.heap.size := (Array.getElem?_eq_some_iff.1 hb).1
        have hc := sort_is g cap ss wr hH hgl (by omega)
        have hle : (pickTo p n).length = ss.length := by rw [← hsort]; simp
        rw [hsort] at hc
        have HS := Lib.hid (And.intro hle (And.intro hbase (And.intro hb (And.intro h1 (And.intro h2 h3)))))
        clear hsort hm hle hbase hb h1 h2 h3 h4 hrow
        go_wp2_with (go_at_call 25; refine hc.mono ?_; rintro e w' ⟨rfl, nn, os, rfl⟩)
        go_ret
        obtain ⟨hle, hbase, hb, h1, h2, h3⟩ := HS.out
        refine ⟨_, rfl, ?_, HX.out.grown (grownBy_sortedI _) HX.out.size (fun j hj => by cases hj; exact hbase)⟩
        have q := ownsRow_sortedI (n := nn) (os := os) hle hbase hb h1 h2 h3
        rw [← hle] at q ⊢
        exact q
    · intro x c kl y w2 cnt2 hkey hlk hv hat hrg2 hlt hg2 hs2 hen
      obtain ⟨x', ex, rfl, _⟩ := Maps.keyOf_int_inv Try.underlying3 hkey
      cases ex
      have hrow2 := hrow.kept hg2 (Or.inr (row_ne_iter hrow hrg).symm)
      have HX2 := Lib.hid (HX.out.grown hg2 HX.out.size (fun j hj => by cases hj; exact Nat.le_refl _))
      have hsz2 := HX2.out.size
      have HG := Lib.hid (HC.out.step (Go.Maps.has_true_of_atKey hat) hlk)
      clear hs2 hkey hv
      go_wp2_with (at_builtin; refine append_liesK rfl _ _ 26 rfl _ 3 i0 (.int .i64 0) 1 8 Try.underlying26 hi hz0 hz1 hz2 rfl (by decide) _ ss.length (ss.map (Value.int .i64)) rfl (hrow2.alloc _) (some ⟨w2.heap.size, 0, none⟩) 1 1 _ [.int .i64 x] rfl rfl (lies_v1 w2 _ _) (one_cellv rfl) (by unfold maxLen; omega) (by omega) (by simp; omega) ?_; intro v6 w6 hown hgrow)
      have hrg3 := (hrg2.alloc (.cells #[.int .i64 x] 3)).kept hgrow (row_ne_low hrow2 hbl) (row_ne_iter hrow2 hrg2)
      go_roundw
      case rel => exact ⟨_, cnt2, ss ++ [x], hrg3, by simp; omega, by simpa using hown, HG, Lib.hid (appK_more (HX2.out.alloc hsz2 _) (hrow2.alloc _) (by simp; omega) hgrow)⟩
      case measure => rw [hrg3.left_eq, hrg.left_eq]; exact hlt
theorem rising_is {b n : Nat} {p : Nat → Bool} {w : World} (H : Hid (MetIs w b p n)) (hn : n ≤ 1048576) {L : List Int} (HL : Hid (pickTo p n = L)) :
    Calls Try.prog 18 #[.map (some b)] w (OwnInts L w) := by
  have h := rising_any b n p w H.out hn
  rw [HL.out] at h
  exact h
end Go.Proofs.Ytjjgpcmdoodjnaa
namespace Go.Proofs.Ytjjgpcmdoodjnaa
set_option maxRecDepth 100000
set_option linter.unusedVariables false
set_option linter.unusedSimpArgs false
open Go.ChangeShapes Go.WideShapes Go.ChangeAt Go.RowKit
set_option linter.unusedVariables false

/-- What stands above a class, in the program's own words: -1, if nothing does. -/
def supI (sup : List Int) (c : Int) : Int := match sup[c.toNat]? with
  | some s => if 0 ≤ s ∧ s < c then s else -1
  | none => -1

theorem kabove_any (sup : List Int) (c : Int) (h0 : 0 ≤ c) (h1 : c < sup.length) (A : Option Addr) (cap B : Nat) (w : World) (hl : sup.length ≤ 1048576) (h : Supers w B A sup) :
    Calls Try.prog 70 #[.slice A sup.length cap, .int .i64 c] w fun e w' => e = .returned (.int .i64 (supI sup c)) ∧ w = w' := by
  obtain ⟨K, rfl⟩ := Int.eq_ofNat_of_zero_le h0
  have hlt : K < sup.length := by omega
  have hs0 := List.getElem?_eq_getElem hlt
  obtain ⟨ad, rfl, hab, hc⟩ := h K _ hs0
  have E := Lib.hid (show supI sup (K : Int) = if 0 ≤ sup[K] ∧ sup[K] < (K : Int) then sup[K] else -1 by unfold supI; rw [Int.toNat_natCast, hs0])
  clear hs0 h
  generalize sup[K] = s at *
  by_cases g : 0 ≤ s ∧ s < (K : Int)
  · have E2 := Lib.hid (show supI sup (K : Int) = s by rw [E.out, if_pos g])
    clear E
    obtain ⟨g0, g1⟩ := g
    go_enter Try.func70, Try.ntmps70
    go_wp2_with fail
    go_ret
    rw [E2.out]
    exact ⟨rfl, rfl⟩
  · have E2 := Lib.hid (show supI sup (K : Int) = -1 by rw [E.out, if_neg g])
    clear E
    by_cases g0 : 0 ≤ s
    · have g1 : ¬ s < (K : Int) := by omega
      clear g
      go_enter Try.func70, Try.ntmps70
      go_wp2_with fail
      go_ret
      rw [E2.out]
      exact ⟨rfl, rfl⟩
    · clear g
      go_enter Try.func70, Try.ntmps70
      go_wp2_with fail
      go_ret
      rw [E2.out]
      exact ⟨rfl, rfl⟩

/-- Is there a class of that number? -/
def isClsB (sup : List Int) (c : Int) : Bool := decide (0 ≤ c ∧ c < sup.length)

theorem kisclass_any (sup : List Int) (c : Int) (A : Option Addr) (cap : Nat) (w : World) (hl : sup.length ≤ 1048576) :
    Calls Try.prog 69 #[.slice A sup.length cap, .int .i64 c] w fun e w' => e = .returned (.bool (isClsB sup c)) ∧ w = w' := by
  by_cases h0 : 0 ≤ c
  · by_cases h1 : c < sup.length
    · have E := Lib.hid (show isClsB sup c = true from decide_eq_true ⟨h0, h1⟩)
      go_enter Try.func69, Try.ntmps69
      go_wp2_with fail
      go_ret
      rw [E.out]
      exact ⟨by first | rfl | simp [h1], rfl⟩
    · have E := Lib.hid (show isClsB sup c = false from decide_eq_false (by omega))
      go_enter Try.func69, Try.ntmps69
      go_wp2_with fail
      go_ret
      rw [E.out]
      exact ⟨by first | rfl | simp [h1], rfl⟩
  · have E := Lib.hid (show isClsB sup c = false from decide_eq_false (by omega))
    go_enter Try.func69, Try.ntmps69
    go_wp2_with fail
    go_ret
    rw [E.out]
    exact ⟨by first | rfl | simp [h0], rfl⟩

theorem supI_bounds (sup : List Int) (c : Int) : -1 ≤ supI sup c ∧ (0 ≤ c → supI sup c < c) := by
  unfold supI
  split
  · split <;> omega
  · exact ⟨by omega, fun h => by omega⟩
theorem above_sup {sup : List Int} {c : Int} (h0 : 0 ≤ c) (h1 : c < sup.length) : aboveI sup c = c :: aboveI sup (supI sup c) := by
  obtain ⟨s, hs⟩ := super_at h0 h1
  rw [aboveI_step h0 hs]
  unfold supI
  rw [hs]
  dsimp only
  by_cases g : s < c
  · rw [if_pos g]
    by_cases g0 : 0 ≤ s
    · rw [if_pos ⟨g0, g⟩]
    · rw [if_neg (by omega), aboveI_bad (.inl (by omega)), aboveI_bad (.inl (by omega))]
  · rw [if_neg g, if_neg (by omega), aboveI_bad (.inl (by omega))]
theorem class_true {sup : List Int} {c : Int} (h : isClsB sup c = true) : 0 ≤ c ∧ c < sup.length := of_decide_eq_true h
theorem class_false {sup : List Int} {c : Int} (h : ¬ isClsB sup c = true) : c < 0 ∨ (sup.length : Int) ≤ c := by
  unfold isClsB at h
  simp at h
  omega
theorem inB_no {l : List Int} {n : Int} (h : n ∉ l) : inB l n = false := decide_eq_false h

theorem kbelow_any (sup : List Int) (a b : Int) (A : Option Addr) (cap B : Nat) (w : World) (hl : sup.length ≤ 1048576) (hB : B ≤ w.heap.size) (h : Supers w B A sup) :
    Calls Try.prog 62 #[.slice A sup.length cap, .int .i64 a, .int .i64 b] w fun e w' => e = .returned (.bool (inB (aboveI sup a) b)) ∧ Below w.heap.size w w' := by
  have HS := Lib.hid h
  clear h
  by_cases ha : isClsB sup a = true
  · by_cases hb : isClsB sup b = true
    · obtain ⟨a0, a1⟩ := class_true ha
      obtain ⟨b0, b1⟩ := class_true hb
      have HA := Lib.hid ha
      have HB := Lib.hid hb
      clear ha hb
      go_enter Try.func62, Try.ntmps62
      go_wp2_with (first
        | (go_at_call 69; (with_reducible refine (kisclass_any sup a A cap w hl).mono ?_); rintro e w' ⟨he, rfl⟩; rw [HA.out] at he; subst he)
        | (go_at_call 69; (with_reducible refine (kisclass_any sup b A cap w hl).mono ?_); rintro e w' ⟨he, rfl⟩; rw [HB.out] at he; subst he))
      go_loop [1] (fun i => ∃ c : Int, i = .int .i64 c ∧ -1 ≤ c ∧ c < sup.length ∧ inB (aboveI sup a) b = inB (aboveI sup c) b) (fun i => (intOf i + 1).toNat)
      case atStart => exact ⟨a, rfl, by omega, a1, rfl⟩
      case round =>
        obtain ⟨c, rfl, c0, c1, hn⟩ := hrel
        have HN := Lib.hid hn
        clear hn
        by_cases hcb : b < c
        · have R := Lib.hid (show inB (aboveI sup a) b = inB (aboveI sup (supI sup c)) b by
            rw [HN.out, above_sup (by omega) c1]
            unfold inB
            simp only [List.mem_cons]
            rw [decide_eq_decide]
            constructor
            · rintro (g | g)
              · omega
              · exact g
            · exact .inr)
          have hc0 : 0 ≤ c := by omega
          have hs := supI_bounds sup c
          clear HN
          go_wp2_with (go_at_call 70; (with_reducible refine (kabove_any sup c hc0 c1 A cap B w hl HS.out).mono ?_); rintro e w' ⟨rfl, rfl⟩)
          go_round
          case rel => exact ⟨supI sup c, rfl, hs.1, by have := hs.2 hc0; omega, R.out⟩
          case measure => have := hs.2 hc0; simp [intOf]; omega
        · by_cases hc : c = b
          · have R := Lib.hid (show inB (aboveI sup a) b = true by rw [HN.out, hc]; exact inB_iff.mpr (above_self b0 b1))
            clear HN
            go_wp2_with fail
            go_ret
            rw [R.out]
            exact ⟨by first | rfl | simp [hc], Below.refl _ _⟩
          · have R := Lib.hid (show inB (aboveI sup a) b = false by rw [HN.out]; exact inB_no (fun g => by have := above_range g; omega))
            clear HN
            go_wp2_with fail
            go_ret
            rw [R.out]
            exact ⟨by first | rfl | simp [hc], Below.refl _ _⟩
    · have HA := Lib.hid ha
      have HB := Lib.hid (show isClsB sup b = false by simpa using hb)
      have R := Lib.hid (show inB (aboveI sup a) b = false from inB_no (fun g => by have := above_range g; have := class_false hb; omega))
      clear ha hb
      go_enter Try.func62, Try.ntmps62
      go_wp2_with (first
        | (go_at_call 69; (with_reducible refine (kisclass_any sup a A cap w hl).mono ?_); rintro e w' ⟨he, rfl⟩; rw [HA.out] at he; subst he)
        | (go_at_call 69; (with_reducible refine (kisclass_any sup b A cap w hl).mono ?_); rintro e w' ⟨he, rfl⟩; rw [HB.out] at he; subst he))
      go_ret
      rw [R.out]
      exact ⟨rfl, Below.refl _ _⟩
  · have HA := Lib.hid (show isClsB sup a = false by simpa using ha)
    have R := Lib.hid (show inB (aboveI sup a) b = false from inB_no (fun g => by have := above_range g; have := class_false ha; omega))
    clear ha
    go_enter Try.func62, Try.ntmps62
    go_wp2_with (go_at_call 69; (with_reducible refine (kisclass_any sup a A cap w hl).mono ?_); rintro e w' ⟨he, rfl⟩; rw [HA.out] at he; subst he)
    go_ret
    rw [R.out]
    exact ⟨rfl, Below.refl _ _⟩
end Go.Proofs.Ytjjgpcmdoodjnaa
