/-
  When two lists of numbers are one, as the document says it.
  The document's own answers on calls, as statements use them; and the bounds of a sane image.
  A row of numbers that is filled round by round, until each is what a method, with all that it comes to, takes. Plain definitions and lemmas; no conditions.
  A set of numbers as a map of the call's own: which numbers it holds; stored into, asked. Plain lemmas; no conditions.
  slices.Sort at []int, by the library's contract: its closure's bodies and types at this program. Plain comparisons; no conditions.
  The numbers of a set, rising (rising), by the program.
  What the program's own kind.Below comes to.
  What the program's own word for what a list has at a place (at) comes to: of classes, numbers and types; whether there is a class of a number (isClass).
  What stands above a class, by the program's own words (above, wayUp): the nearest one, and all of them.
-/
import Derived.Test.YtefgepppcmhphaaM08
import Derived.Test.YtefgepppcmhphaaM16
import Derived.Test.YtefgepppcmhphaaM26
import Derived.Test.YtefgepppcmhphaaM27
import Derived.Test.YtefgepppcmhphaaM24
import Derived.Test.YtefgepppcmhphaaM02
import Derived.Maps.OwnSet
import Derived.Maps.RangeWalk
import Derived.Sort.OwnSortedInts
import Derived.Shelf.Sort.Plain
import Derived.Shelf.Slices.In.SortNone
import Derived.Test.YtefgepppcmhphaaProg
import Derived.Test.YtefgepppcmhphaaM01
import Derived.Test.YtefgepppcmhphaaM15
import Derived.Deep.Cut
import Derived.WalkSpells
import Derived.Test.YtefgepppcmhphaaM13
namespace Go.Proofs.Ytefgepppcmhphaa
set_option maxRecDepth 100000
set_option linter.unusedVariables false
set_option linter.unusedSimpArgs false
open Go.ChangeShapes Go.WideShapes Go.ChangeAt Go.RowKit
set_option linter.unusedVariables false

theorem rsameInts_any (l m : List Int) (A A' : Option Addr) (cap cap' B : Nat) (w : World) (hB : B ≤ w.heap.size) (h : SlcIs IntAt 1 w B A cap l) (h' : SlcIs IntAt 1 w B A' cap' m) :
    Calls Try.prog 13 #[.slice A l.length cap, .slice A' m.length cap'] w fun e w' => e = .returned (.bool (decide (l = m))) ∧ Below w.heap.size w w' := by
  have hlc := h.le
  have hcm := h.cap
  have hlc' := h'.le
  have hcm' := h'.cap
  have HL := Lib.hid h
  have HM := Lib.hid h'
  have HB := Lib.hid hB
  clear h h' hB
  obtain ⟨b, hb⟩ : ∃ b, decide (l = m) = b := ⟨_, rfl⟩
  rw [hb]
  have E := Lib.hid hb.symm
  clear hb
  by_cases hn : l.length = m.length
  · have HLN := Lib.hid hn
    have hlen : m.length = l.length := hn.symm
    rw [hlen]
    clear hn
    go_enter Try.func13, Try.ntmps13
    go_wp2
    go_loopw [5] (fun i wr => ∃ k : Nat, k ≤ l.length ∧ i = .int .i64 k ∧ Hid (l.take k = m.take k) ∧ Hid (Below w.heap.size w wr)) (fun i _ => l.length - (intOf i).toNat)
    case atStart => exact ⟨0, by omega, rfl, Lib.hid (by simp), Lib.hid (Below.refl _ _)⟩
    case round =>
      obtain ⟨k, hk, rfl, HN, HX⟩ := hrel
      by_cases hlt : k < l.length
      · have hltm : k < m.length := by omega
        obtain ⟨ad, rfl, hab, q0⟩ := (HL.out.below_to IntAt.keeps HX.out HB.out).row.at_ hlt
        obtain ⟨ad', rfl, hab', q0'⟩ := (HM.out.below_to IntAt.keeps HX.out HB.out).row.at_ hltm
        have HNE := Lib.hid (fun g => list_ne_at hlt hltm g)
        have HEQ := Lib.hid (fun g => take_both hlt hltm HN.out g)
        generalize l[k] = t at *
        generalize m[k] = s at *
        rw [Nat.mul_one] at q0 q0'
        have r0 : wr.cell? (ad.add k) = some (.int .i64 t) := q0
        have r0' : wr.cell? (ad'.add k) = some (.int .i64 s) := q0'
        by_cases hx : t = s
        · obtain rfl := hx
          have E2 := Lib.hid (HEQ.out rfl)
          go_wp2_with fail
          go_quiet (fail)
          go_wp2
          go_roundw
          case rel => exact ⟨k + 1, by omega, by go_num, E2, Lib.hid (below_drewN' HX.out _)⟩
          case measure => simp [intOf]; omega
        · have E2 := Lib.hid (show b = false by rw [E.out]; exact decide_eq_false (HNE.out (by simpa using hx)))
          go_wp2_with fail
          go_quiet (fail)
          go_wp2
          go_ret
          exact ⟨by rw [E2.out]; rfl, (below_drewN' HX.out _)⟩
      · have E2 := Lib.hid (show b = true by rw [E.out]; exact decide_eq_true (list_eq_ends HLN.out k HN.out (by omega)))
        go_wp2_with fail
        go_ret
        exact ⟨by rw [E2.out]; rfl, HX.out⟩
  · have E2 := Lib.hid (show b = false by rw [E.out]; exact decide_eq_false (fun g => hn (by rw [g])))
    have hn' : ((l.length : Int) == (m.length : Int)) = false := beq_eq_false_iff_ne.mpr (by omega)
    go_enter Try.func13, Try.ntmps13
    go_wp2
    go_ret
    exact ⟨by rw [E2.out]; rfl, Below.refl _ _⟩
end Go.Proofs.Ytefgepppcmhphaa
namespace Go.Proofs.Ytefgepppcmhphaa
set_option maxRecDepth 100000
set_option linter.unusedVariables false
set_option linter.unusedSimpArgs false
open Go.ChangeShapes Go.WideShapes Go.ChangeAt Go.RowKit
set_option linter.unusedVariables false

theorem cslcUp {α : Type} {At : AtP α} (hK : Keeps At) {k : Nat} {w w' : World} {A : Option Addr} {c : Nat} {l : List α} (h : SlcIs At k w w.heap.size A c l) (hb : Below w.heap.size w w') : SlcIs At k w' w'.heap.size A c l :=
  (h.below_to hK hb (Nat.le_refl _)).keep' hK hb.size (fun _ _ => rfl)
theorem saneB8_parts {m : Img} (h : saneB8 m = true) : m.methods.length ≤ 12 ∧ m.classes.length ≤ 8 := by
  unfold saneB8 at h
  simp only [Bool.and_eq_true, decide_eq_true_eq] at h
  exact ⟨h.1, h.2.1⟩
theorem redges_is {m : Img} {EL : List (List Int)} {n : Nat} {h : Hnd} {w0 w : World} (HI : Hid (ImgIn w0 w0.heap.size h m)) (HX : Hid (Below w0.heap.size w0 w)) (HS : Hid (saneB8 m = true)) (HL : Hid (edgesOf m = EL ∧ EL.length = n)) :
    Calls Try.prog 15 #[imgV h m] w fun e w' => ∃ A c, e = .returned (.slice A n c) ∧ SlcIs (SlcAt IntAt 1) 1 w' w'.heap.size A c EL ∧ Below w.heap.size w w' := by
  have h1 := saneB8_parts HS.out
  have h2 := saneB8_yes HS.out
  obtain ⟨rfl, rfl⟩ := HL.out
  exact redgesF_any m h w (HI.out.now HX.out) (by omega) (by omega) (fun x hx => by have := (h2.method hx).fits.cl; omega)
theorem rways_is {EL : List (List Int)} {n : Nat} {A : Option Addr} {c : Nat} {w : World} (H : Hid (SlcIs (SlcAt IntAt 1) 1 w w.heap.size A c EL)) (HN : Hid (EL.length = n)) (hl : n ≤ 1000) :
    Calls Try.prog 14 #[.slice A n c] w fun e w' => ∃ gO G W, e = .returned (.slice (some ⟨gO, 0, none⟩) n n) ∧ Below w.heap.size w w' ∧ SqIn w' gO n G W ∧ G.length = n ∧ WaysIn EL n n W ∧ w.heap.size ≤ gO ∧ ∀ g ∈ G, w.heap.size ≤ g := by
  exact rways_any EL n A c w H.out HN.out hl
theorem cints_is {l k : List Int} {n n' : Nat} {A A' : Option Addr} {c c' : Nat} {w : World} {r : Bool} (H : Hid (SlcIs IntAt 1 w w.heap.size A c l)) (H' : Hid (SlcIs IntAt 1 w w.heap.size A' c' k)) (HN : Hid (l.length = n ∧ k.length = n')) (HR : Hid (decide (l = k) = r)) :
    Calls Try.prog 13 #[.slice A n c, .slice A' n' c'] w fun e w' => e = .returned (.bool r) ∧ Below w.heap.size w w' := by
  obtain ⟨rfl, rfl⟩ := HN.out
  have h := rsameInts_any l k A A' c c' w.heap.size w (Nat.le_refl _) H.out H'.out
  rw [HR.out] at h
  exact h
theorem cints_same {l : List Int} {n n' : Nat} {A A' : Option Addr} {c c' : Nat} {w : World} (H : Hid (SlcIs IntAt 1 w w.heap.size A c l)) (H' : Hid (SlcIs IntAt 1 w w.heap.size A' c' l)) (HN : Hid (l.length = n ∧ l.length = n')) :
    Calls Try.prog 13 #[.slice A n c, .slice A' n' c'] w fun e w' => e = .returned (.bool true) ∧ Below w.heap.size w w' := cints_is H H' HN (Lib.hid (decide_eq_true rfl))
theorem slc_lies {w : World} {B : Nat} {A : Option Addr} {c : Nat} {l : List Int} (h : SlcIs IntAt 1 w B A c l) : Lies w B A (l.map (Value.int .i64)) := fun i v hi => by
  rw [List.getElem?_map] at hi
  cases hl : l[i]? with
  | none => rw [hl] at hi; cases hi
  | some x =>
    rw [hl] at hi
    injection hi with hi
    subst hi
    obtain ⟨ad, e, hb, hc⟩ := h.row i x hl
    exact ⟨ad, e, hb, by have hc : w.cell? (ad.add (i * 1)) = _ := hc; rw [Nat.mul_one] at hc; exact hc⟩
theorem cin_is {l : List Int} {n : Nat} {x : Int} {A : Option Addr} {c : Nat} {w : World} {r : Bool} (H : Hid (SlcIs IntAt 1 w w.heap.size A c l)) (HN : Hid (l.length = n)) (HR : Hid (inB l x = r)) :
    Calls Try.prog 25 #[.slice A n c, .int .i64 x] w fun e w' => e = .returned (.bool r) ∧ w = w' := by
  obtain rfl := HN.out
  have h := rin_any l x A c w.heap.size w (Nat.le_trans H.out.le H.out.cap) (slc_lies H.out)
  rw [HR.out] at h
  exact h
theorem inB_yes {l : List Int} {x : Int} (h : x ∈ l) : inB l x = true := decide_eq_true h
end Go.Proofs.Ytefgepppcmhphaa
namespace Go.Proofs.Ytefgepppcmhphaa
set_option maxRecDepth 100000
set_option linter.unusedVariables false
set_option linter.unusedSimpArgs false
open Go.ChangeShapes Go.WideShapes Go.ChangeAt Go.RowKit
set_option linter.unusedVariables false

structure RInv (EL : List (List Int)) (n : Nat) (C : Nat → Int) (r f : Nat) (O : List Int) : Prop where
  len : O.length = n
  low : ∀ t, 0 ≤ oN O t
  top : ∀ t, oN O t ≤ 4800000 * r + 400000 * f
  old : ∀ t, t < n → cntOf EL n t ≤ r → oN O t = boundF EL n C t
  new : ∀ t, t < n → t < f → cntOf EL n t ≤ r + 1 → oN O t = boundF EL n C t
section
variable {EL : List (List Int)} {n : Nat} {C : Nat → Int} {r f : Nat} {O : List Int}
theorem RInv.start : RInv EL n C 0 0 (List.replicate n 0) := by
  have h : ∀ t, oN (List.replicate n 0) t = 0 := fun t => by
    unfold oN
    rw [List.getElem?_replicate]
    split <;> rfl
  refine ⟨List.length_replicate .., fun t => by rw [h]; exact Int.le_refl _, fun t => by rw [h]; omega, fun t ht hc => ?_, fun t _ ht => by omega⟩
  have := cnt_pos (EL := EL) ht
  omega
theorem RInv.step (h : RInv EL n C r f O) (hE : EdgesIn EL n) (hn : n ≤ 12) (h0 : ∀ g, 0 ≤ C g) (h1 : ∀ g, C g ≤ 32088) (hf : f < n) : RInv EL n C r (f + 1) (O.set f (ownTo EL n C f n + beyTo EL n (oN O) f n)) := by
  have hl : f < O.length := by rw [h.len]; exact hf
  have a1 := ownTo_low (EL := EL) (n := n) (f := f) (k := n) h0
  have a2 := ownTo_top (EL := EL) (n := n) (C := C) (f := f) (k := n) (M := 32088) h1 (by omega)
  have a3 := beyTo_low (EL := EL) (n := n) (o := oN O) (f := f) (k := n)
  have a4 := beyTo_top (EL := EL) (n := n) (o := oN O) (f := f) (k := n) (M := 4800000 * (r : Int) + 400000 * (f : Int)) hE (by omega) (fun t _ => h.top t)
  refine ⟨by rw [List.length_set]; exact h.len, fun t => ?_, fun t => ?_, fun t ht hc => ?_, fun t ht htf hc => ?_⟩
  · rw [oN_set hl]
    split
    · omega
    · exact h.low t
  · rw [oN_set hl]
    split
    · omega
    · have := h.top t
      omega
  · rw [oN_set hl]
    split
    · rename_i e
      subst e
      exact bound_step hE ht (by omega) h.old
    · exact h.old t ht hc
  · rw [oN_set hl]
    split
    · rename_i e
      subst e
      exact bound_step hE ht hc h.old
    · exact h.new t ht (by omega) hc
theorem RInv.next (h : RInv EL n C r f O) (hf : n ≤ f) (hf2 : f ≤ 12) : RInv EL n C (r + 1) 0 O :=
  ⟨h.len, h.low, fun t => by have := h.top t; omega, fun t ht hc => h.new t ht (by omega) hc, fun t _ ht => by omega⟩
theorem RInv.done (h : RInv EL n C r f O) (hr : n ≤ r) : O = (List.range n).map (boundF EL n C) := by
  refine List.ext_getElem (by rw [h.len, List.length_map, List.length_range]) fun i h1 h2 => ?_
  have hi : i < n := by rw [← h.len]; exact h1
  have := h.old i hi (by have := cnt_le (EL := EL) (n := n) i; omega)
  rw [oN_at h1] at this
  rw [this]
  simp
end
/-- The most beyond, one more of a row. -/
theorem beyRow_take {EL : List (List Int)} {n g k : Nat} {o : Nat → Int} {b : Int} {L : List Int} (hk : k < L.length) : beyRow EL n o g b (L.take (k + 1)) = beyOne EL n o g (beyRow EL n o g b (L.take k)) L[k] := by
  unfold beyRow
  rw [List.take_add_one, List.getElem?_eq_getElem hk, List.foldl_append]
  rfl
end Go.Proofs.Ytefgepppcmhphaa
namespace Go.Proofs.Ytefgepppcmhphaa
set_option maxRecDepth 100000
set_option linter.unusedVariables false
set_option linter.unusedSimpArgs false
open Go.ChangeShapes Go.WideShapes Go.ChangeAt Go.RowKit
open Go.Maps (Keyed)

theorem law_int : Keyed Try.prog 3 := Go.Maps.int_keyed Try.underlying3
theorem zero_unit (w : World) : (zeroValue 82).run Try.prog w = .ok (.agg #[]) w := by kernel_rfl
theorem pick_nodup (p : Nat → Bool) (n : Nat) : (pickTo p n).Nodup := by
  unfold pickTo
  refine List.pairwise_map.mpr ((List.nodup_range.filter _).imp ?_)
  intro a b h e
  exact h (by omega)
theorem pick_sorted (p : Nat → Bool) (n : Nat) : (pickTo p n).Pairwise (fun a b => decide (a ≤ b) = true) := by
  unfold pickTo
  refine List.pairwise_map.mpr ((List.pairwise_lt_range.filter _).imp ?_)
  intro a b h
  simp
  omega
/-- Numbers without doublets, just these, come sorted to these in their order. -/
theorem sort_pick {p : Nat → Bool} {n : Nat} {ss : List Int} (hd : ss.Nodup) (hm : ∀ x, x ∈ ss ↔ x ∈ pickTo p n) : ss.mergeSort (fun x y => decide (x ≤ y)) = pickTo p n := by
  have tr : ∀ a b c : Int, decide (a ≤ b) = true → decide (b ≤ c) = true → decide (a ≤ c) = true := fun a b c h1 h2 => by simp at *; omega
  have tot : ∀ a b : Int, (decide (a ≤ b) || decide (b ≤ a)) = true := fun a b => by simp; omega
  have hp : ss.Perm (pickTo p n) := (List.perm_ext_iff_of_nodup hd (pick_nodup p n)).2 hm
  refine List.Perm.eq_of_pairwise (le := fun a b => decide (a ≤ b) = true) (fun a b _ _ h1 h2 => ?_) (List.pairwise_mergeSort tr tot ss) (pick_sorted p n) ((List.mergeSort_perm ss _).trans hp)
  simp at h1 h2
  omega
theorem count_pick {p : Nat → Bool} {n : Nat} {ss : List Int} (hd : ss.Nodup) (hm : ∀ x ∈ ss, x ∈ pickTo p n) : ss.length ≤ n := by
  have h1 : ss.Perm ((pickTo p n).filter (fun x => decide (x ∈ ss))) := by
    refine (List.perm_ext_iff_of_nodup hd ((pick_nodup p n).filter _)).2 fun x => ?_
    rw [List.mem_filter]
    exact ⟨fun h => ⟨hm x h, by simp [h]⟩, fun h => by simpa using h.2⟩
  rw [h1.length_eq]
  exact Nat.le_trans (List.length_filter_le _ _) (pickTo_len p n)

/-- Block b is a map that holds just these numbers below n. -/
def MetIs (w : World) (b : Nat) (p : Nat → Bool) (n : Nat) : Prop :=
  ∃ D : DataW Unit, w.ownsMap Try.prog 3 (unitElem (H := Unit)) b (Go.Maps.size D) D ∧ ∀ x : Int, Go.Maps.has D (.int .i64 x) = decide (x ∈ pickTo p n)
/-- A map's bound is no more than what it holds. -/
theorem owns_tight {w : World} {b n : Nat} {D : DataW Unit} (h : w.ownsMap Try.prog 3 (unitElem (H := Unit)) b n D) : w.ownsMap Try.prog 3 (unitElem (H := Unit)) b (Go.Maps.size D) D := by
  obtain ⟨es, clock, hb, F, _, rfl⟩ := h
  exact ⟨es, clock, hb, F, by simp [Go.Maps.size, length_sorted], rfl⟩
/-- What it holds, as a list of numbers. -/
theorem owns_keys {w : World} {b n : Nat} {D : DataW Unit} (h : w.ownsMap Try.prog 3 (unitElem (H := Unit)) b n D) : ∃ ks : List Int, ks.Nodup ∧ ks.length = Go.Maps.size D ∧ ∀ x : Int, x ∈ ks ↔ Go.Maps.has D (.int .i64 x) = true := by
  obtain ⟨es, hD, hpw, _⟩ := h.entries law_int
  obtain ⟨es', clock, _, F, _, hD'⟩ := h
  have hk : ∀ p ∈ es, ∃ x : Int, p.1 = .int .i64 x := by
    intro p hp
    rw [hD] at hD'
    have e : es = (es'.toList.map (WideElems.rg Try.prog 3 (unitElem (H := Unit)))).foldr DataW.insert [] := by simpa using hD'
    rw [e] at hp
    obtain ⟨x, hx, rfl⟩ := List.mem_map.1 (mem_sorted.1 hp)
    obtain ⟨y, hy⟩ := F.reads x hx
    obtain ⟨z, _, hz, _⟩ := Maps.keyOf_int_inv Try.underlying3 (WideElems.rd_key hy)
    exact ⟨z, by rw [WideElems.rg_of hy]; exact hz⟩
  subst hD
  refine ⟨es.map (fun p => match p.1 with | .int _ x => x | _ => 0), ?_, by simp [Go.Maps.size], fun x => ?_⟩
  · refine List.pairwise_map.2 (hpw.imp_of_mem fun {p q} hp hq hne e => hne ?_)
    obtain ⟨a, ha⟩ := hk p hp
    obtain ⟨c, hc⟩ := hk q hq
    rw [ha, hc] at e ⊢
    exact congrArg _ e
  · rw [List.mem_map]
    constructor
    · rintro ⟨p, hp, rfl⟩
      obtain ⟨a, ha⟩ := hk p hp
      exact List.any_eq_true.2 ⟨p, hp, by rw [ha]; simp [Lit.sameKey]⟩
    · intro hx
      obtain ⟨p, hp, hs⟩ := List.any_eq_true.1 hx
      obtain ⟨a, ha⟩ := hk p hp
      rw [ha] at hs
      exact ⟨p, hp, by rw [ha]; simpa [Lit.sameKey] using hs⟩
theorem met_size {w : World} {b n : Nat} {p : Nat → Bool} {D : DataW Unit} (h : w.ownsMap Try.prog 3 (unitElem (H := Unit)) b (Go.Maps.size D) D) (hh : ∀ x : Int, Go.Maps.has D (.int .i64 x) = decide (x ∈ pickTo p n)) : Go.Maps.size D ≤ n := by
  obtain ⟨ks, hd, hl, hm⟩ := owns_keys h
  rw [← hl]
  refine count_pick (p := p) hd (fun x hx => ?_)
  have := (hm x).1 hx
  rw [hh x] at this
  simpa using this
theorem MetIs.made (w : World) (n : Nat) : MetIs (w.alloc (.map #[] 0)) w.heap.size (fun _ => false) n := by
  refine ⟨.map [], World.ownsMap_made w Try.prog _ _, fun x => ?_⟩
  have : x ∉ pickTo (fun _ => false) n := fun h => by
    obtain ⟨g, _, _, hg⟩ := mem_pick.1 h
    cases hg
  simp [this, Go.Maps.has]
theorem MetIs.kept {w w' : World} {b n : Nat} {p : Nat → Bool} {row : Option Nat} (h : MetIs w b p n) (hg : w.grownBy w' row) (hne : some b ≠ row) : MetIs w' b p n := by
  obtain ⟨D, ho, hh⟩ := h
  exact ⟨D, ho.kept hg hne, hh⟩
theorem MetIs.lt {w : World} {b n : Nat} {p : Nat → Bool} (h : MetIs w b p n) : b < w.heap.size := by
  obtain ⟨D, ho, hh⟩ := h
  exact ho.lt
theorem MetIs.below {w w' : World} {b n B : Nat} {p : Nat → Bool} (h : MetIs w b p n) (hb : Below B w w') (hB : b < B) : MetIs w' b p n := by
  obtain ⟨D, ⟨es, clock, he, r⟩, hh⟩ := h
  exact ⟨D, ⟨es, clock, (hb.block b hB).trans he, r⟩, hh⟩
theorem MetIs.cong {w : World} {b n : Nat} {p q : Nat → Bool} (h : MetIs w b p n) (e : ∀ g, g < n → p g = q g) : MetIs w b q n := by
  obtain ⟨D, ho, hh⟩ := h
  exact ⟨D, ho, fun x => by rw [hh x, pick_same e]⟩
theorem key_int {x : Int} (h : (Lit.int .i64 x).wf = true) : keyOf Try.prog 3 (.int .i64 x) = some (.int .i64 x) := Go.Maps.keyOf_int_mk Try.underlying3 h
theorem nat_wf {g n : Nat} (hg : g < n) (hn : n ≤ 9223372036854775807) : (Lit.int .i64 (g : Int)).wf = true := WalkArith.wf_i64 (by omega)
/-- Stored into. -/
theorem MetIs.put {b n g : Nat} {p : Nat → Bool} {D : DataW Unit} {w' : World} (hg : g < n) (hh : ∀ x : Int, Go.Maps.has D (.int .i64 x) = decide (x ∈ pickTo p n)) (h : w'.ownsMap Try.prog 3 (unitElem (H := Unit)) b (Go.Maps.size D + 1) (D.put (.int .i64 (g : Int)) (.agg []))) (hm : Go.Maps.IsMap D) :
    MetIs w' b (fun k => p k || decide (k = g)) n := by
  refine ⟨_, owns_tight h, fun x => ?_⟩
  by_cases hx : x = (g : Int)
  · subst hx
    rw [Go.Maps.has_put_same hm (k := .int .i64 (g : Int)) (by simp [WideAt.IsKeyLit])]
    exact (decide_eq_true (mem_pick.2 ⟨g, rfl, hg, by simp⟩)).symm
  · rw [Go.Maps.has_put_other (by simpa using hx), hh x, Bool.eq_iff_iff, decide_eq_true_eq, decide_eq_true_eq, mem_pick, mem_pick]
    constructor
    · rintro ⟨k, rfl, hk, hp⟩
      exact ⟨k, rfl, hk, by simp [hp]⟩
    · rintro ⟨k, rfl, hk, hp⟩
      refine ⟨k, rfl, hk, ?_⟩
      simp only [Bool.or_eq_true, decide_eq_true_eq] at hp
      rcases hp with hp | hp
      · exact hp
      · exact absurd (by rw [hp]) hx
section
variable {ops : Array Oper} {rest : List Oper} {o : Oper} {a : Act} {Q : Exit → Act → World → Prop}
theorem wp_met_store (w : World) (hg : o.guard = none) (m x v : Operand) (t : TypeId) (hop : o.op = Op.mapUpdate t m x v ∨ o.op = Op.insert t m x v) (ht : Try.prog.underlying t = some (.map 3 82)) (b n g : Nat) (p : Nat → Bool)
    (hm : a.eval m = .map (some b)) (H : MetIs w b p n) (hgn : g < n) (hn : n ≤ 1048576) (hx : a.eval x = .int .i64 (g : Int)) (hv : a.eval v = .agg #[])
    (hK : ∀ w', MetIs w' b (fun k => p k || decide (k = g)) n → w.grownBy w' (some b) → wpList Try.prog ops Q rest (a.put o.dst undef) w') :
    wpList Try.prog ops Q (o :: rest) a w := by
  refine wpList_plain hg fun K' hK' => ?_
  obtain ⟨D, ho, hh⟩ := H
  have hs := met_size ho hh
  obtain ⟨w', hrun, r1, r2⟩ := ho.update law_int ht (by unfold maxLen; omega) (key_int (nat_wf hgn (by omega))) (val := .agg #[]) unitElem_mk
  unfold Oper.wp
  rcases hop with hop | hop <;>
  · simp [execOp, hop, hm, hx, hv, hrun, Result.andThen]
    exact hK' _ _ (hK w' (MetIs.put hgn hh r1 ho.isMap) r2)
theorem wp_met_look (w : World) (hg : o.guard = none) (m x : Operand) (t : TypeId) (hop : o.op = Op.lookup t m x true) (ht : Try.prog.underlying t = some (.map 3 82)) (b n g : Nat) (p : Nat → Bool) (r : Bool)
    (hm : a.eval m = .map (some b)) (H : MetIs w b p n) (hgn : g < n) (hn : n ≤ 1048576) (hx : a.eval x = .int .i64 (g : Int)) (hr : p g = r)
    (hK : wpList Try.prog ops Q rest (a.put o.dst (.tuple #[.agg #[], .bool r])) w) :
    wpList Try.prog ops Q (o :: rest) a w := by
  obtain ⟨D, ho, hh⟩ := H
  have hk := key_int (nat_wf hgn (by omega))
  refine wpList_lookup_own_unit w hg m x t hop _ _ law_int ht (zero_unit w) b _ D hm ho _ _ hx hk ?_
  have e : Go.Maps.has D (.int .i64 (g : Int)) = r := by
    rw [hh, ← hr, Bool.eq_iff_iff, decide_eq_true_eq, mem_pick]
    constructor
    · rintro ⟨k, hk, _, hp⟩
      have : g = k := by omega
      rw [this]
      exact hp
    · exact fun h => ⟨g, rfl, hgn, h⟩
  rw [e]
  exact hK
end
end Go.Proofs.Ytefgepppcmhphaa
namespace Go.Proofs.Ytefgepppcmhphaa
set_option maxRecDepth 100000
set_option linter.unusedVariables false
set_option linter.unusedSimpArgs false
open Go.Shelf

def sort_ren : Go.Shelf.Ren := ⟨fun | 189 => 66 | 125 => 72 | 257 => 71 | 128 => 86 | 129 => 87 | 294 => 78 | 295 => 79 | 296 => 80 | 297 => 81 | 298 => 82 | 299 => 83 | 216 => 60 | 300 => 84 | 301 => 85 | 328 => 89 | 329 => 90 | 330 => 91 | 331 => 92 | 332 => 93 | 215 => 68 | 343 => 96 | n => n, fun | 28 => 26 | 3 => 3 | 46 => 105 | 0 => 0 | 51 => 127 | 53 => 129 | 4 => 4 | 183 => 122 | 182 => 121 | 131 => 59 | 5 => 5 | 9 => 9 | 218 => 131 | 222 => 135 | 228 => 137 | 229 => 138 | n => n, fun | n => n⟩
theorem sort_lays : Go.Proofs.Lays.n189 Try.prog sort_ren := {
  mixed := by kernel_rfl
  f125 := Try.func72.trans (congrArg some (by kernel_rfl))
  f128 := Try.func86.trans (congrArg some (by kernel_rfl))
  f129 := Try.func87.trans (congrArg some (by kernel_rfl))
  f189 := Try.func66.trans (congrArg some (by kernel_rfl))
  f215 := Try.func68.trans (congrArg some (by kernel_rfl))
  f216 := Try.func60.trans (congrArg some (by kernel_rfl))
  f257 := Try.func71.trans (congrArg some (by kernel_rfl))
  f294 := Try.func78.trans (congrArg some (by kernel_rfl))
  f295 := Try.func79.trans (congrArg some (by kernel_rfl))
  f296 := Try.func80.trans (congrArg some (by kernel_rfl))
  f297 := Try.func81.trans (congrArg some (by kernel_rfl))
  f298 := Try.func82.trans (congrArg some (by kernel_rfl))
  f299 := Try.func83.trans (congrArg some (by kernel_rfl))
  f300 := Try.func84.trans (congrArg some (by kernel_rfl))
  f301 := Try.func85.trans (congrArg some (by kernel_rfl))
  f328 := Try.func89.trans (congrArg some (by kernel_rfl))
  f329 := Try.func90.trans (congrArg some (by kernel_rfl))
  f330 := Try.func91.trans (congrArg some (by kernel_rfl))
  f331 := Try.func92.trans (congrArg some (by kernel_rfl))
  f332 := Try.func93.trans (congrArg some (by kernel_rfl))
  f343 := Try.func96.trans (congrArg some (by kernel_rfl))
  t0 := Try.underlying0
  a0 := Try.isAgg0
  z0 := Try.sizeOf0
  v0 := Try.zeroValue0
  t3 := Try.underlying3
  a3 := Try.isAgg3
  z3 := Try.sizeOf3
  v3 := Try.zeroValue3
  t4 := Try.underlying4
  a4 := Try.isAgg4
  z4 := Try.sizeOf4
  v4 := Try.zeroValue4
  t5 := Try.underlying5
  a5 := Try.isAgg5
  z5 := Try.sizeOf5
  v5 := Try.zeroValue5
  t9 := Try.underlying9
  a9 := Try.isAgg9
  z9 := Try.sizeOf9
  v9 := Try.zeroValue9
  t28 := Try.underlying26
  a28 := Try.isAgg26
  z28 := Try.sizeOf26
  v28 := Try.zeroValue26
  t46 := Try.underlying105
  a46 := Try.isAgg105
  z46 := Try.sizeOf105
  v46 := Try.zeroValue105
  t51 := Try.underlying127
  a51 := Try.isAgg127
  z51 := Try.sizeOf127
  v51 := Try.zeroValue127
  t53 := Try.underlying129
  a53 := Try.isAgg129
  z53 := Try.sizeOf129
  v53 := Try.zeroValue129
  t131 := Try.underlying59
  a131 := Try.isAgg59
  z131 := Try.sizeOf59
  v131 := Try.zeroValue59
  t182 := Try.underlying121
  a182 := Try.isAgg121
  z182 := Try.sizeOf121
  v182 := Try.zeroValue121
  t183 := Try.underlying122
  a183 := Try.isAgg122
  z183 := Try.sizeOf122
  v183 := Try.zeroValue122
  t218 := Try.underlying131
  a218 := Try.isAgg131
  z218 := Try.sizeOf131
  v218 := Try.zeroValue131
  t222 := Try.underlying135
  a222 := Try.isAgg135
  z222 := Try.sizeOf135
  v222 := Try.zeroValue135
  t228 := Try.underlying137
  a228 := Try.isAgg137
  z228 := Try.sizeOf137
  v228 := Try.zeroValue137
  t229 := Try.underlying138
  a229 := Try.isAgg138
  z229 := Try.sizeOf138
  v229 := Try.zeroValue138 }
end Go.Proofs.Ytefgepppcmhphaa
namespace Go.Proofs.Ytefgepppcmhphaa
set_option maxRecDepth 100000
set_option linter.unusedVariables false
set_option linter.unusedSimpArgs false
open Go.ChangeShapes Go.WideShapes Go.ChangeAt Go.RowKit
open Go.Sort (Holds putRow)

/-- What was met so far: no number twice; just those that the map has and that are no longer to come. -/
def Got (D : DataW Unit) (left : Lit → Bool) (ss : List Int) : Prop := ss.Nodup ∧ ∀ x : Int, x ∈ ss ↔ (Go.Maps.has D (.int .i64 x) = true ∧ left (.int .i64 x) = false)
theorem Got.start (D : DataW Unit) : Got D (Go.Maps.has D) [] := ⟨List.nodup_nil, fun x => by cases Go.Maps.has D (.int .i64 x) <;> simp⟩
theorem Got.step {D : DataW Unit} {left : Lit → Bool} {ss : List Int} (h : Got D left ss) {x : Int} (hx : Go.Maps.has D (.int .i64 x) = true) (hlk : left (.int .i64 x) = true) : Got D (fun z => left z && !z.sameKey (.int .i64 x)) (ss ++ [x]) := by
  have hnew : x ∉ ss := fun hx => by have := ((h.2 x).1 hx).2; rw [hlk] at this; cases this
  refine ⟨List.nodup_append.2 ⟨h.1, by simp, fun a ha b hb => by simp at hb; subst hb; exact fun e => hnew (e ▸ ha)⟩, fun y => ?_⟩
  by_cases hy : y = x
  · subst hy; simp [hx, Lit.sameKey]
  · simp [h.2 y, hy, Lit.sameKey]
theorem sort_is (blk cap : Nat) (zs : List Int) (w : World) (hH : Holds (Value.int .i64) w blk 0 zs.toArray) (hblk : blk < w.heap.size) (hsz : zs.length < 4611686018427387904) :
    Calls Try.prog 66 #[.slice (some ⟨blk, 0, none⟩) zs.length cap] w fun e w' =>
      e = .returned (.tuple #[]) ∧ ∃ n os, w' = Go.Sort.grow (putRow (Value.int .i64) (Go.Sort.ahead w n) blk 0 (zs.mergeSort fun x y => decide (x ≤ y)).toArray) os :=
  Any.slices_Sort_int sort_lays blk 0 cap zs w hH hblk hsz
theorem sort_none (p : Option Addr) (cap : Nat) (w : World) : Calls Try.prog 66 #[.slice p 0 cap] w fun e w' => e = .returned (.tuple #[]) ∧ w' = w :=
  Any.slices_Sort_int_none sort_lays p cap w

set_option maxHeartbeats 1600000 in
theorem rising_any (b n : Nat) (p : Nat → Bool) (w : World) (H : MetIs w b p n) (hn : n ≤ 1048576) :
    Calls Try.prog 57 #[.map (some b)] w (OwnInts (pickTo p n) w) := by
  obtain ⟨i0, hi, hz0, hz1, hz2⟩ := info_parts info_int
  obtain ⟨D, ho, hh⟩ := H
  have hs := met_size ho hh
  have HH := Lib.hid hh
  have hbl := ho.lt
  clear hh
  go_enter Try.func57, Try.ntmps57
  go_wp2_with (at_range; refine wpList_range_own _ rfl _ 102 rfl 3 82 law_int Try.underlying102 _ b _ D rfl ho ?_; intro w0 hrg0 hg0 hs0)
  go_frame
  go_loopw [3] (fun v wr => ∃ (left : Lit → Bool) (cnt : Nat) (ss : List Int), wr.ranges Try.prog 3 (unitElem (H := Unit)) b w.heap.size (Go.Maps.size D) D left cnt ∧ ss.length + cnt ≤ Go.Maps.size D ∧
      wr.ownsRow w.heap.size 3 1 v ss.length (ss.map (Value.int .i64)) ∧ Hid (Got D left ss) ∧ Hid (Below w.heap.size w wr)) (fun _ wr => wr.rangeLeft b w.heap.size)
  case atStart =>
    exact ⟨_, _, [], hrg0, by simp, World.ownsRow_nil _ _ _ _, Lib.hid (Got.start D), Lib.hid ((Below.refl _ _).grown hg0 (Nat.le_refl _) (fun j hj => by cases hj))⟩
  case round =>
    obtain ⟨left, cnt, ss, hrg, hcs, hrow, HC, HX⟩ := hrel
    go_wp2_with (at_next; refine wpList_next_ranges _ rfl _ rfl 3 law_int (unitElem (H := Unit)) (Value.int .i64) (fun _ : Unit => .agg #[]) (fun key kl hk => by obtain ⟨x, hx, _⟩ := Maps.keyOf_int_inv Try.underlying3 hk; exact ⟨x, hx⟩) (fun v y hv => by obtain ⟨rfl, _⟩ := unitElem_inv hv; exact ⟨(), rfl⟩) b w.heap.size _ _ _ _ rfl hrg ?_ ?_)
    · intro hc0 hl0
      have hm : ∀ x, x ∈ ss ↔ x ∈ pickTo p n := fun x => by rw [HC.out.2 x, hl0, HH.out x]; simp
      have hsort := sort_pick HC.out.1 hm
      rcases hrow.2 with ⟨rfl, hz⟩ | ⟨g, cap, cur, rfl, hbase, hb, h1, h2, h3, h4⟩
      · have hsn : ss = [] := List.eq_nil_of_length_eq_zero hz
        subst hsn
        have hpe : pickTo p n = [] := by rw [← hsort]; simp
        have HPE := Lib.hid hpe
        clear hsort hm hpe
        go_wp2_with (go_at_call 66; refine (sort_none _ _ _).mono ?_; rintro e w' ⟨rfl, rfl⟩)
        go_ret
        rw [HPE.out]
        exact ⟨_, rfl, World.ownsRow_nil _ _ _ _, HX.out⟩
      · have hH : Holds (Value.int .i64) wr g 0 ss.toArray := holds_of_blockI hb (by simpa using h4)
        have hgl : g < wr.heap.size := (Array.getElem?_eq_some_iff.1 hb).1
        have hc := sort_is g cap ss wr hH hgl (by omega)
        have hle : (pickTo p n).length = ss.length := by rw [← hsort]; simp
        rw [hsort] at hc
        have HS := Lib.hid (And.intro hle (And.intro hbase (And.intro hb (And.intro h1 (And.intro h2 h3)))))
        clear hsort hm hle hbase hb h1 h2 h3 h4 hrow
        go_wp2_with (go_at_call 66; refine hc.mono ?_; rintro e w' ⟨rfl, nn, os, rfl⟩)
        go_ret
        obtain ⟨hle, hbase, hb, h1, h2, h3⟩ := HS.out
        refine ⟨_, rfl, ?_, HX.out.grown (grownBy_sortedI _) HX.out.size (fun j hj => by cases hj; exact hbase)⟩
        have q := ownsRow_sortedI (n := nn) (os := os) hle hbase hb h1 h2 h3
        rw [← hle] at q ⊢
        exact q
    · intro x c kl y w2 cnt2 hkey hlk hv hat hrg2 hlt hg2 hs2 hen
      obtain ⟨x', ex, rfl, _⟩ := Maps.keyOf_int_inv Try.underlying3 hkey
      cases ex
      have hrow2 := hrow.kept hg2 (Or.inr (row_ne_iter hrow hrg).symm)
      have HX2 := Lib.hid (HX.out.grown hg2 HX.out.size (fun j hj => by cases hj; exact Nat.le_refl _))
      have hsz2 := HX2.out.size
      have HG := Lib.hid (HC.out.step (Go.Maps.has_true_of_atKey hat) hlk)
      clear hs2 hkey hv
      go_wp2_with (at_builtin; refine append_liesK rfl _ _ 26 rfl _ 3 i0 (.int .i64 0) 1 8 Try.underlying26 hi hz0 hz1 hz2 rfl (by decide) _ ss.length (ss.map (Value.int .i64)) rfl (hrow2.alloc _) (some ⟨w2.heap.size, 0, none⟩) 1 1 _ [.int .i64 x] rfl rfl (lies_v1 w2 _ _) (one_cellv rfl) (by unfold maxLen; omega) (by omega) (by simp; omega) ?_; intro v6 w6 hown hgrow)
      have hrg3 := (hrg2.alloc (.cells #[.int .i64 x] 3)).kept hgrow (row_ne_low hrow2 hbl) (row_ne_iter hrow2 hrg2)
      go_roundw
      case rel => exact ⟨_, cnt2, ss ++ [x], hrg3, by simp; omega, by simpa using hown, HG, Lib.hid (appK_more (HX2.out.alloc hsz2 _) (hrow2.alloc _) (by simp; omega) hgrow)⟩
      case measure => rw [hrg3.left_eq, hrg.left_eq]; exact hlt
theorem rising_is {b n : Nat} {p : Nat → Bool} {w : World} (H : Hid (MetIs w b p n)) (hn : n ≤ 1048576) {L : List Int} (HL : Hid (pickTo p n = L)) :
    Calls Try.prog 57 #[.map (some b)] w (OwnInts L w) := by
  have h := rising_any b n p w H.out hn
  rw [HL.out] at h
  exact h
end Go.Proofs.Ytefgepppcmhphaa
namespace Go.Proofs.Ytefgepppcmhphaa
set_option maxRecDepth 100000
set_option linter.unusedVariables false
set_option linter.unusedSimpArgs false
open Go.ChangeShapes Go.WideShapes Go.ChangeAt Go.RowKit
set_option linter.unusedVariables false

/-- What stands above a class, in the program's own words: -1, if nothing does. -/
def supI (sup : List Int) (c : Int) : Int := match sup[c.toNat]? with
  | some s => if 0 ≤ s ∧ s < c then s else -1
  | none => -1

theorem kabove_any (sup : List Int) (c : Int) (h0 : 0 ≤ c) (h1 : c < sup.length) (A : Option Addr) (cap B : Nat) (w : World) (hl : sup.length ≤ 1048576) (h : Supers w B A sup) :
    Calls Try.prog 95 #[.slice A sup.length cap, .int .i64 c] w fun e w' => e = .returned (.int .i64 (supI sup c)) ∧ w = w' := by
  obtain ⟨K, rfl⟩ := Int.eq_ofNat_of_zero_le h0
  have hlt : K < sup.length := by omega
  have hs0 := List.getElem?_eq_getElem hlt
  obtain ⟨ad, rfl, hab, hc⟩ := h K _ hs0
  have E := Lib.hid (show supI sup (K : Int) = if 0 ≤ sup[K] ∧ sup[K] < (K : Int) then sup[K] else -1 by unfold supI; rw [Int.toNat_natCast, hs0])
  clear hs0 h
  generalize sup[K] = s at *
  by_cases g : 0 ≤ s ∧ s < (K : Int)
  · have E2 := Lib.hid (show supI sup (K : Int) = s by rw [E.out, if_pos g])
    clear E
    obtain ⟨g0, g1⟩ := g
    go_enter Try.func95, Try.ntmps95
    go_wp2_with fail
    go_ret
    rw [E2.out]
    exact ⟨rfl, rfl⟩
  · have E2 := Lib.hid (show supI sup (K : Int) = -1 by rw [E.out, if_neg g])
    clear E
    by_cases g0 : 0 ≤ s
    · have g1 : ¬ s < (K : Int) := by omega
      clear g
      go_enter Try.func95, Try.ntmps95
      go_wp2_with fail
      go_ret
      rw [E2.out]
      exact ⟨rfl, rfl⟩
    · clear g
      go_enter Try.func95, Try.ntmps95
      go_wp2_with fail
      go_ret
      rw [E2.out]
      exact ⟨rfl, rfl⟩

/-- Is there a class of that number? -/
def isClsB (sup : List Int) (c : Int) : Bool := decide (0 ≤ c ∧ c < sup.length)

theorem kisclass_any (sup : List Int) (c : Int) (A : Option Addr) (cap : Nat) (w : World) (hl : sup.length ≤ 1048576) :
    Calls Try.prog 94 #[.slice A sup.length cap, .int .i64 c] w fun e w' => e = .returned (.bool (isClsB sup c)) ∧ w = w' := by
  by_cases h0 : 0 ≤ c
  · by_cases h1 : c < sup.length
    · have E := Lib.hid (show isClsB sup c = true from decide_eq_true ⟨h0, h1⟩)
      go_enter Try.func94, Try.ntmps94
      go_wp2_with fail
      go_ret
      rw [E.out]
      exact ⟨by first | rfl | simp [h1], rfl⟩
    · have E := Lib.hid (show isClsB sup c = false from decide_eq_false (by omega))
      go_enter Try.func94, Try.ntmps94
      go_wp2_with fail
      go_ret
      rw [E.out]
      exact ⟨by first | rfl | simp [h1], rfl⟩
  · have E := Lib.hid (show isClsB sup c = false from decide_eq_false (by omega))
    go_enter Try.func94, Try.ntmps94
    go_wp2_with fail
    go_ret
    rw [E.out]
    exact ⟨by first | rfl | simp [h0], rfl⟩

theorem supI_bounds (sup : List Int) (c : Int) : -1 ≤ supI sup c ∧ (0 ≤ c → supI sup c < c) := by
  unfold supI
  split
  · split <;> omega
  · exact ⟨by omega, fun h => by omega⟩
theorem above_sup {sup : List Int} {c : Int} (h0 : 0 ≤ c) (h1 : c < sup.length) : aboveI sup c = c :: aboveI sup (supI sup c) := by
  obtain ⟨s, hs⟩ := super_at h0 h1
  rw [aboveI_step h0 hs]
  unfold supI
  rw [hs]
  dsimp only
  by_cases g : s < c
  · rw [if_pos g]
    by_cases g0 : 0 ≤ s
    · rw [if_pos ⟨g0, g⟩]
    · rw [if_neg (by omega), aboveI_bad (.inl (by omega)), aboveI_bad (.inl (by omega))]
  · rw [if_neg g, if_neg (by omega), aboveI_bad (.inl (by omega))]
theorem class_true {sup : List Int} {c : Int} (h : isClsB sup c = true) : 0 ≤ c ∧ c < sup.length := of_decide_eq_true h
theorem class_false {sup : List Int} {c : Int} (h : ¬ isClsB sup c = true) : c < 0 ∨ (sup.length : Int) ≤ c := by
  unfold isClsB at h
  simp at h
  omega
theorem inB_no {l : List Int} {n : Int} (h : n ∉ l) : inB l n = false := decide_eq_false h

theorem kbelow_any (sup : List Int) (a b : Int) (A : Option Addr) (cap B : Nat) (w : World) (hl : sup.length ≤ 1048576) (hB : B ≤ w.heap.size) (h : Supers w B A sup) :
    Calls Try.prog 88 #[.slice A sup.length cap, .int .i64 a, .int .i64 b] w fun e w' => e = .returned (.bool (inB (aboveI sup a) b)) ∧ Below w.heap.size w w' := by
  have HS := Lib.hid h
  clear h
  by_cases ha : isClsB sup a = true
  · by_cases hb : isClsB sup b = true
    · obtain ⟨a0, a1⟩ := class_true ha
      obtain ⟨b0, b1⟩ := class_true hb
      have HA := Lib.hid ha
      have HB := Lib.hid hb
      clear ha hb
      go_enter Try.func88, Try.ntmps88
      go_wp2_with (first
        | (go_at_call 94; (with_reducible refine (kisclass_any sup a A cap w hl).mono ?_); rintro e w' ⟨he, rfl⟩; rw [HA.out] at he; subst he)
        | (go_at_call 94; (with_reducible refine (kisclass_any sup b A cap w hl).mono ?_); rintro e w' ⟨he, rfl⟩; rw [HB.out] at he; subst he))
      go_loop [1] (fun i => ∃ c : Int, i = .int .i64 c ∧ -1 ≤ c ∧ c < sup.length ∧ inB (aboveI sup a) b = inB (aboveI sup c) b) (fun i => (intOf i + 1).toNat)
      case atStart => exact ⟨a, rfl, by omega, a1, rfl⟩
      case round =>
        obtain ⟨c, rfl, c0, c1, hn⟩ := hrel
        have HN := Lib.hid hn
        clear hn
        by_cases hcb : b < c
        · have R := Lib.hid (show inB (aboveI sup a) b = inB (aboveI sup (supI sup c)) b by
            rw [HN.out, above_sup (by omega) c1]
            unfold inB
            simp only [List.mem_cons]
            rw [decide_eq_decide]
            constructor
            · rintro (g | g)
              · omega
              · exact g
            · exact .inr)
          have hc0 : 0 ≤ c := by omega
          have hs := supI_bounds sup c
          clear HN
          go_wp2_with (go_at_call 95; (with_reducible refine (kabove_any sup c hc0 c1 A cap B w hl HS.out).mono ?_); rintro e w' ⟨rfl, rfl⟩)
          go_round
          case rel => exact ⟨supI sup c, rfl, hs.1, by have := hs.2 hc0; omega, R.out⟩
          case measure => have := hs.2 hc0; simp [intOf]; omega
        · by_cases hc : c = b
          · have R := Lib.hid (show inB (aboveI sup a) b = true by rw [HN.out, hc]; exact inB_iff.mpr (above_self b0 b1))
            clear HN
            go_wp2_with fail
            go_ret
            rw [R.out]
            exact ⟨by first | rfl | simp [hc], Below.refl _ _⟩
          · have R := Lib.hid (show inB (aboveI sup a) b = false by rw [HN.out]; exact inB_no (fun g => by have := above_range g; omega))
            clear HN
            go_wp2_with fail
            go_ret
            rw [R.out]
            exact ⟨by first | rfl | simp [hc], Below.refl _ _⟩
    · have HA := Lib.hid ha
      have HB := Lib.hid (show isClsB sup b = false by simpa using hb)
      have R := Lib.hid (show inB (aboveI sup a) b = false from inB_no (fun g => by have := above_range g; have := class_false hb; omega))
      clear ha hb
      go_enter Try.func88, Try.ntmps88
      go_wp2_with (first
        | (go_at_call 94; (with_reducible refine (kisclass_any sup a A cap w hl).mono ?_); rintro e w' ⟨he, rfl⟩; rw [HA.out] at he; subst he)
        | (go_at_call 94; (with_reducible refine (kisclass_any sup b A cap w hl).mono ?_); rintro e w' ⟨he, rfl⟩; rw [HB.out] at he; subst he))
      go_ret
      rw [R.out]
      exact ⟨rfl, Below.refl _ _⟩
  · have HA := Lib.hid (show isClsB sup a = false by simpa using ha)
    have R := Lib.hid (show inB (aboveI sup a) b = false from inB_no (fun g => by have := above_range g; have := class_false ha; omega))
    clear ha
    go_enter Try.func88, Try.ntmps88
    go_wp2_with (go_at_call 94; (with_reducible refine (kisclass_any sup a A cap w hl).mono ?_); rintro e w' ⟨he, rfl⟩; rw [HA.out] at he; subst he)
    go_ret
    rw [R.out]
    exact ⟨rfl, Below.refl _ _⟩
end Go.Proofs.Ytefgepppcmhphaa
namespace Go.Proofs.Ytefgepppcmhphaa
set_option maxRecDepth 100000
set_option linter.unusedVariables false
set_option linter.unusedSimpArgs false
open Go.ChangeShapes Go.WideShapes Go.ChangeAt Go.RowKit

theorem atcls_yes (k n cap : Nat) (ad : Addr) (s : Int) (A1 A2 : Option Addr) (n1 c1 n2 c2 : Nat) (w : World) (hk : k < n) (hn : n ≤ 9223372036854775807) (hab : ad.block < w.heap.size)
    (r0 : w.cell? (ad.add (k * 3)) = some (.int .i64 s)) (r1 : w.cell? (off_ (ad.add (k * 3)) 1) = some (.slice A1 n1 c1)) (r2 : w.cell? (off_ (ad.add (k * 3)) 2) = some (.slice A2 n2 c2)) :
    Calls Try.prog 76 #[.slice (some ad) n cap, .int .i64 k] w fun e w' => e = .returned (.tuple #[.agg #[.int .i64 s, .slice A1 n1 c1, .slice A2 n2 c2], .bool true]) ∧ Below w.heap.size w w' := by
  have HW := Lib.hid ((Below.refl w.heap.size w).alloc (Nat.le_refl _) (.cells #[.int .i64 0, .slice none 0 0, .slice none 0 0] 92))
  have r0 := (HW.out.cell (p := ad.add (k * 3)) (by rw [addr_add_block]; exact hab)).trans r0
  have r1 := (HW.out.cell (p := off_ (ad.add (k * 3)) 1) (by show (ad.add _).block < _; rw [addr_add_block]; exact hab)).trans r1
  have r2 := (HW.out.cell (p := off_ (ad.add (k * 3)) 2) (by show (ad.add _).block < _; rw [addr_add_block]; exact hab)).trans r2
  go_enter Try.func76, Try.ntmps76
  go_wp2
  exact bodyPost_ret (v := .tuple #[.agg #[.int .i64 s, .slice A1 n1 c1, .slice A2 n2 c2], .bool true]) (by simp [results, Try.results76, go_sem]) rfl ⟨rfl, (Below.refl _ _).alloc (Nat.le_refl _) _⟩
theorem atcls_no (k : Int) (n cap : Nat) (A : Option Addr) (w : World) (hn : n ≤ 9223372036854775807) (hk : k < 0 ∨ (n : Int) ≤ k) :
    Calls Try.prog 76 #[.slice A n cap, .int .i64 k] w fun e w' => e = .returned (.tuple #[.agg #[.int .i64 0, .slice none 0 0, .slice none 0 0], .bool false]) ∧ Below w.heap.size w w' := by
  by_cases h0 : k < 0
  · clear hk
    go_enter Try.func76, Try.ntmps76
    go_wp2
    exact bodyPost_ret (v := .tuple #[.agg #[.int .i64 0, .slice none 0 0, .slice none 0 0], .bool false]) (by simp [results, Try.results76, go_sem]) rfl ⟨rfl, ((Below.refl _ _).alloc (Nat.le_refl _) _).alloc (by simp) _⟩
  · have h1 : (n : Int) ≤ k := by omega
    have h2 : 0 ≤ k := by omega
    clear hk h0
    go_enter Try.func76, Try.ntmps76
    go_wp2
    exact bodyPost_ret (v := .tuple #[.agg #[.int .i64 0, .slice none 0 0, .slice none 0 0], .bool false]) (by simp [results, Try.results76, go_sem]) rfl ⟨rfl, ((Below.refl _ _).alloc (Nat.le_refl _) _).alloc (by simp) _⟩

theorem atint_yes (k n cap : Nat) (ad : Addr) (z : Int) (w : World) (hk : k < n) (hn : n ≤ 9223372036854775807) (r0 : w.cell? (ad.add k) = some (.int .i64 z)) :
    Calls Try.prog 77 #[.slice (some ad) n cap, .int .i64 k] w fun e w' => e = .returned (.tuple #[.int .i64 z, .bool true]) ∧ w = w' := by
  go_enter Try.func77, Try.ntmps77
  go_wp2
  go_ret2
  exact ⟨rfl, rfl⟩
theorem atint_no (k : Int) (n cap : Nat) (A : Option Addr) (w : World) (hn : n ≤ 9223372036854775807) (hk : k < 0 ∨ (n : Int) ≤ k) :
    Calls Try.prog 77 #[.slice A n cap, .int .i64 k] w fun e w' => e = .returned (.tuple #[.int .i64 0, .bool false]) ∧ Below w.heap.size w w' := by
  by_cases h0 : k < 0
  · clear hk
    go_enter Try.func77, Try.ntmps77
    go_wp2
    go_ret2
    exact ⟨rfl, by first | exact Below.refl _ _ | exact (Below.refl _ _).alloc (Nat.le_refl _) _⟩
  · have h1 : (n : Int) ≤ k := by omega
    have h2 : 0 ≤ k := by omega
    clear hk h0
    go_enter Try.func77, Try.ntmps77
    go_wp2
    go_ret2
    exact ⟨rfl, by first | exact Below.refl _ _ | exact (Below.refl _ _).alloc (Nat.le_refl _) _⟩

theorem isclass_yes (cl : List Cls) (k : Nat) (hk : k < cl.length) (A : Option Addr) (cap : Nat) (w : World) (h : SlcIs ClsAt 3 w w.heap.size A cap cl) :
    Calls Try.prog 74 #[.slice A cl.length cap, .int .i64 k] w fun e w' => e = .returned (.bool true) ∧ Below w.heap.size w w' := by
  have h1 := h.le
  have h2 := h.cap
  obtain ⟨ad, rfl, hab, r0, ⟨A1, k1, r1, _⟩, ⟨A2, k2, r2, _⟩, _⟩ := h.row.at_ hk
  clear h
  have hn : cl.length ≤ 9223372036854775807 := by omega
  generalize cl[k] = x at *
  generalize cl.length = n at *
  go_enter Try.func74, Try.ntmps74
  go_wp2_with (go_at_call 76; (with_reducible refine (atcls_yes k n cap ad _ _ _ _ _ _ _ w hk hn hab r0 r1 r2).mono ?_); rintro e w' ⟨rfl, hb⟩; have HB := Lib.hid hb; clear hb)
  go_ret
  exact ⟨rfl, by first | exact HB.out | exact HB.out.alloc HB.out.size _⟩
theorem isclass_no (cl : List Cls) (k : Int) (hk : k < 0 ∨ (cl.length : Int) ≤ k) (A : Option Addr) (cap : Nat) (w : World) (h : SlcIs ClsAt 3 w w.heap.size A cap cl) :
    Calls Try.prog 74 #[.slice A cl.length cap, .int .i64 k] w fun e w' => e = .returned (.bool false) ∧ Below w.heap.size w w' := by
  have h1 := h.le
  have h2 := h.cap
  have hn : cl.length ≤ 9223372036854775807 := by omega
  clear h
  generalize cl.length = n at *
  go_enter Try.func74, Try.ntmps74
  go_wp2_with (go_at_call 76; (with_reducible refine (atcls_no k n cap A w hn hk).mono ?_); rintro e w' ⟨rfl, hb⟩; have HB := Lib.hid hb; clear hb)
  go_ret
  exact ⟨rfl, by first | exact HB.out | exact HB.out.alloc HB.out.size _⟩

end Go.Proofs.Ytefgepppcmhphaa
namespace Go.Proofs.Ytefgepppcmhphaa
set_option maxRecDepth 100000
set_option linter.unusedVariables false
set_option linter.unusedSimpArgs false
open Go.ChangeShapes Go.WideShapes Go.ChangeAt Go.RowKit

theorem sup_in {sup : List Int} {c s : Int} (h0 : 0 ≤ c) (hs : sup[c.toNat]? = some s) : (¬ s = c ∧ inB (aboveI sup c) s = true) ↔ (0 ≤ s ∧ s < c) := by
  have h1 : c < sup.length := by
    rcases Nat.lt_or_ge c.toNat sup.length with g | g
    · omega
    · rw [List.getElem?_eq_none g] at hs; cases hs
  rw [inB_iff]
  constructor
  · rintro ⟨hn, hm⟩
    have := above_range hm
    omega
  · rintro ⟨g0, g1⟩
    refine ⟨by omega, ?_⟩
    rw [aboveI_step h0 hs, if_pos g1]
    exact List.mem_cons_of_mem _ (above_self g0 (by omega))
theorem supI_eq {sup : List Int} {c s : Int} (hs : sup[c.toNat]? = some s) : supI sup c = if 0 ≤ s ∧ s < c then s else -1 := by
  unfold supI; rw [hs]

theorem cabove_any (sup : List Int) (c : Int) (h0 : 0 ≤ c) (h1 : c < sup.length) (A : Option Addr) (cap B : Nat) (w : World) (hl : sup.length ≤ 1048576) (hB : B ≤ w.heap.size) (h : Supers w B A sup) :
    Calls Try.prog 75 #[.slice A sup.length cap, .int .i64 c] w fun e w' => e = .returned (.int .i64 (supI sup c)) ∧ Below w.heap.size w w' := by
  obtain ⟨K, rfl⟩ := Int.eq_ofNat_of_zero_le h0
  have hlt : K < sup.length := by omega
  have hs0 := List.getElem?_eq_getElem hlt
  have HS := Lib.hid h
  obtain ⟨ad, rfl, hab, hc⟩ := h K _ hs0
  have E1 := Lib.hid (supI_eq (sup := sup) (c := (K : Int)) (s := sup[K]) (by rw [Int.toNat_natCast]; exact hs0))
  have E2 := Lib.hid (sup_in (sup := sup) (c := (K : Int)) (s := sup[K]) h0 (by rw [Int.toNat_natCast]; exact hs0))
  clear hs0 h
  generalize sup[K] = s at *
  by_cases g : s = (K : Int)
  · have E := Lib.hid (show supI sup (K : Int) = -1 by rw [E1.out, if_neg (by omega)])
    clear E1 E2
    subst g
    go_enter Try.func75, Try.ntmps75
    go_wp2_with fail
    go_ret
    rw [E.out]
    exact ⟨rfl, Below.refl _ _⟩
  · have hne : ((s : Int) != (K : Int)) = true := by simpa using g
    obtain ⟨r, hr⟩ : ∃ r, inB (aboveI sup (K : Int)) s = r := ⟨_, rfl⟩
    have R := Lib.hid hr
    have E := Lib.hid (show supI sup (K : Int) = if r = true then s else -1 by
      rw [E1.out, ← hr]
      by_cases q : 0 ≤ s ∧ s < (K : Int)
      · rw [if_pos q, if_pos (E2.out.mpr q).2]
      · rw [if_neg q, if_neg (fun x => q (E2.out.mp ⟨g, x⟩))])
    clear E1 E2 hr g
    cases r
    all_goals
      go_enter Try.func75, Try.ntmps75
      go_wp2_with (go_at_call 88; (with_reducible refine (kbelow_any sup (K : Int) s (some ad) cap B w hl hB HS.out).mono ?_); rintro e w' ⟨he, hb⟩; rw [R.out] at he; subst he)
      go_ret
      rw [E.out]
      exact ⟨by simp, hb⟩

theorem cabove_is {sup : List Int} {c : Int} {n : Nat} (HN : Hid (sup.length = n)) (h0 : 0 ≤ c) (h1 : c < sup.length) (A : Option Addr) (cap B : Nat) (w : World) (hl : sup.length ≤ 1048576) (hB : B ≤ w.heap.size) (h : Supers w B A sup) :
    Calls Try.prog 75 #[.slice A n cap, .int .i64 c] w fun e w' => e = .returned (.int .i64 (supI sup c)) ∧ Below w.heap.size w w' := by
  obtain rfl := HN.out
  exact cabove_any sup c h0 h1 A cap B w hl hB h

end Go.Proofs.Ytefgepppcmhphaa
