/-
  A set of numbers as a map of the call's own: which numbers it holds; stored into, asked. Plain lemmas; no conditions.
  Images as plain data, and where they stand in memory: classes, methods, images by value. Plain definitions and lemmas; no conditions.
  What the document's own answer for a number among some (In) comes to.
-/
import Derived.Test.YtjjgpcmdoodjnaaM02
import Derived.Maps.OwnSet
import Derived.Maps.RangeWalk
import Derived.Sort.OwnSortedInts
import Derived.Test.YtjjgpcmdoodjnaaM01
import Derived.Test.YtjjgpcmdoodjnaaRows
import Derived.ProofKit
import Derived.OpenShut
import Derived.Outline
namespace Go.Proofs.Ytjjgpcmdoodjnaa
set_option maxRecDepth 100000
set_option linter.unusedVariables false
set_option linter.unusedSimpArgs false
open Go.ChangeShapes Go.WideShapes Go.ChangeAt Go.RowKit
open Go.Maps (Keyed)

theorem law_int : Keyed Try.prog 3 := Go.Maps.int_keyed Try.underlying3
theorem zero_unit (w : World) : (zeroValue 53).run Try.prog w = .ok (.agg #[]) w := by kernel_rfl
theorem pick_nodup (p : Nat → Bool) (n : Nat) : (pickTo p n).Nodup := by
  unfold pickTo
  refine List.pairwise_map.mpr ((List.nodup_range.filter _).imp ?_)
  intro a b h e
  exact h (by omega)
theorem pick_sorted (p : Nat → Bool) (n : Nat) : (pickTo p n).Pairwise (fun a b => decide (a ≤ b) = true) := by
  unfold pickTo
  refine List.pairwise_map.mpr ((List.pairwise_lt_range.filter _).imp ?_)
  intro a b h
  simp
  omega
/-- Numbers without doublets, just these, come sorted to these in their order. -/
theorem sort_pick {p : Nat → Bool} {n : Nat} {ss : List Int} (hd : ss.Nodup) (hm : ∀ x, x ∈ ss ↔ x ∈ pickTo p n) : ss.mergeSort (fun x y => decide (x ≤ y)) = pickTo p n := by
  have tr : ∀ a b c : Int, decide (a ≤ b) = true → decide (b ≤ c) = true → decide (a ≤ c) = true := fun a b c h1 h2 => by simp at *; omega
  have to : ∀ a b : Int, (decide (a ≤ b) || decide (b ≤ a)) = true := fun a b => by simp; omega
  have hp : ss.Perm (pickTo p n) := (List.perm_ext_iff_of_nodup hd (pick_nodup p n)).2 hm
  refine List.Perm.eq_of_pairwise (le := fun a b => decide (a ≤ b) = true) (fun a b _ _ h1 h2 => ?_) (List.pairwise_mergeSort tr to ss) (pick_sorted p n) ((List.mergeSort_perm ss _).trans hp)
  simp at h1 h2
  omega
theorem count_pick {p : Nat → Bool} {n : Nat} {ss : List Int} (hd : ss.Nodup) (hm : ∀ x ∈ ss, x ∈ pickTo p n) : ss.length ≤ n := by
  have h1 : ss.Perm ((pickTo p n).filter (fun x => decide (x ∈ ss))) := by
    refine (List.perm_ext_iff_of_nodup hd ((pick_nodup p n).filter _)).2 fun x => ?_
    rw [List.mem_filter]
    exact ⟨fun h => ⟨hm x h, by simp [h]⟩, fun h => by simpa using h.2⟩
  rw [h1.length_eq]
  exact Nat.le_trans (List.length_filter_le _ _) (pickTo_len p n)

/-- Block b is a map that holds just these numbers below n. -/
def MetIs (w : World) (b : Nat) (p : Nat → Bool) (n : Nat) : Prop :=
  ∃ D : DataW Unit, w.ownsMap Try.prog 3 (unitElem (H := Unit)) b (Go.Maps.size D) D ∧ ∀ x : Int, Go.Maps.has D (.int .i64 x) = decide (x ∈ pickTo p n)
/-- A map's bound is no more than what it holds. -/
theorem owns_tight {w : World} {b n : Nat} {D : DataW Unit} (h : w.ownsMap Try.prog 3 (unitElem (H := Unit)) b n D) : w.ownsMap Try.prog 3 (unitElem (H := Unit)) b (Go.Maps.size D) D := by
  obtain ⟨es, clock, hb, F, _, rfl⟩ := h
  exact ⟨es, clock, hb, F, by simp [Go.Maps.size, length_sorted], rfl⟩
/-- What it holds, as a list of numbers. -/
theorem owns_keys {w : World} {b n : Nat} {D : DataW Unit} (h : w.ownsMap Try.prog 3 (unitElem (H := Unit)) b n D) : ∃ ks : List Int, ks.Nodup ∧ ks.length = Go.Maps.size D ∧ ∀ x : Int, x ∈ ks ↔ Go.Maps.has D (.int .i64 x) = true := by
  obtain ⟨es, hD, hpw, _⟩ := h.entries law_int
  obtain ⟨es', clock, _, F, _, hD'⟩ := h
  have hk : ∀ p ∈ es, ∃ x : Int, p.1 = .int .i64 x := by
    intro p hp
    rw [hD] at hD'
    have e : es = (es'.toList.map (WideElems.rg Try.prog 3 (unitElem (H := Unit)))).foldr DataW.insert [] := by simpa using hD'
    rw [e] at hp
    obtain ⟨x, hx, rfl⟩ := List.mem_map.1 (mem_sorted.1 hp)
    obtain ⟨y, hy⟩ := F.reads x hx
    obtain ⟨z, _, hz, _⟩ := Maps.keyOf_int_inv Try.underlying3 (WideElems.rd_key hy)
    exact ⟨z, by rw [WideElems.rg_of hy]; exact hz⟩
  subst hD
  refine ⟨es.map (fun p => match p.1 with | .int _ x => x | _ => 0), ?_, by simp [Go.Maps.size], fun x => ?_⟩
  · refine List.pairwise_map.2 (hpw.imp_of_mem fun {p q} hp hq hne e => hne ?_)
    obtain ⟨a, ha⟩ := hk p hp
    obtain ⟨c, hc⟩ := hk q hq
    rw [ha, hc] at e ⊢
    exact congrArg _ e
  · rw [List.mem_map]
    constructor
    · rintro ⟨p, hp, rfl⟩
      obtain ⟨a, ha⟩ := hk p hp
      exact List.any_eq_true.2 ⟨p, hp, by rw [ha]; simp [Lit.sameKey]⟩
    · intro hx
      obtain ⟨p, hp, hs⟩ := List.any_eq_true.1 hx
      obtain ⟨a, ha⟩ := hk p hp
      rw [ha] at hs
      exact ⟨p, hp, by rw [ha]; simpa [Lit.sameKey] using hs⟩
theorem met_size {w : World} {b n : Nat} {p : Nat → Bool} {D : DataW Unit} (h : w.ownsMap Try.prog 3 (unitElem (H := Unit)) b (Go.Maps.size D) D) (hh : ∀ x : Int, Go.Maps.has D (.int .i64 x) = decide (x ∈ pickTo p n)) : Go.Maps.size D ≤ n := by
  obtain ⟨ks, hd, hl, hm⟩ := owns_keys h
  rw [← hl]
  refine count_pick (p := p) hd (fun x hx => ?_)
  have := (hm x).1 hx
  rw [hh x] at this
  simpa using this
theorem MetIs.made (w : World) (n : Nat) : MetIs (w.alloc (.map #[] 0)) w.heap.size (fun _ => false) n := by
  refine ⟨.map [], World.ownsMap_made w Try.prog _ _, fun x => ?_⟩
  have : x ∉ pickTo (fun _ => false) n := fun h => by
    obtain ⟨g, _, _, hg⟩ := mem_pick.1 h
    cases hg
  simp [this, Go.Maps.has]
theorem MetIs.kept {w w' : World} {b n : Nat} {p : Nat → Bool} {row : Option Nat} (h : MetIs w b p n) (hg : w.grownBy w' row) (hne : some b ≠ row) : MetIs w' b p n := by
  obtain ⟨D, ho, hh⟩ := h
  exact ⟨D, ho.kept hg hne, hh⟩
theorem MetIs.lt {w : World} {b n : Nat} {p : Nat → Bool} (h : MetIs w b p n) : b < w.heap.size := by
  obtain ⟨D, ho, hh⟩ := h
  exact ho.lt
theorem MetIs.below {w w' : World} {b n B : Nat} {p : Nat → Bool} (h : MetIs w b p n) (hb : Below B w w') (hB : b < B) : MetIs w' b p n := by
  obtain ⟨D, ⟨es, clock, he, r⟩, hh⟩ := h
  exact ⟨D, ⟨es, clock, (hb.block b hB).trans he, r⟩, hh⟩
theorem MetIs.cong {w : World} {b n : Nat} {p q : Nat → Bool} (h : MetIs w b p n) (e : ∀ g, g < n → p g = q g) : MetIs w b q n := by
  obtain ⟨D, ho, hh⟩ := h
  exact ⟨D, ho, fun x => by rw [hh x, pick_same e]⟩
theorem key_int {x : Int} (h : (Lit.int .i64 x).wf = true) : keyOf Try.prog 3 (.int .i64 x) = some (.int .i64 x) := Go.Maps.keyOf_int_mk Try.underlying3 h
theorem nat_wf {g n : Nat} (hg : g < n) (hn : n ≤ 9223372036854775807) : (Lit.int .i64 (g : Int)).wf = true := WalkArith.wf_i64 (by omega)
/-- Stored into. -/
theorem MetIs.put {b n g : Nat} {p : Nat → Bool} {D : DataW Unit} {w' : World} (hg : g < n) (hh : ∀ x : Int, Go.Maps.has D (.int .i64 x) = decide (x ∈ pickTo p n)) (h : w'.ownsMap Try.prog 3 (unitElem (H := Unit)) b (Go.Maps.size D + 1) (D.put (.int .i64 (g : Int)) (.agg []))) (hm : Go.Maps.IsMap D) :
    MetIs w' b (fun k => p k || decide (k = g)) n := by
  refine ⟨_, owns_tight h, fun x => ?_⟩
  by_cases hx : x = (g : Int)
  · subst hx
    rw [Go.Maps.has_put_same hm (k := .int .i64 (g : Int)) (by simp [WideAt.IsKeyLit])]
    exact (decide_eq_true (mem_pick.2 ⟨g, rfl, hg, by simp⟩)).symm
  · rw [Go.Maps.has_put_other (by simpa using hx), hh x, Bool.eq_iff_iff, decide_eq_true_eq, decide_eq_true_eq, mem_pick, mem_pick]
    constructor
    · rintro ⟨k, rfl, hk, hp⟩
      exact ⟨k, rfl, hk, by simp [hp]⟩
    · rintro ⟨k, rfl, hk, hp⟩
      refine ⟨k, rfl, hk, ?_⟩
      simp only [Bool.or_eq_true, decide_eq_true_eq] at hp
      rcases hp with hp | hp
      · exact hp
      · exact absurd (by rw [hp]) hx
section
variable {ops : Array Oper} {rest : List Oper} {o : Oper} {a : Act} {Q : Exit → Act → World → Prop}
theorem wp_met_store (w : World) (hg : o.guard = none) (m x v : Operand) (t : TypeId) (hop : o.op = Op.mapUpdate t m x v ∨ o.op = Op.insert t m x v) (ht : Try.prog.underlying t = some (.map 3 53)) (b n g : Nat) (p : Nat → Bool)
    (hm : a.eval m = .map (some b)) (H : MetIs w b p n) (hgn : g < n) (hn : n ≤ 1048576) (hx : a.eval x = .int .i64 (g : Int)) (hv : a.eval v = .agg #[])
    (hK : ∀ w', MetIs w' b (fun k => p k || decide (k = g)) n → w.grownBy w' (some b) → wpList Try.prog ops Q rest (a.put o.dst undef) w') :
    wpList Try.prog ops Q (o :: rest) a w := by
  refine wpList_plain hg fun K' hK' => ?_
  obtain ⟨D, ho, hh⟩ := H
  have hs := met_size ho hh
  obtain ⟨w', hrun, r1, r2⟩ := ho.update law_int ht (by unfold maxLen; omega) (key_int (nat_wf hgn (by omega))) (val := .agg #[]) unitElem_mk
  unfold Oper.wp
  rcases hop with hop | hop <;>
  · simp [execOp, hop, hm, hx, hv, hrun, Result.andThen]
    exact hK' _ _ (hK w' (MetIs.put hgn hh r1 ho.isMap) r2)
theorem wp_met_look (w : World) (hg : o.guard = none) (m x : Operand) (t : TypeId) (hop : o.op = Op.lookup t m x true) (ht : Try.prog.underlying t = some (.map 3 53)) (b n g : Nat) (p : Nat → Bool) (r : Bool)
    (hm : a.eval m = .map (some b)) (H : MetIs w b p n) (hgn : g < n) (hn : n ≤ 1048576) (hx : a.eval x = .int .i64 (g : Int)) (hr : p g = r)
    (hK : wpList Try.prog ops Q rest (a.put o.dst (.tuple #[.agg #[], .bool r])) w) :
    wpList Try.prog ops Q (o :: rest) a w := by
  obtain ⟨D, ho, hh⟩ := H
  have hk := key_int (nat_wf hgn (by omega))
  refine wpList_lookup_own_unit w hg m x t hop _ _ law_int ht (zero_unit w) b _ D hm ho _ _ hx hk ?_
  have e : Go.Maps.has D (.int .i64 (g : Int)) = r := by
    rw [hh, ← hr, Bool.eq_iff_iff, decide_eq_true_eq, mem_pick]
    constructor
    · rintro ⟨k, hk, _, hp⟩
      have : g = k := by omega
      rw [this]
      exact hp
    · exact fun h => ⟨g, rfl, hgn, h⟩
  rw [e]
  exact hK
end
end Go.Proofs.Ytjjgpcmdoodjnaa
namespace Go.Proofs.Ytjjgpcmdoodjnaa
set_option maxRecDepth 100000
set_option linter.unusedVariables false
set_option linter.unusedSimpArgs false
open Go.RowKit

structure Cls where
  sup : Int
  fields : List (Int × Int)
  slots : List Int
deriving DecidableEq
structure Mth where
  args : List (Int × Int)
  locals : List (Int × Int)
  ret : Int × Int
  code : List (Int × Int × Int)
  depth : Int
  pot : Int
  phi : List Int
deriving DecidableEq
structure Img where
  classes : List Cls
  statics : List (Int × Int)
  ints : List Int
  methods : List Mth
  entries : List Int
  stack : Int
  heap : Int
deriving DecidableEq

/-- A class, where it stands. -/
structure ClsAt (w : World) (B : Nat) (p : Addr) (c : Cls) : Prop where
  sup : w.cell? p = some (.int .i64 c.sup)
  fields : SlcAt TyAt 2 w B (off_ p 1) c.fields
  slots : SlcAt IntAt 1 w B (off_ p 2) c.slots
  rng : -9223372036854775808 ≤ c.sup ∧ c.sup ≤ 9223372036854775807
theorem ClsAt.keeps : Keeps ClsAt := fun _ _ _ _ _ _ h hp hC hc => ⟨(hc _ hp).trans h.sup, SlcAt.keeps TyAt.keeps 2 h.fields hp hC hc, SlcAt.keeps IntAt.keeps 1 h.slots hp hC hc, h.rng⟩
/-- A method, where it stands. -/
structure MthAt (w : World) (B : Nat) (p : Addr) (x : Mth) : Prop where
  args : SlcAt TyAt 2 w B p x.args
  locals : SlcAt TyAt 2 w B (off_ p 1) x.locals
  ret0 : w.cell? (off_ p 2) = some (.int .i64 x.ret.1)
  ret1 : w.cell? (off_ p 3) = some (.int .i64 x.ret.2)
  code : SlcAt CodeAt 3 w B (off_ p 4) x.code
  depth : w.cell? (off_ p 5) = some (.int .i64 x.depth)
  pot : w.cell? (off_ p 6) = some (.int .i64 x.pot)
  phi : SlcAt IntAt 1 w B (off_ p 7) x.phi
theorem MthAt.keeps : Keeps MthAt := fun _ _ _ _ p _ h hp hC hc =>
  ⟨SlcAt.keeps TyAt.keeps 2 h.args hp hC hc, SlcAt.keeps TyAt.keeps 2 h.locals hp hC hc, (hc (off_ p 2) hp).trans h.ret0, (hc (off_ p 3) hp).trans h.ret1, SlcAt.keeps CodeAt.keeps 3 h.code hp hC hc,
    (hc (off_ p 5) hp).trans h.depth, (hc (off_ p 6) hp).trans h.pot, SlcAt.keeps IntAt.keeps 1 h.phi hp hC hc⟩

/-- An image's slices: where they begin, how much room they have. -/
structure Hnd where
  A0 : Option Addr
  A1 : Option Addr
  A2 : Option Addr
  A3 : Option Addr
  A4 : Option Addr
  c0 : Nat
  c1 : Nat
  c2 : Nat
  c3 : Nat
  c4 : Nat
/-- An image by value. -/
abbrev imgV (h : Hnd) (m : Img) : Value :=
  .agg #[.slice h.A0 m.classes.length h.c0, .slice h.A1 m.statics.length h.c1, .slice h.A2 m.ints.length h.c2, .slice h.A3 m.methods.length h.c3, .slice h.A4 m.entries.length h.c4, .int .i64 m.stack, .int .i64 m.heap]
/-- It stands for an image. -/
structure ImgIn (w : World) (B : Nat) (h : Hnd) (m : Img) : Prop where
  classes : SlcIs ClsAt 3 w B h.A0 h.c0 m.classes
  statics : SlcIs TyAt 2 w B h.A1 h.c1 m.statics
  ints : SlcIs LongAt 1 w B h.A2 h.c2 m.ints
  methods : SlcIs MthAt 8 w B h.A3 h.c3 m.methods
  entries : SlcIs IntAt 1 w B h.A4 h.c4 m.entries
theorem ImgIn.keep' {w w' : World} {B C : Nat} {h : Hnd} {m : Img} (H : ImgIn w B h m) (hC : B ≤ C) (hc : ∀ q : Addr, q.block < B → w'.cell? q = w.cell? q) : ImgIn w' C h m :=
  ⟨H.classes.keep' ClsAt.keeps hC hc, H.statics.keep' TyAt.keeps hC hc, H.ints.keep' LongAt.keeps hC hc, H.methods.keep' MthAt.keeps hC hc, H.entries.keep' IntAt.keeps hC hc⟩
theorem ImgIn.below_to {w w' : World} {B C : Nat} {h : Hnd} {m : Img} (H : ImgIn w B h m) (hb : Below C w w') (hC : B ≤ C) : ImgIn w' B h m := H.keep' (Nat.le_refl _) fun _ hq => hb.cell (Nat.lt_of_lt_of_le hq hC)
theorem ImgIn.more {w : World} {B C : Nat} {h : Hnd} {m : Img} (H : ImgIn w B h m) (hC : B ≤ C) : ImgIn w C h m := H.keep' hC fun _ _ => rfl
end Go.Proofs.Ytjjgpcmdoodjnaa
namespace Go.Proofs.Ytjjgpcmdoodjnaa
set_option maxRecDepth 100000
set_option linter.unusedVariables false
set_option linter.unusedSimpArgs false
set_option linter.unusedVariables false
open Go.ChangeShapes Go.WideShapes Go.ChangeAt Go.RowKit

/-- Is a number one of some? -/
def inB (l : List Int) (n : Int) : Bool := decide (n ∈ l)
theorem inB_nil (n : Int) : inB [] n = false := rfl

theorem rin_any (l : List Int) (n : Int) (A : Option Addr) (cap B : Nat) (w : World) (hl : l.length ≤ 9223372036854775807) (h : Lies w B A (l.map (Value.int .i64))) :
    Calls Try.prog 13 #[.slice A l.length cap, .int .i64 n] w fun e w' => e = .returned (.bool (inB l n)) ∧ w = w' := by
  have HL := Lib.hid h
  clear h
  go_enter Try.func13, Try.ntmps13
  go_wp2
  go_loop [5] (fun i => ∃ k : Nat, k ≤ l.length ∧ i = .int .i64 k ∧ inB l n = inB (l.drop k) n) (fun i => l.length - (intOf i).toNat)
  case atStart => exact ⟨0, by omega, rfl, rfl⟩
  case round =>
    obtain ⟨k, hk, rfl, hn⟩ := hrel
    have HN := Lib.hid hn
    clear hn
    by_cases hlt : k < l.length
    · obtain ⟨ad, rfl, _, hc⟩ := HL.out.at_ (k := k) (by simpa using hlt)
      have E1 := Lib.hid (List.drop_eq_getElem_cons hlt)
      simp only [List.getElem_map] at hc
      generalize l[k] = b at *
      by_cases hb : b = n
      · subst hb
        have R := Lib.hid (show inB l b = true by rw [HN.out, E1.out]; simp [inB])
        clear HN E1
        go_wp2_with fail
        go_ret
        refine ⟨?_, rfl⟩
        rw [R.out]
        rfl
      · have R := Lib.hid (show inB l n = inB (l.drop (k + 1)) n by
          rw [HN.out, E1.out]; unfold inB; simp only [List.mem_cons]; rw [decide_eq_decide]; constructor
          · rintro (h | h)
            · exact absurd h.symm hb
            · exact h
          · exact .inr)
        clear HN E1
        go_wp2_with fail
        go_round
        case rel => exact ⟨k + 1, by omega, by go_num, R.out⟩
        case measure => simp [intOf]; omega
    · have R := Lib.hid (show inB l n = false by rw [HN.out, List.drop_eq_nil_of_le (by omega)]; rfl)
      clear HN
      go_wp2_with fail
      go_ret
      refine ⟨?_, rfl⟩
      rw [R.out]
      rfl
/-- The call leaves the first world's blocks alone, as what went before it did. -/
theorem calls_ctx {P : Program} {f : FuncId} {args : Array Value} {w0 w : World} {r : Ending} (hb : Below w0.heap.size w0 w) (h : Calls P f args w fun e w' => e = r ∧ Below w.heap.size w w') :
    Calls P f args w fun e w' => e = r ∧ Below w0.heap.size w0 w' := h.mono fun _ _ ⟨he, hw⟩ => ⟨he, hb.trans (hw.mono hb.size)⟩
end Go.Proofs.Ytjjgpcmdoodjnaa
