/-
  What the program's own typesNamed comes to: a list of lists that grows in the call's own memory.
-/
import Derived.Test.YtjgfoialajgfhaaSaneLeaf
namespace Go.Proofs.Ytjgfoialajgfhaa
set_option maxRecDepth 100000
set_option linter.unusedVariables false
set_option linter.unusedSimpArgs false
open Go.ChangeShapes Go.WideShapes Go.ChangeAt Go.RowKit
set_option linter.unusedVariables false
set_option linter.unusedSimpArgs false

theorem info_types : (Try.prog.info? 23).map (fun i => (i.zero, i.size, i.bytes)) = some (some (.slice none 0 0), 1, 24) := by kernel_rfl
theorem lies_new (w : World) (vs : List Value) (T : TypeId) : Lies (w.alloc (.cells vs.toArray T)) (w.heap.size + 1) (some ⟨w.heap.size, 0, none⟩) vs := fun j u hu =>
  ⟨_, rfl, by show w.heap.size < _; omega, by
    rw [show Addr.add ⟨w.heap.size, 0, none⟩ j = ⟨w.heap.size, j, none⟩ by unfold Addr.add; split <;> simp [*]]
    exact cells_new w vs T j u hu⟩
theorem own_one (w : World) (v : Value) (T : TypeId) : (w.alloc (.cells #[v] T)).ownsRow w.heap.size T 1 (.slice (some ⟨w.heap.size, 0, none⟩) 1 1) 1 [v] :=
  ⟨rfl, .inr ⟨w.heap.size, 1, #[v], rfl, Nat.le_refl _, heap_alloc_new _ _, Nat.le_refl _, by unfold maxLen; omega, rfl, rfl⟩⟩
/-- These values are these lists. -/
def ListsAre (w : World) (B : Nat) (ls : List (List (Int × Int))) (vs : List Value) : Prop :=
  vs.length = ls.length ∧ ∀ (i : Nat) l, ls[i]? = some l → ∃ A c, vs[i]? = some (.slice A l.length c) ∧ SlcIs TyAt 2 w B A c l
theorem ListsAre.nil {w : World} {B : Nat} : ListsAre w B [] [] := ⟨rfl, fun i l h => by simp at h⟩
theorem ListsAre.snoc {w : World} {B : Nat} {ls : List (List (Int × Int))} {vs : List Value} {l : List (Int × Int)} {A : Option Addr} {c : Nat} (h : ListsAre w B ls vs) (hl : SlcIs TyAt 2 w B A c l) : ListsAre w B (ls ++ [l]) (vs ++ [.slice A l.length c]) :=
  ⟨by simp [h.1], fun i l' hi => by
    rcases Nat.lt_or_ge i ls.length with g | g
    · rw [List.getElem?_append_left g] at hi
      obtain ⟨A', c', h1, h2⟩ := h.2 i l' hi
      exact ⟨A', c', by rw [List.getElem?_append_left (by rw [h.1]; exact g)]; exact h1, h2⟩
    · rw [List.getElem?_append_right g] at hi
      have e : i - ls.length = 0 := by
        rcases Nat.eq_zero_or_pos (i - ls.length) with e | e
        · exact e
        · rw [List.getElem?_eq_none (by simp; omega)] at hi; cases hi
      rw [e] at hi
      simp at hi
      subst hi
      exact ⟨A, c, by rw [List.getElem?_append_right (by rw [h.1]; exact g), h.1, e]; rfl, hl⟩⟩
theorem lists_slc {w0 w : World} {B e : Nat} {v : Value} {ls : List (List (Int × Int))} {vs : List Value} (hL : ListsAre w0 w0.heap.size ls vs) (hb : Below w0.heap.size w0 w) (ho : w.ownsRow B e 1 v vs.length vs) :
    ∃ A c, v = .slice A ls.length c ∧ SlcIs (SlcAt TyAt 2) 1 w w.heap.size A c ls := by
  obtain ⟨A, c, rfl, hl⟩ := own_slice ho
  have hlc : vs.length ≤ c ∧ c ≤ 9223372036854775807 := by
    rcases ownK_slice ho with ⟨h1, h2⟩ | ⟨g, c', h1, h2, h3⟩
    · injection h1 with _ _ h1
      omega
    · injection h1 with _ _ h1
      omega
  refine ⟨A, c, by rw [hL.1], by rw [← hL.1]; exact hlc.1, hlc.2, fun i l hi => ?_⟩
  obtain ⟨A', c', h1, h2⟩ := hL.2 i l hi
  obtain ⟨ad, h3, h4, h5⟩ := hl i _ h1
  exact ⟨ad, h3, h4, A', c', by rw [Nat.mul_one]; exact h5, (h2.below_to TyAt.keeps hb (Nat.le_refl _)).keep' TyAt.keeps hb.size (fun _ _ => rfl)⟩

def retsB (m : Img) : Bool := m.methods.all fun x => retB x.ret m.classes.length
/-- All lists of types. -/
def typeLists (m : Img) (k : Nat) : List (List (Int × Int)) := m.statics :: (m.classes.map (·.fields) ++ (m.methods.take k).flatMap fun x => [x.args, x.locals])
def clsLists (m : Img) (k : Nat) : List (List (Int × Int)) := m.statics :: (m.classes.take k).map (·.fields)
def tnamedB (m : Img) : Bool := retsB m && listsB (typeLists m m.methods.length) m.classes.length
theorem cls_zero (m : Img) : clsLists m 0 = [m.statics] := by simp [clsLists]
theorem cls_succ {m : Img} {k : Nat} (h : k < m.classes.length) : clsLists m (k + 1) = clsLists m k ++ [m.classes[k].fields] := by
  unfold clsLists
  rw [List.take_add_one, List.getElem?_eq_getElem h, List.map_append, List.cons_append]
  rfl
theorem cls_all {m : Img} {k : Nat} (h : m.classes.length ≤ k) : clsLists m k = typeLists m 0 := by
  unfold clsLists typeLists
  rw [List.take_of_length_le h]
  simp
theorem types_succ {m : Img} {k : Nat} (h : k < m.methods.length) : typeLists m (k + 1) = (typeLists m k ++ [m.methods[k].args]) ++ [m.methods[k].locals] := by
  unfold typeLists
  rw [List.take_add_one, List.getElem?_eq_getElem h, List.flatMap_append]
  simp
theorem types_end {m : Img} {k : Nat} (h : m.methods.length ≤ k) : typeLists m k = typeLists m m.methods.length := by
  unfold typeLists
  rw [List.take_of_length_le h, List.take_of_length_le (Nat.le_refl _)]
theorem cls_len (m : Img) (k : Nat) : (clsLists m k).length ≤ 1 + k := by
  unfold clsLists
  rw [List.length_cons, List.length_map]
  have := List.length_take_le k m.classes
  omega
theorem types_len (m : Img) (k : Nat) : (typeLists m k).length ≤ 1 + m.classes.length + 2 * k := by
  unfold typeLists
  rw [List.length_cons, List.length_append, List.length_map, List.length_flatMap]
  have := List.length_take_le k m.methods
  have : (List.map (fun x : Mth => [x.args, x.locals].length) (List.take k m.methods)).sum = 2 * (List.take k m.methods).length := by
    induction List.take k m.methods with
    | nil => rfl
    | cons a l ih => simp at ih ⊢; omega
  omega
/-- What the first loop, the second loop keeps. -/
def TypRel (m : Img) (w1 : World) (ls : List (List (Int × Int))) (v : Value) (wr : World) : Prop :=
  ∃ vs, ListsAre w1 w1.heap.size ls vs ∧ wr.ownsRow w1.heap.size 23 1 v vs.length vs

theorem sresult_is {t : Int × Int} {c : Int} {w : World} {r : Bool} (HR : Hid (retB t c = r)) : Calls Try.prog 45 #[tyV t.1 t.2, .int .i64 c] w fun e w' => e = .returned (.bool r) ∧ Below w.heap.size w w' := by
  have H := sresult_any t.1 t.2 c w
  rw [show ((t.1, t.2) : Int × Int) = t from rfl, HR.out] at H
  exact H

set_option maxHeartbeats 3200000 in
theorem stypes_any (m : Img) (h : Hnd) (w : World) (H : ImgIn w w.heap.size h m) (hn : m.classes.length ≤ 1000) (hm : m.methods.length ≤ 1000) :
    Calls Try.prog 30 #[imgV h m] w fun e w' => e = .returned (.bool (tnamedB m)) ∧ Below w.heap.size w w' := by
  obtain ⟨i0, hi, hz0, hz1, hz2⟩ := info_partsK info_types
  have HW := Lib.hid (below_box (w := w) (h := h) (m := m))
  have HBX := Lib.hid (img_box w h m)
  have HZ : Hid (w.heap.size < (w.alloc (imgO h m)).heap.size) := Lib.hid (by simp)
  have HI := Lib.hid (H.now HW.out)
  have l0 := H.classes.le
  have l0c := H.classes.cap
  have l3 := H.methods.le
  have l3c := H.methods.cap
  clear H
  go_enter Try.func30, Try.ntmps30
  go_upto_region 1 with fail
  generalize w.alloc (imgO h m) = w1 at *
  obtain ⟨q0, q1, q2, q3, q4, q5, q6⟩ := HBX.out
  go_upto_region 3 with fail
  have HX := Lib.hid ((Below.refl w1.heap.size w1).alloc (Nat.le_refl _) (.cells ([.slice h.A1 m.statics.length h.c1] : List Value).toArray 23))
  have HR0 : Hid (TypRel m w1 (clsLists m 0) (.slice (some ⟨w1.heap.size, 0, none⟩) 1 1) (w1.alloc (.cells ([.slice h.A1 m.statics.length h.c1] : List Value).toArray 23))) := Lib.hid ⟨[.slice h.A1 m.statics.length h.c1], by rw [cls_zero]; exact ListsAre.nil.snoc HI.out.statics, own_one _ _ _⟩
  clear q0 q1 q2 q3 q4 q5 q6
  obtain ⟨q0, q1, q2, q3, q4, q5, q6⟩ := HBX.out.keep HX.out HZ.out
  go_wp2_with fail
  go_loopw [4, 18] (fun v i wr => ∃ k : Nat, k ≤ m.classes.length ∧ i = .int .i64 k ∧ Hid (TypRel m w1 (clsLists m k) v wr) ∧ Hid (Below w1.heap.size w1 wr)) (fun _ i _ => m.classes.length - (intOf i).toNat)
  case atStart => exact ⟨0, by omega, rfl, HR0, HX⟩
  case round =>
    clear HX q0 q1 q2 q3 q4 q5 q6 HR0
    obtain ⟨k, hk, rfl, HR, HX⟩ := hrel
    obtain ⟨q0, q1, q2, q3, q4, q5, q6⟩ := HBX.out.keep HX.out HZ.out
    by_cases hlt : k < m.classes.length
    · obtain ⟨ad, e0, hab, hc⟩ := HI.out.classes.row.at_ hlt
      have HSU := Lib.hid (cls_succ hlt)
      have hll := cls_len m k
      generalize m.classes[k] = c at *
      obtain ⟨s0, ⟨A1, k1, s1, hs1⟩, ⟨A2, k2, s2, hs2⟩, sr⟩ := hc
      have hP : (ad.add (k * 3)).block < w1.heap.size := by rw [addr_add_block]; exact hab
      have s0 := (HX.out.cell hP).trans s0
      have s1 := (HX.out.cell (p := off_ (ad.add (k * 3)) 1) hP).trans s1
      have s2 := (HX.out.cell (p := off_ (ad.add (k * 3)) 2) hP).trans s2
      have HFL := Lib.hid hs1
      rw [e0]
      obtain ⟨vs, hla, ho⟩ := HR.out
      have hvl : vs.length ≤ 1 + k := by rw [hla.1]; exact hll
      have HLA := Lib.hid hla
      have HO := Lib.hid ho
      clear hla ho HR e0 hs1 hs2 hP hab hll
      go_upto_region 6 with fail
      have HB3 := Lib.hid (cells_new wr [.int .i64 c.sup, .slice A1 c.fields.length k1, .slice A2 c.slots.length k2] 44)
      have HX := Lib.hid (HX.out.alloc HX.out.size (.cells ([.int .i64 c.sup, .slice A1 c.fields.length k1, .slice A2 c.slots.length k2] : List Value).toArray 44))
      have HO3 : Hid ((wr.alloc (.cells ([.int .i64 c.sup, .slice A1 c.fields.length k1, .slice A2 c.slots.length k2] : List Value).toArray 44)).ownsRow w1.heap.size 23 1 u4 vs.length vs) := Lib.hid (HO.out.alloc _)
      have HB3 : Hid (Cells (wr.alloc (.cells ([.int .i64 c.sup, .slice A1 c.fields.length k1, .slice A2 c.slots.length k2] : List Value).toArray 44)) wr.heap.size [.int .i64 c.sup, .slice A1 c.fields.length k1, .slice A2 c.slots.length k2]) := HB3
      have HZ3 : Hid (wr.heap.size < (wr.alloc (.cells ([.int .i64 c.sup, .slice A1 c.fields.length k1, .slice A2 c.slots.length k2] : List Value).toArray 44)).heap.size) := Lib.hid (by simp)
      clear q0 q1 q2 q3 q4 q5 q6 s0 s1 s2
      generalize wr.alloc (.cells ([.int .i64 c.sup, .slice A1 c.fields.length k1, .slice A2 c.slots.length k2] : List Value).toArray 44) = w3 at *
      generalize wr.heap.size = gb at *
      have b0 := HB3.out 0 _ rfl
      have b1 := HB3.out 1 _ rfl
      have b2 := HB3.out 2 _ rfl
      have hsz3 := HX.out.size
      go_wp2_with (at_builtin; refine append_liesK rfl _ _ 72 rfl w1.heap.size 23 i0 (.slice none 0 0) 1 24 Try.underlying72 hi hz0 hz1 hz2 rfl (by decide) _ vs.length vs rfl (HO3.out.alloc _) (some ⟨w3.heap.size, 0, none⟩) 1 1 (w3.heap.size + 1) [.slice A1 c.fields.length k1] rfl rfl (lies_new w3 [.slice A1 c.fields.length k1] 23) ?c1 (by unfold maxLen; omega) (by omega) ?c2 ?_)
      case c1 => intro u hu; simp at hu; first | (subst hu; rfl) | (rcases hu with rfl | rfl <;> rfl)
      case c2 => simp; omega
      intro v6 w6 hown hgrow
      have HX6 := Lib.hid (appK_more ((HX.out.alloc HX.out.size (.cells ([.slice A1 c.fields.length k1] : List Value).toArray 23))) (HO3.out.alloc _) (by simp; omega) hgrow)
      have HO6 := Lib.hid hown
      clear hown hgrow
      go_wp2_with fail
      go_roundw
      case rel => exact ⟨k + 1, by omega, by go_num, Lib.hid ⟨vs ++ [.slice A1 c.fields.length k1], by rw [HSU.out]; exact HLA.out.snoc HFL.out, by rw [List.length_append]; exact HO6.out⟩, HX6⟩
      case measure => simp [intOf]; omega
    · have HR2 : Hid (TypRel m w1 (typeLists m 0) u4 wr) := Lib.hid (by rw [← cls_all (m := m) (k := k) (by omega)]; exact HR.out)
      clear HR
      go_wp2_with fail
      go_loopw [4, 31] (fun v i wr => ∃ k : Nat, k ≤ m.methods.length ∧ i = .int .i64 k ∧ Hid (∀ x ∈ m.methods.take k, retB x.ret m.classes.length = true) ∧ Hid (TypRel m w1 (typeLists m k) v wr) ∧ Hid (Below w1.heap.size w1 wr)) (fun _ i _ => m.methods.length - (intOf i).toNat)
      case atStart => exact ⟨0, by omega, rfl, Lib.hid (by simp), HR2, HX⟩
      case round =>
        clear HX q0 q1 q2 q3 q4 q5 q6 HR2 hlt hk
        obtain ⟨k, hk, rfl, HN, HR, HX⟩ := hrel
        obtain ⟨q0, q1, q2, q3, q4, q5, q6⟩ := HBX.out.keep HX.out HZ.out
        by_cases hlt : k < m.methods.length
        · obtain ⟨ad, e0, hab, hc⟩ := HI.out.methods.row.at_ hlt
          have HSU := Lib.hid (types_succ hlt)
          have hll := types_len m k
          have HNO := Lib.hid (fun g : (fun x : Mth => retB x.ret m.classes.length) m.methods[k] = false => (all_not hlt g : retsB m = false))
          have HYE := Lib.hid (fun g : (fun x : Mth => retB x.ret m.classes.length) m.methods[k] = true => all_take hlt HN.out g)
          generalize m.methods[k] = x at *
          obtain ⟨⟨A0, k0, s0, hs0⟩, ⟨A1, k1, s1, hs1⟩, s2, s3, ⟨A4, k4, s4, hs4⟩, s5, s6, ⟨A7, k7, s7, hs7⟩⟩ := hc
          have hP : (ad.add (k * 8)).block < w1.heap.size := by rw [addr_add_block]; exact hab
          have s0 := (HX.out.cell hP).trans s0
          have s1 := (HX.out.cell (p := off_ (ad.add (k * 8)) 1) hP).trans s1
          have s2 := (HX.out.cell (p := off_ (ad.add (k * 8)) 2) hP).trans s2
          have s3 := (HX.out.cell (p := off_ (ad.add (k * 8)) 3) hP).trans s3
          have s4 := (HX.out.cell (p := off_ (ad.add (k * 8)) 4) hP).trans s4
          have s5 := (HX.out.cell (p := off_ (ad.add (k * 8)) 5) hP).trans s5
          have s6 := (HX.out.cell (p := off_ (ad.add (k * 8)) 6) hP).trans s6
          have s7 := (HX.out.cell (p := off_ (ad.add (k * 8)) 7) hP).trans s7
          have HFA := Lib.hid hs0
          have HFL := Lib.hid hs1
          rw [e0]
          obtain ⟨vs, hla, ho⟩ := HR.out
          have hvl : vs.length ≤ 1 + m.classes.length + 2 * k := by rw [hla.1]; exact hll
          have HLA := Lib.hid hla
          have HO := Lib.hid ho
          obtain ⟨g, hg⟩ : ∃ g, retB x.ret m.classes.length = g := ⟨_, rfl⟩
          have G := Lib.hid hg
          clear hg hla ho HR e0 hs0 hs1 hs4 hs7 hP hab hll
          go_upto_region 11 with fail
          have HB3 := Lib.hid (cells_new wr [.slice A0 x.args.length k0, .slice A1 x.locals.length k1, .int .i64 x.ret.1, .int .i64 x.ret.2, .slice A4 x.code.length k4, .int .i64 x.depth, .int .i64 x.pot, .slice A7 x.phi.length k7] 38)
          have HX := Lib.hid (HX.out.alloc HX.out.size (.cells ([.slice A0 x.args.length k0, .slice A1 x.locals.length k1, .int .i64 x.ret.1, .int .i64 x.ret.2, .slice A4 x.code.length k4, .int .i64 x.depth, .int .i64 x.pot, .slice A7 x.phi.length k7] : List Value).toArray 38))
          have HO3 : Hid ((wr.alloc (.cells ([.slice A0 x.args.length k0, .slice A1 x.locals.length k1, .int .i64 x.ret.1, .int .i64 x.ret.2, .slice A4 x.code.length k4, .int .i64 x.depth, .int .i64 x.pot, .slice A7 x.phi.length k7] : List Value).toArray 38)).ownsRow w1.heap.size 23 1 u4 vs.length vs) := Lib.hid (HO.out.alloc _)
          have HB3 : Hid (Cells (wr.alloc (.cells ([.slice A0 x.args.length k0, .slice A1 x.locals.length k1, .int .i64 x.ret.1, .int .i64 x.ret.2, .slice A4 x.code.length k4, .int .i64 x.depth, .int .i64 x.pot, .slice A7 x.phi.length k7] : List Value).toArray 38)) wr.heap.size [.slice A0 x.args.length k0, .slice A1 x.locals.length k1, .int .i64 x.ret.1, .int .i64 x.ret.2, .slice A4 x.code.length k4, .int .i64 x.depth, .int .i64 x.pot, .slice A7 x.phi.length k7]) := HB3
          have HZ3 : Hid (wr.heap.size < (wr.alloc (.cells ([.slice A0 x.args.length k0, .slice A1 x.locals.length k1, .int .i64 x.ret.1, .int .i64 x.ret.2, .slice A4 x.code.length k4, .int .i64 x.depth, .int .i64 x.pot, .slice A7 x.phi.length k7] : List Value).toArray 38)).heap.size) := Lib.hid (by simp)
          clear q0 q1 q2 q3 q4 q5 q6 s0 s1 s2 s3 s4 s5 s6 s7
          generalize wr.alloc (.cells ([.slice A0 x.args.length k0, .slice A1 x.locals.length k1, .int .i64 x.ret.1, .int .i64 x.ret.2, .slice A4 x.code.length k4, .int .i64 x.depth, .int .i64 x.pot, .slice A7 x.phi.length k7] : List Value).toArray 38) = w3 at *
          generalize wr.heap.size = gb at *
          have b0 := HB3.out 0 _ rfl
          have b1 := HB3.out 1 _ rfl
          have b2 := HB3.out 2 _ rfl
          have b3 := HB3.out 3 _ rfl
          have b4 := HB3.out 4 _ rfl
          have b5 := HB3.out 5 _ rfl
          have b6 := HB3.out 6 _ rfl
          have b7 := HB3.out 7 _ rfl
          cases g
          · have E2 := Lib.hid (show tnamedB m = false by unfold tnamedB; rw [show retsB m = false from HNO.out G.out]; rfl)
            go_wp2_with (go_at_call 45; (with_reducible refine (sresult_is G).mono ?_); rintro e w5 ⟨rfl, hb⟩; have HX := Lib.hid (HX.out.trans (hb.mono HX.out.size)); have HB5 := Lib.hid (HB3.out.keep hb HZ3.out); have HO5 := Lib.hid (own_below HO3.out hb (own_block_lt HO3.out)); have b0 := HB5.out 0 _ rfl; have b1 := HB5.out 1 _ rfl; have b2 := HB5.out 2 _ rfl; have b3 := HB5.out 3 _ rfl; have b4 := HB5.out 4 _ rfl; have b5 := HB5.out 5 _ rfl; have b6 := HB5.out 6 _ rfl; have b7 := HB5.out 7 _ rfl; clear hb)
            go_ret
            exact ⟨by rw [E2.out]; rfl, HW.out.trans (HX.out.mono (Nat.le_of_lt HZ.out))⟩
          · have HY := Lib.hid (HYE.out G.out)
            go_upto_region 13 with (go_at_call 45; (with_reducible refine (sresult_is G).mono ?_); rintro e w5 ⟨rfl, hb⟩; have HX := Lib.hid (HX.out.trans (hb.mono HX.out.size)); have HB5 := Lib.hid (HB3.out.keep hb HZ3.out); have HO5 := Lib.hid (own_below HO3.out hb (own_block_lt HO3.out)); have b0 := HB5.out 0 _ rfl; have b1 := HB5.out 1 _ rfl; have b2 := HB5.out 2 _ rfl; have b3 := HB5.out 3 _ rfl; have b4 := HB5.out 4 _ rfl; have b5 := HB5.out 5 _ rfl; have b6 := HB5.out 6 _ rfl; have b7 := HB5.out 7 _ rfl; clear hb)
            clear HB3 HO3 HZ3
            have HO3 := HO5
            clear HO5 HB5
            generalize w5 = w3 at *
            have hsz3 := HX.out.size
            go_wp2_with (at_builtin; refine append_liesK rfl _ _ 72 rfl w1.heap.size 23 i0 (.slice none 0 0) 1 24 Try.underlying72 hi hz0 hz1 hz2 rfl (by decide) _ vs.length vs rfl (HO3.out.alloc _) (some ⟨w3.heap.size, 0, none⟩) 2 2 (w3.heap.size + 1) [.slice A0 x.args.length k0, .slice A1 x.locals.length k1] rfl rfl (lies_new w3 [.slice A0 x.args.length k0, .slice A1 x.locals.length k1] 23) ?c1 (by unfold maxLen; omega) (by omega) ?c2 ?_)
            case c1 => intro u hu; simp at hu; first | (subst hu; rfl) | (rcases hu with rfl | rfl <;> rfl)
            case c2 => simp; omega
            intro v6 w6 hown hgrow
            have HX6 := Lib.hid (appK_more ((HX.out.alloc HX.out.size (.cells ([.slice A0 x.args.length k0, .slice A1 x.locals.length k1] : List Value).toArray 23))) (HO3.out.alloc _) (by simp; omega) hgrow)
            have HO6 := Lib.hid hown
            clear hown hgrow
            go_wp2_with fail
            go_roundw
            case rel => exact ⟨k + 1, by omega, by go_num, HY, Lib.hid ⟨vs ++ [.slice A0 x.args.length k0, .slice A1 x.locals.length k1], by rw [HSU.out]; have h2 := (HLA.out.snoc HFA.out).snoc HFL.out; simpa only [List.append_assoc, List.cons_append, List.nil_append] using h2, by rw [List.length_append]; exact HO6.out⟩, HX6⟩
            case measure => simp [intOf]; omega
        · have HRA := Lib.hid (show retsB m = true from all_end (l := m.methods) HN.out (by omega))
          obtain ⟨vs, hla, ho⟩ := HR.out
          rw [types_end (m := m) (k := k) (by omega)] at hla
          obtain ⟨A9, k9, rfl, hs9⟩ := lists_slc hla HX.out ho
          have HS9 := Lib.hid hs9
          have E2 := Lib.hid (show tnamedB m = listsB (typeLists m m.methods.length) m.classes.length by unfold tnamedB; rw [HRA.out]; rfl)
          clear hla ho hs9 HR
          go_wp2_with (go_at_call 46; (with_reducible refine (sallgood_any _ _ _ _ _ _ (Nat.le_refl _) HS9.out).mono ?_); rintro e w5 ⟨rfl, hb⟩; have HX := Lib.hid (HX.out.trans (hb.mono HX.out.size)); clear hb)
          go_ret
          exact ⟨by rw [E2.out]; rfl, HW.out.trans (HX.out.mono (Nat.le_of_lt HZ.out))⟩
end Go.Proofs.Ytjgfoialajgfhaa
