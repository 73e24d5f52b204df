/-
  What the program's own image.Copy comes to.
-/
import Derived.Test.YtikljohgdgibnaaCopyHole
import Derived.Test.YtikljohgdgibnaaImgDecode
import Derived.Deep.RegionHeld3
namespace Go.Proofs.Ytikljohgdgibnaa
set_option maxRecDepth 100000
open Go.ChangeShapes Go.WideShapes Go.ChangeAt Go.RowKit
set_option linter.unusedVariables false

/-- An image's instructions lie in blocks of the call's own, beside the methods', and may be written. -/
def OwnCode (base : Nat) (w : World) (h : Hnd) (m : Img) : Prop :=
  ∀ i x, m.methods[i]? = some x → ∃ am, h.A3 = some am ∧ base ≤ am.block ∧ ∀ k, k < x.code.length → ∃ ad cap, w.cell? (off_ (am.add (i * 8)) 4) = some (.slice (some ad) x.code.length cap) ∧ base ≤ ad.block ∧ ad.block ≠ am.block ∧ w.frozen? (ad.add (k * 3)) = false
def CopyOut (m : Img) (w : World) (e : Ending) (w' : World) : Prop :=
  ∃ h, e = .returned (imgV h m) ∧ ImgIn w' w'.heap.size h m ∧ Below w.heap.size w w' ∧ OwnCode w.heap.size w' h m

theorem add_g {g n i : Nat} {ad : Addr} (h : ad = ⟨g, 0, none⟩) (hi : 0 < i) : off_ (ad.add n) i = ⟨g, n + i, none⟩ := by
  subst h
  unfold off_ Addr.add
  split
  · rename_i h0; subst h0; rfl
  · simp
theorem cell_ne {w : World} {a q : Addr} (h : q.block ≠ a.block) (v : Value) : (w.setCell a v).cell? q = w.cell? q := World.cell?_of_block (w := w) (Below.heap_setCell w a v q.block h)
theorem cells_other {w : World} {N : Nat} {vs : List Value} (h : Cells w N vs) {a : Addr} (ha : N ≠ a.block) (v : Value) : Cells (w.setCell a v) N vs := fun i u hu => (cell_ne (q := ⟨N, i, none⟩) ha v).trans (h i u hu)
theorem off_block {ad : Addr} {g n i : Nat} (h : ad = ⟨g, 0, none⟩) : (off_ (ad.add n) i).block = g := by subst h; exact addr_add_block _ _
theorem add_block {ad : Addr} {g n : Nat} (h : ad = ⟨g, 0, none⟩) : (ad.add n).block = g := by subst h; exact addr_add_block _ _
theorem add_g0 {g n : Nat} {ad : Addr} (h : ad = ⟨g, 0, none⟩) : ad.add n = ⟨g, n + 0, none⟩ := by
  subst h
  unfold Addr.add
  split
  · rename_i h0; subst h0; rfl
  · simp

section
variable {α : Type} {At : AtP α} {k : Nat} {wa w w1 : World} {A : Option Addr} {cap B : Nat} {l : List α}
theorem lt_set {n : Nat} {w : World} (h : n < w.heap.size) (a : Addr) (v : Value) : n < (w.setCell a v).heap.size := by simpa using h
theorem slc_grown' (hK : Mono At) (h : SlcIs At k (Hole (old wa) w) w.heap.size A cap l) (hb : Below w.heap.size w w1) : SlcIs At k (Hole (old wa) w1) w1.heap.size A cap l :=
  h.hole hK hb.size fun b hb' hs => ⟨hs, hb.block b hb'⟩
theorem slcB_below (hK : Mono At) (h : SlcIs At k (Hole (old wa) w) B A cap l) (hb : Below B w w1) : SlcIs At k (Hole (old wa) w1) B A cap l :=
  h.hole hK (Nat.le_refl _) fun b hb' hs => ⟨hs, hb.block b hb'⟩
theorem slcB_below' (hK : Mono At) (h : SlcIs At k (Hole (old wa) w) B A cap l) (hb : Below w.heap.size w w1) (hB : B ≤ w.heap.size) : SlcIs At k (Hole (old wa) w1) B A cap l := slcB_below hK h (hb.mono hB)
theorem slcB_set (hK : Mono At) (h : SlcIs At k (Hole (old wa) w) B A cap l) {a : Addr} (ha : a.block < wa.heap.size) (v : Value) : SlcIs At k (Hole (old wa) (w.setCell a v)) B A cap l :=
  h.hole hK (Nat.le_refl _) fun b hb hs => ⟨hs, Below.heap_setCell w a v b (by have := old_no.mp hs; omega)⟩
end
/-- The result's cells, written at the end. -/
abbrev set7 (w : World) (N : Nat) (a b c d e f g : Value) : World := ((((((w.setCell ⟨N, 0, none⟩ a).setCell ⟨N, 1, none⟩ b).setCell ⟨N, 2, none⟩ c).setCell ⟨N, 3, none⟩ d).setCell ⟨N, 4, none⟩ e).setCell ⟨N, 5, none⟩ f).setCell ⟨N, 6, none⟩ g
theorem set7_block (w : World) (N : Nat) (a b c d e f g : Value) {k : Nat} (h : k ≠ N) : (set7 w N a b c d e f g).heap[k]? = w.heap[k]? := by
  unfold set7
  rw [Below.heap_setCell _ _ _ _ h, Below.heap_setCell _ _ _ _ h, Below.heap_setCell _ _ _ _ h, Below.heap_setCell _ _ _ _ h, Below.heap_setCell _ _ _ _ h, Below.heap_setCell _ _ _ _ h, Below.heap_setCell _ _ _ _ h]
theorem slc_end7 {α : Type} {At : AtP α} (hK : Mono At) {k N B : Nat} {wa w : World} {A : Option Addr} {cap : Nat} {l : List α} {a b c d e f g : Value} (h : SlcIs At k (Hole (old wa) w) B A cap l) (hN : N < wa.heap.size) (hB : B ≤ w.heap.size) :
    SlcIs At k (set7 w N a b c d e f g) (set7 w N a b c d e f g).heap.size A cap l :=
  SlcIs.of_hole hK (h.hole hK (S' := old wa) (w' := set7 w N a b c d e f g) (by simpa [set7] using hB) fun x hx hs => ⟨hs, set7_block _ _ _ _ _ _ _ _ _ (by have := old_no.mp hs; omega)⟩)
theorem below_end7 {w w' : World} {a b c d e f g : Value} (h : Below w.heap.size w w') : Below w.heap.size w (set7 w' (w.heap.size + 1) a b c d e f g) :=
  ((((((h.setCell (Nat.le_succ _) _).setCell (Nat.le_succ _) _).setCell (Nat.le_succ _) _).setCell (Nat.le_succ _) _).setCell (Nat.le_succ _) _).setCell (Nat.le_succ _) _).setCell (Nat.le_succ _) _
theorem own_end7 {w0 w wa : World} {N lo hi : Nat} {m : Img} {A0 A1 A2 A A4 : Option Addr} {c0 c1 c2 c c4 : Nat} {a b c' d e f g : Value} (h : OwnAt lo hi w A m.methods) (hN : N < wa.heap.size) (hz : wa.heap.size ≤ lo) (h0 : w0.heap.size ≤ wa.heap.size) :
    OwnCode w0.heap.size (set7 w N a b c' d e f g) ⟨A0, A1, A2, A, A4, c0, c1, c2, c, c4⟩ m := fun i x hx => by
  obtain ⟨am, e1, e2, e3, e4⟩ := h.keep (w' := set7 w N a b c' d e f g) (fun k h1 h2 => set7_block _ _ _ _ _ _ _ _ _ (by omega)) i x hx
  refine ⟨am, e1, by omega, fun k hk => ?_⟩
  obtain ⟨ad, cap, g1, g2, g3, g4, g5⟩ := e4 k hk
  exact ⟨ad, cap, g1, by omega, g4, g5⟩

set_option maxHeartbeats 25600000 in
theorem icopy_any (m : Img) (h : Hnd) (B : Nat) (w : World) (hB : B ≤ w.heap.size) (H : ImgIn w B h m) (hs : ImgSized m) :
    Calls Try.prog 16 #[imgV h m] w (CopyOut m w) := by
  have hs1 : (w.alloc (imgO h m)).heap.size = w.heap.size + 1 := by simp
  have hs2 : ((w.alloc (imgO h m)).alloc img0O).heap.size = w.heap.size + 2 := by simp
  have hW1 : Below w.heap.size w (w.alloc (imgO h m)) := (Below.refl _ _).alloc (Nat.le_refl _) _
  have hW2 : Below (w.alloc (imgO h m)).heap.size (w.alloc (imgO h m)) ((w.alloc (imgO h m)).alloc img0O) := (Below.refl _ _).alloc (Nat.le_refl _) _
  have HX0 := Lib.hid (hW1.trans (hW2.mono hW1.size))
  have HK0 : Hid (((w.alloc (imgO h m)).alloc img0O).heap[w.heap.size]? = some (.cells [.slice h.A0 m.classes.length h.c0, .slice h.A1 m.statics.length h.c1, .slice h.A2 m.ints.length h.c2, .slice h.A3 m.methods.length h.c3, .slice h.A4 m.entries.length h.c4, .int .i64 m.stack, .int .i64 m.heap].toArray 28 (0, 0))) := Lib.hid ((hW2.block _ (by omega)).trans (heap_alloc_new _ _))
  have hk := heap_alloc_new (w.alloc (imgO h m)) img0O
  rw [hs1] at hk
  have HJ0 : Hid (((w.alloc (imgO h m)).alloc img0O).heap[w.heap.size + 1]? = some (.cells img0L.toArray 28 (0, 0))) := Lib.hid hk
  have HZ0 := Lib.hid hs2
  have HS0 := Lib.hid H.classes
  have HS1 := Lib.hid H.statics
  have HS2 := Lib.hid H.ints
  have HS3 := Lib.hid H.methods
  have HS4 := Lib.hid H.entries
  have HB := Lib.hid hB
  have Z0 := Lib.hid hs.classes
  have Z1 := Lib.hid hs.statics
  have Z2 := Lib.hid hs.ints
  have Z3 := Lib.hid hs.methods
  have Z4 := Lib.hid hs.entries
  have ZC := Lib.hid hs.ct
  have ZM := Lib.hid hs.mt
  have hc0 := H.classes.le
  have hc0' := H.classes.cap
  have hc3 := H.methods.le
  have hc3' := H.methods.cap
  clear hs1 hs2 hW1 hW2 hk H hB hs
  go_enter Try.func16, Try.ntmps16
  go_upto_region 1 with fail
  generalize (w.alloc (imgO h m)).alloc img0O = wa at *
  have hN1 : w.heap.size < wa.heap.size := by have := HZ0.out; omega
  have hN2 : w.heap.size + 1 < wa.heap.size := by have := HZ0.out; omega
  have q0 := block_cell HK0.out 0 _ rfl
  go_upto_region 2 with (go_at_call 45; (with_reducible refine (cpClasses_is HS0 HB HX0 Z0).mono ?_); rintro e w1 ⟨A0, c0, rfl, hst, hb⟩; have hk := (hb.block _ hN1).trans HK0.out; have hj := (hb.block _ hN2).trans HJ0.out; have q0 := block_cell hk 0 _ rfl; have f0 := block_free hk 0; have HK1 := Lib.hid (block_set (i := 0) hk (.slice A0 m.classes.length c0)); have HJ1 := Lib.hid (block_other hj (a := ⟨w.heap.size, 0, none⟩) (by show w.heap.size + 1 ≠ w.heap.size; omega) (.slice A0 m.classes.length c0)); have HC1 := Lib.hid (hst.other ElCls.mono (a := ⟨w.heap.size, 0, none⟩) hN1 (.slice A0 m.classes.length c0)); have HZW : Hid (wa.heap.size ≤ (w1.setCell ⟨w.heap.size, 0, none⟩ (.slice A0 m.classes.length c0)).heap.size) := Lib.hid (by simpa using hb.size); have HX1 := Lib.hid ((HX0.out.trans (hb.mono HX0.out.size)).setCell (p := ⟨w.heap.size, 0, none⟩) (Nat.le_refl _) (.slice A0 m.classes.length c0)); clear hst hb hk hj)
  generalize w1.setCell ⟨w.heap.size, 0, none⟩ (.slice A0 m.classes.length c0) = W1 at *
  have q0 := block_cell HK1.out 0 _ rfl
  go_wp2_with fail
  go_loopw [14] (fun i wr => ∃ j : Nat, j ≤ m.classes.length ∧ i = .int .i64 j ∧ Hid (CStep ElCls (ShCls w B) 52 3 wa.heap.size (.slice A0 m.classes.length c0) m.classes j wr) ∧ Hid (Below wa.heap.size W1 wr)) (fun i _ => m.classes.length - (intOf i).toNat)
  case atStart => exact ⟨0, by omega, rfl, HC1, Lib.hid (Below.refl _ _)⟩
  case round =>
    obtain ⟨j, hj, rfl, HC, HX⟩ := hrel
    by_cases hlt : j < m.classes.length
    · obtain ⟨cs, hcl, hsh, hmid⟩ := HC.out.opened hlt
      have HXL : Hid (m.classes[j]? = some m.classes[j]) := Lib.hid (List.getElem?_eq_getElem hlt)
      have ZX := Lib.hid (ZC.out _ (List.getElem_mem hlt))
      generalize m.classes[j] = x at *
      obtain ⟨A1, k1, A2, k2, rfl, hs1, hs2, hrg⟩ := hsh
      have HF := Lib.hid hs1
      have HS := Lib.hid hs2
      have HRG := Lib.hid hrg
      have HF1 := Lib.hid ZX.out.1
      have HF2 := Lib.hid ZX.out.2
      clear hs1 hs2 hrg
      obtain ⟨g, c, hv⟩ := hmid.slice
      obtain ⟨ad, had⟩ : ∃ ad : Addr, ad = ⟨g, 0, none⟩ := ⟨_, rfl⟩
      injection hv with e1 e2 e3
      rw [← had] at e1
      subst e1 e3
      have HAD := Lib.hid had
      rw [had] at hmid
      obtain ⟨hbg, hgl, hfr, hcell⟩ := hmid.cell
      have s0 : wr.cell? (ad.add (j * 3)) = some (.int .i64 x.sup) := by rw [add_g0 had]; exact hcell 0 _ rfl
      have s1 : wr.cell? (off_ (ad.add (j * 3)) 1) = some (.slice A1 x.fields.length k1) := by rw [add_g had (by decide)]; exact hcell 1 _ rfl
      have s2 : wr.cell? (off_ (ad.add (j * 3)) 2) = some (.slice A2 x.slots.length k2) := by rw [add_g had (by decide)]; exact hcell 2 _ rfl
      have hA : Below wr.heap.size wr (wr.alloc (.cells #[.int .i64 x.sup, .slice A1 x.fields.length k1, .slice A2 x.slots.length k2] 52)) := (Below.refl _ _).alloc (Nat.le_refl _) _
      have HMid := Lib.hid (hmid.keep ElCls.mono hA)
      have HLoW := Lib.hid (Nat.le_trans HZW.out HX.out.size)
      have HXv := Lib.hid (HX.out.trans (hA.mono HLoW.out))
      have HBC := Lib.hid (cells_new wr [.int .i64 x.sup, .slice A1 x.fields.length k1, .slice A2 x.slots.length k2] 52)
      have HZ2 : Hid (wr.heap.size < (wr.alloc (.cells #[.int .i64 x.sup, .slice A1 x.fields.length k1, .slice A2 x.slots.length k2] 52)).heap.size) := Lib.hid (by simp)
      have HGl := Lib.hid (Nat.lt_trans hgl HZ2.out)
      have HBg := Lib.hid hbg
      have HNg : Hid (g ≠ w.heap.size) := Lib.hid (by have := hbg; have := hN1; omega)
      have HNr : Hid (wr.heap.size ≠ g) := Lib.hid (by omega)
      clear had hmid hfr hcell hA hcl hgl hbg e2 HX HC
      go_upto_region 5 with fail
      generalize wr.alloc (.cells #[.int .i64 x.sup, .slice A1 x.fields.length k1, .slice A2 x.slots.length k2] 52) = V0 at *
      have HLoV := Lib.hid (Nat.le_trans HZW.out HXv.out.size)
      have hKv := (HXv.out.block _ hN1).trans HK1.out
      have q0 : V0.drew.cell? ⟨w.heap.size, 0, none⟩ = _ := block_cell hKv 0 _ rfl
      have r1 : V0.drew.cell? ⟨wr.heap.size, 1, none⟩ = _ := HBC.out 1 _ rfl
      clear hKv
      have HXw : Hid (Below w.heap.size w V0.drew) := Lib.hid ((HX1.out.trans (HXv.out.mono (Nat.le_of_lt hN1))).drew)
      have HN12 : Hid (w.heap.size < V0.heap.size) := Lib.hid (by have := HLoV.out; have := hN1; omega)
      go_region_held3 (fun w' => w'.cell? ⟨w.heap.size, 0, none⟩ = some (.slice (some ad) m.classes.length c0) ∧ w'.cell? ⟨wr.heap.size, 1, none⟩ = some (.slice A1 x.fields.length k1))
        (first | go_keep | exact ⟨q0, r1⟩ | exact ⟨(cell_ne (by rw [off_block HAD.out]; exact HNg.out.symm) _).trans q0, (cell_ne (by rw [off_block HAD.out]; exact HNr.out) _).trans r1⟩)
        (first | (go_at_call 46; (with_reducible refine (cpTypes_is HF HB HXw HF1).mono ?_); rintro e u0w ⟨A1n, c1n, rfl, hsl, hfr, hb⟩; have hb' : Below V0.heap.size V0 u0w := ((Below.refl V0.heap.size V0).drew).trans hb; have hm := HMid.out.keep ElCls.mono hb'; have f1 : u0w.frozen? (off_ (ad.add (j * 3)) 1) = false := (by rw [add_g HAD.out (by decide)]; exact hm.cell.2.2.1 _); have s1 : u0w.cell? (off_ (ad.add (j * 3)) 1) = some (.slice A1 x.fields.length k1) := (by rw [add_g HAD.out (by decide)]; exact hm.cell.2.2.2 1 _ rfl); have HMid3 := Lib.hid hm; have HB3 := Lib.hid hb'; have HN0 := Lib.hid (hn_new (base := wa.heap.size) (g := g) (n := m.classes.length) (c := c0) (ElS.mono TyAt.mono) (elS_of hsl) HLoV.out HGl.out); have q0 := (hb.cell (p := ⟨w.heap.size, 0, none⟩) HN12.out).trans q0; have r1 := (hb.cell (p := ⟨wr.heap.size, 1, none⟩) HZ2.out).trans r1; clear hsl hfr hb hb' hm))
      have hm' := HMid3.out.turn ElCls.mono (r := 1) (by decide) (.slice A1n x.fields.length c1n)
      rw [← add_g HAD.out (by decide)] at hm'
      have HMid := Lib.hid hm'
      have HXv := Lib.hid ((HXv.out.trans (HB3.out.mono HLoV.out)).setCell (p := off_ (ad.add (j * 3)) 1) (by rw [off_block HAD.out]; exact HBg.out) (.slice A1n x.fields.length c1n))
      have HBC := Lib.hid (cells_other (HBC.out.keep HB3.out HZ2.out) (a := off_ (ad.add (j * 3)) 1) (by rw [off_block HAD.out]; exact HNr.out) (.slice A1n x.fields.length c1n))
      have HZ2 : Hid (wr.heap.size < (u0w.setCell (off_ (ad.add (j * 3)) 1) (.slice A1n x.fields.length c1n)).heap.size) := Lib.hid (by simpa using Nat.lt_of_lt_of_le HZ2.out HB3.out.size)
      have HGl : Hid (g < (u0w.setCell (off_ (ad.add (j * 3)) 1) (.slice A1n x.fields.length c1n)).heap.size) := Lib.hid (by simpa using Nat.lt_of_lt_of_le HGl.out HB3.out.size)
      have HLoV := Lib.hid (Nat.le_trans HZW.out HXv.out.size)
      have hn := hn_turn (ElS.mono TyAt.mono) HN0.out (j * 3 + 1) (.slice A1n x.fields.length c1n)
      rw [← add_g HAD.out (by decide)] at hn
      have HN0 := Lib.hid hn
      clear hm' hn HMid3 HB3 q0 r1 s1 f1
      go_upto_region 6 with fail
      generalize u0w.setCell (off_ (ad.add (j * 3)) 1) (.slice A1n x.fields.length c1n) = V1 at *
      have hKv := (HXv.out.block _ hN1).trans HK1.out
      have q0 : V1.drew.cell? ⟨w.heap.size, 0, none⟩ = _ := block_cell hKv 0 _ rfl
      have r1 : V1.drew.cell? ⟨wr.heap.size, 2, none⟩ = _ := HBC.out 2 _ rfl
      clear hKv
      have HXw : Hid (Below w.heap.size w V1.drew) := Lib.hid ((HX1.out.trans (HXv.out.mono (Nat.le_of_lt hN1))).drew)
      have HN12 : Hid (w.heap.size < V1.heap.size) := Lib.hid (by have := HLoV.out; have := hN1; omega)
      go_region_held3 (fun w' => w'.cell? ⟨w.heap.size, 0, none⟩ = some (.slice (some ad) m.classes.length c0) ∧ w'.cell? ⟨wr.heap.size, 2, none⟩ = some (.slice A2 x.slots.length k2))
        (first | go_keep | exact ⟨q0, r1⟩ | exact ⟨(cell_ne (by rw [off_block HAD.out]; exact HNg.out.symm) _).trans q0, (cell_ne (by rw [off_block HAD.out]; exact HNr.out) _).trans r1⟩)
        (first | (go_at_call 47; (with_reducible refine (cpInts_is HS HB HXw HF2).mono ?_); rintro e u1w ⟨A2n, c2n, rfl, hsl, hfr, hb⟩; have hb' : Below V1.heap.size V1 u1w := ((Below.refl V1.heap.size V1).drew).trans hb; have hm := HMid.out.keep ElCls.mono hb'; have f1 : u1w.frozen? (off_ (ad.add (j * 3)) 2) = false := (by rw [add_g HAD.out (by decide)]; exact hm.cell.2.2.1 _); have s1 : u1w.cell? (off_ (ad.add (j * 3)) 2) = some (.slice A2 x.slots.length k2) := (by rw [add_g HAD.out (by decide)]; exact hm.cell.2.2.2 2 _ rfl); have HMid3 := Lib.hid hm; have HB3 := Lib.hid hb'; have HN1 := Lib.hid (hn_new (base := wa.heap.size) (g := g) (n := m.classes.length) (c := c0) (ElS.mono IntAt.mono) (elS_of hsl) HLoV.out HGl.out); have q0 := (hb.cell (p := ⟨w.heap.size, 0, none⟩) HN12.out).trans q0; have r1 := (hb.cell (p := ⟨wr.heap.size, 2, none⟩) HZ2.out).trans r1; clear hsl hfr hb hb' hm))
      have hm' := HMid3.out.turn ElCls.mono (r := 2) (by decide) (.slice A2n x.slots.length c2n)
      rw [← add_g HAD.out (by decide)] at hm'
      have HMid := Lib.hid hm'
      have HXv := Lib.hid ((HXv.out.trans (HB3.out.mono HLoV.out)).setCell (p := off_ (ad.add (j * 3)) 2) (by rw [off_block HAD.out]; exact HBg.out) (.slice A2n x.slots.length c2n))
      have HBC := Lib.hid (cells_other (HBC.out.keep HB3.out HZ2.out) (a := off_ (ad.add (j * 3)) 2) (by rw [off_block HAD.out]; exact HNr.out) (.slice A2n x.slots.length c2n))
      have HZ2 : Hid (wr.heap.size < (u1w.setCell (off_ (ad.add (j * 3)) 2) (.slice A2n x.slots.length c2n)).heap.size) := Lib.hid (by simpa using Nat.lt_of_lt_of_le HZ2.out HB3.out.size)
      have HGl : Hid (g < (u1w.setCell (off_ (ad.add (j * 3)) 2) (.slice A2n x.slots.length c2n)).heap.size) := Lib.hid (by simpa using Nat.lt_of_lt_of_le HGl.out HB3.out.size)
      have HLoV := Lib.hid (Nat.le_trans HZW.out HXv.out.size)
      have hn := hn_turn (ElS.mono IntAt.mono) HN1.out (j * 3 + 2) (.slice A2n x.slots.length c2n)
      rw [← add_g HAD.out (by decide)] at hn
      have HN1 := Lib.hid hn
      have hn2 := hn_turn (ElS.mono TyAt.mono) (hn_below (ElS.mono TyAt.mono) HN0.out HB3.out) (j * 3 + 2) (.slice A2n x.slots.length c2n)
      rw [← add_g HAD.out (by decide)] at hn2
      have HN0 := Lib.hid hn2
      clear hn2
      clear hm' hn HMid3 HB3 q0 r1 s1 f1
      have hcl' := HMid.out.closed (fun y hy => by
        rw [HXL.out] at hy
        injection hy with hy
        subst hy
        exact ⟨A1n, c1n, A2n, c2n, rfl, HN0.out, HN1.out, HRG.out⟩)
      rw [← HAD.out] at hcl'
      have HCn := Lib.hid hcl'
      clear hcl'
      go_wp2_with fail
      go_roundw
      case rel => exact ⟨j + 1, by omega, by go_num, HCn, HXv⟩
      case measure => simp [intOf]; omega
    · obtain ⟨A, c, hv, hsl⟩ := (HC.out.done (by omega)).slice ElCls.at_ ElCls.mono (by decide)
      injection hv with e1 e2 e3
      subst e1 e3
      have HT0 : Hid (SlcIs ClsAt 3 (Hole (old wa) wr) wr.heap.size A0 c0 m.classes) := Lib.hid hsl
      have HKe := Lib.hid ((HX.out.block _ hN1).trans HK1.out)
      have HJe := Lib.hid ((HX.out.block _ hN2).trans HJ1.out)
      have HNK := Lib.hid (lt_of_block HKe.out)
      have HNJ := Lib.hid (lt_of_block HJe.out)
      have HXe := Lib.hid (HX1.out.trans (HX.out.mono (Nat.le_of_lt hN1)))
      have HLo := Lib.hid (Nat.le_trans HZW.out HX.out.size)
      have q1 := block_cell HKe.out 1 _ rfl
      clear hsl e2 HX HC
      go_upto_region 10 with (first
        | (go_at_call 46; (with_reducible refine (cpTypes_is HS1 HB HXe Z1).mono ?_); rintro e w5 ⟨A1, c1, rfl, hsl, hfr, hb⟩; have hk := (hb.block _ HNK.out).trans HKe.out; have hj := (hb.block _ HNJ.out).trans HJe.out; have q1 := block_cell hk 1 _ rfl; have f1 := block_free hk 1; have q2 := block_cell hk 2 _ rfl; have HK5 := Lib.hid (block_set (i := 1) hk (.slice A1 m.statics.length c1)); have HJ5 := Lib.hid (block_other hj (a := ⟨w.heap.size, 1, none⟩) (by show w.heap.size + 1 ≠ w.heap.size; omega) (.slice A1 m.statics.length c1)); have HX5 := Lib.hid ((HXe.out.trans (hb.mono HXe.out.size)).setCell (p := ⟨w.heap.size, 1, none⟩) (Nat.le_refl _) (.slice A1 m.statics.length c1)); have HNK := Lib.hid (lt_set (Nat.lt_of_lt_of_le HNK.out hb.size) ⟨w.heap.size, 1, none⟩ (.slice A1 m.statics.length c1)); have HNJ := Lib.hid (lt_set (Nat.lt_of_lt_of_le HNJ.out hb.size) ⟨w.heap.size, 1, none⟩ (.slice A1 m.statics.length c1)); have HT1 := Lib.hid (slc_set TyAt.mono (slc_wider TyAt.mono hsl HLo.out) (a := ⟨w.heap.size, 1, none⟩) hN1 (.slice A1 m.statics.length c1)); have HT0 := Lib.hid (slc_set ClsAt.mono (slc_grown' ClsAt.mono HT0.out hb) (a := ⟨w.heap.size, 1, none⟩) hN1 (.slice A1 m.statics.length c1)); have HLo := Lib.hid (le_set (Nat.le_trans HLo.out hb.size) ⟨w.heap.size, 1, none⟩ (.slice A1 m.statics.length c1)); clear hk hj hsl hfr hb)
        | (go_at_call 48; (with_reducible refine (cpLongs_is HS2 HB HX5 Z2).mono ?_); rintro e w6 ⟨A2, c2, rfl, hsl, hfr, hb⟩; have hk := (hb.block _ HNK.out).trans HK5.out; have hj := (hb.block _ HNJ.out).trans HJ5.out; have q2 := block_cell hk 2 _ rfl; have f2 := block_free hk 2; have q3 := block_cell hk 3 _ rfl; have HK6 := Lib.hid (block_set (i := 2) hk (.slice A2 m.ints.length c2)); have HJ6 := Lib.hid (block_other hj (a := ⟨w.heap.size, 2, none⟩) (by show w.heap.size + 1 ≠ w.heap.size; omega) (.slice A2 m.ints.length c2)); have HX6 := Lib.hid ((HX5.out.trans (hb.mono HX5.out.size)).setCell (p := ⟨w.heap.size, 2, none⟩) (Nat.le_refl _) (.slice A2 m.ints.length c2)); have HNK := Lib.hid (lt_set (Nat.lt_of_lt_of_le HNK.out hb.size) ⟨w.heap.size, 2, none⟩ (.slice A2 m.ints.length c2)); have HNJ := Lib.hid (lt_set (Nat.lt_of_lt_of_le HNJ.out hb.size) ⟨w.heap.size, 2, none⟩ (.slice A2 m.ints.length c2)); have HT2 := Lib.hid (slc_set LongAt.mono (slc_wider LongAt.mono hsl HLo.out) (a := ⟨w.heap.size, 2, none⟩) hN1 (.slice A2 m.ints.length c2)); have HT0 := Lib.hid (slc_set ClsAt.mono (slc_grown' ClsAt.mono HT0.out hb) (a := ⟨w.heap.size, 2, none⟩) hN1 (.slice A2 m.ints.length c2)); have HT1 := Lib.hid (slc_set TyAt.mono (slc_grown' TyAt.mono HT1.out hb) (a := ⟨w.heap.size, 2, none⟩) hN1 (.slice A2 m.ints.length c2)); have HLo := Lib.hid (le_set (Nat.le_trans HLo.out hb.size) ⟨w.heap.size, 2, none⟩ (.slice A2 m.ints.length c2)); clear hk hj hsl hfr hb))
      generalize w6.setCell ⟨w.heap.size, 2, none⟩ (.slice A2 m.ints.length c2) = W6 at *
      have HZ6 := HLo
      have hN1b : w.heap.size < W6.heap.size := Nat.lt_of_lt_of_le hN1 HZ6.out
      have q3 := block_cell HK6.out 3 _ rfl
      go_upto_region 11 with (go_at_call 49; (with_reducible refine (cpMethods_is HS3 HB HX6 Z3).mono ?_); rintro e w7 ⟨A3, c3, rfl, hst, hb⟩; have hk := (hb.block _ HNK.out).trans HK6.out; have hj := (hb.block _ HNJ.out).trans HJ6.out; have q3 := block_cell hk 3 _ rfl; have f3 := block_free hk 3; have HK7 := Lib.hid (block_set (i := 3) hk (.slice A3 m.methods.length c3)); have HJ7 := Lib.hid (block_other hj (a := ⟨w.heap.size, 3, none⟩) (by show w.heap.size + 1 ≠ w.heap.size; omega) (.slice A3 m.methods.length c3)); have HX7 := Lib.hid ((HX6.out.trans (hb.mono HX6.out.size)).setCell (p := ⟨w.heap.size, 3, none⟩) (Nat.le_refl _) (.slice A3 m.methods.length c3)); have HC7 := Lib.hid (hst.other ElMthO.mono (a := ⟨w.heap.size, 3, none⟩) (Nat.lt_of_lt_of_le hN1 HZ6.out) (.slice A3 m.methods.length c3)); have HZW7 := Lib.hid (le_set hb.size ⟨w.heap.size, 3, none⟩ (.slice A3 m.methods.length c3)); have HT0 := Lib.hid (slcB_set ClsAt.mono (slcB_below ClsAt.mono HT0.out hb) (a := ⟨w.heap.size, 3, none⟩) hN1 (.slice A3 m.methods.length c3)); have HT1 := Lib.hid (slcB_set TyAt.mono (slcB_below TyAt.mono HT1.out hb) (a := ⟨w.heap.size, 3, none⟩) hN1 (.slice A3 m.methods.length c3)); have HT2 := Lib.hid (slcB_set LongAt.mono (slcB_below LongAt.mono HT2.out hb) (a := ⟨w.heap.size, 3, none⟩) hN1 (.slice A3 m.methods.length c3)); clear hk hj hst hb)
      generalize w7.setCell ⟨w.heap.size, 3, none⟩ (.slice A3 m.methods.length c3) = W7 at *
      have q3 := block_cell HK7.out 3 _ rfl
      go_wp2_with fail
      go_loopw [51] (fun i wr => ∃ j : Nat, j ≤ m.methods.length ∧ i = .int .i64 j ∧ Hid (CStep ElMthO (ShMth w B) 45 8 W6.heap.size (.slice A3 m.methods.length c3) m.methods j wr) ∧ Hid (Below W6.heap.size W7 wr)) (fun i _ => m.methods.length - (intOf i).toNat)
      case atStart => exact ⟨0, by omega, rfl, HC7, Lib.hid (Below.refl _ _)⟩
      case round =>
        obtain ⟨j, hj, rfl, HC, HX⟩ := hrel
        by_cases hlt : j < m.methods.length
        · obtain ⟨cs, hcl, hsh, hmid⟩ := HC.out.opened hlt
          have HXL : Hid (m.methods[j]? = some m.methods[j]) := Lib.hid (List.getElem?_eq_getElem hlt)
          have ZX := Lib.hid (ZM.out _ (List.getElem_mem hlt))
          generalize m.methods[j] = x at *
          obtain ⟨B0, k0, B1, k1, B4, k4, B7, k7, rfl, hs0, hs1, hs4, hs7⟩ := hsh
          have HQ0 := Lib.hid hs0
          have HQ1 := Lib.hid hs1
          have HQ4 := Lib.hid hs4
          have HQ7 := Lib.hid hs7
          have HF0 := Lib.hid ZX.out.1
          have HF1 := Lib.hid ZX.out.2.1
          have HF4 := Lib.hid ZX.out.2.2.1
          have HF7 := Lib.hid ZX.out.2.2.2
          clear hs0 hs1 hs4 hs7
          obtain ⟨g, c, hv⟩ := hmid.slice
          obtain ⟨ad, had⟩ : ∃ ad : Addr, ad = ⟨g, 0, none⟩ := ⟨_, rfl⟩
          injection hv with e1 e2 e3
          rw [← had] at e1
          subst e1 e3
          have HAD := Lib.hid had
          rw [had] at hmid
          obtain ⟨hbg, hgl, hfr, hcell⟩ := hmid.cell
          have s0 : wr.cell? (ad.add (j * 8)) = some (.slice B0 x.args.length k0) := by rw [add_g0 had]; exact hcell 0 _ rfl
          have s1 : wr.cell? (off_ (ad.add (j * 8)) 1) = some (.slice B1 x.locals.length k1) := by rw [add_g had (by decide)]; exact hcell 1 _ rfl
          have s2 : wr.cell? (off_ (ad.add (j * 8)) 2) = some (.int .i64 x.ret.1) := by rw [add_g had (by decide)]; exact hcell 2 _ rfl
          have s3 : wr.cell? (off_ (ad.add (j * 8)) 3) = some (.int .i64 x.ret.2) := by rw [add_g had (by decide)]; exact hcell 3 _ rfl
          have s4 : wr.cell? (off_ (ad.add (j * 8)) 4) = some (.slice B4 x.code.length k4) := by rw [add_g had (by decide)]; exact hcell 4 _ rfl
          have s5 : wr.cell? (off_ (ad.add (j * 8)) 5) = some (.int .i64 x.depth) := by rw [add_g had (by decide)]; exact hcell 5 _ rfl
          have s6 : wr.cell? (off_ (ad.add (j * 8)) 6) = some (.int .i64 x.pot) := by rw [add_g had (by decide)]; exact hcell 6 _ rfl
          have s7 : wr.cell? (off_ (ad.add (j * 8)) 7) = some (.slice B7 x.phi.length k7) := by rw [add_g had (by decide)]; exact hcell 7 _ rfl
          have hA : Below wr.heap.size wr (wr.alloc (.cells #[.slice B0 x.args.length k0, .slice B1 x.locals.length k1, .int .i64 x.ret.1, .int .i64 x.ret.2, .slice B4 x.code.length k4, .int .i64 x.depth, .int .i64 x.pot, .slice B7 x.phi.length k7] 45)) := (Below.refl _ _).alloc (Nat.le_refl _) _
          have HMid := Lib.hid (hmid.keep ElMthO.mono hA)
          have HLoW := Lib.hid (Nat.le_trans HZW7.out HX.out.size)
          have HXv := Lib.hid (HX.out.trans (hA.mono HLoW.out))
          have HBC := Lib.hid (cells_new wr [.slice B0 x.args.length k0, .slice B1 x.locals.length k1, .int .i64 x.ret.1, .int .i64 x.ret.2, .slice B4 x.code.length k4, .int .i64 x.depth, .int .i64 x.pot, .slice B7 x.phi.length k7] 45)
          have HZ2 : Hid (wr.heap.size < (wr.alloc (.cells #[.slice B0 x.args.length k0, .slice B1 x.locals.length k1, .int .i64 x.ret.1, .int .i64 x.ret.2, .slice B4 x.code.length k4, .int .i64 x.depth, .int .i64 x.pot, .slice B7 x.phi.length k7] 45)).heap.size) := Lib.hid (by simp)
          have HGl := Lib.hid (Nat.lt_trans hgl HZ2.out)
          have HBg := Lib.hid hbg
          have HNg : Hid (g ≠ w.heap.size) := Lib.hid (by have := hbg; have := hN1b; omega)
          have HNr : Hid (wr.heap.size ≠ g) := Lib.hid (by omega)
          clear had hmid hfr hcell hA hcl hgl hbg e2 HX HC
          go_upto_region 14 with fail
          generalize wr.alloc (.cells #[.slice B0 x.args.length k0, .slice B1 x.locals.length k1, .int .i64 x.ret.1, .int .i64 x.ret.2, .slice B4 x.code.length k4, .int .i64 x.depth, .int .i64 x.pot, .slice B7 x.phi.length k7] 45) = V0 at *
          have HLoV := Lib.hid (Nat.le_trans HZW7.out HXv.out.size)
          have hKv := (HXv.out.block _ hN1b).trans HK7.out
          have q0 : V0.drew.cell? ⟨w.heap.size, 3, none⟩ = _ := block_cell hKv 3 _ rfl
          have r1 : V0.drew.cell? ⟨wr.heap.size, 0, none⟩ = _ := HBC.out 0 _ rfl
          clear hKv
          have HXw : Hid (Below w.heap.size w V0.drew) := Lib.hid ((HX7.out.trans (HXv.out.mono (Nat.le_of_lt hN1b))).drew)
          have HN12 : Hid (w.heap.size < V0.heap.size) := Lib.hid (by have := HLoV.out; have := hN1b; omega)
          go_region_held3 (fun w' => w'.cell? ⟨w.heap.size, 3, none⟩ = some (.slice (some ad) m.methods.length c3) ∧ w'.cell? ⟨wr.heap.size, 0, none⟩ = some (.slice B0 x.args.length k0))
            (first | go_keep | exact ⟨q0, r1⟩ | exact ⟨(cell_ne (by rw [add_block HAD.out]; exact HNg.out.symm) _).trans q0, (cell_ne (by rw [add_block HAD.out]; exact HNr.out) _).trans r1⟩)
            (first | (go_at_call 46; (with_reducible refine (cpTypes_is HQ0 HB HXw HF0).mono ?_); rintro e u0w ⟨B0n, c0n, rfl, hsl, hfr, hb⟩; have hb' : Below V0.heap.size V0 u0w := ((Below.refl V0.heap.size V0).drew).trans hb; have hm := HMid.out.keep ElMthO.mono hb'; have f1 : u0w.frozen? (ad.add (j * 8)) = false := (by rw [add_g0 (n := j * 8) HAD.out]; exact hm.cell.2.2.1 _); have s1 : u0w.cell? (ad.add (j * 8)) = some (.slice B0 x.args.length k0) := (by rw [add_g0 (n := j * 8) HAD.out]; exact hm.cell.2.2.2 0 _ rfl); have HMid3 := Lib.hid hm; have HB3 := Lib.hid hb'; have HN0 := Lib.hid (hn_new (base := W6.heap.size) (g := g) (n := m.methods.length) (c := c3) (ElS.mono TyAt.mono) (elS_of hsl) HLoV.out HGl.out); have q0 := (hb.cell (p := ⟨w.heap.size, 3, none⟩) HN12.out).trans q0; have r1 := (hb.cell (p := ⟨wr.heap.size, 0, none⟩) HZ2.out).trans r1; clear hsl hfr hb hb' hm))
          have hm' := HMid3.out.turn ElMthO.mono (r := 0) (by decide) (.slice B0n x.args.length c0n)
          rw [← add_g0 (n := j * 8) HAD.out] at hm'
          have HMid := Lib.hid hm'
          have HXv := Lib.hid ((HXv.out.trans (HB3.out.mono HLoV.out)).setCell (p := ad.add (j * 8)) (by rw [add_block HAD.out]; exact HBg.out) (.slice B0n x.args.length c0n))
          have HBC := Lib.hid (cells_other (HBC.out.keep HB3.out HZ2.out) (a := ad.add (j * 8)) (by rw [add_block HAD.out]; exact HNr.out) (.slice B0n x.args.length c0n))
          have HZ2 : Hid (wr.heap.size < (u0w.setCell (ad.add (j * 8)) (.slice B0n x.args.length c0n)).heap.size) := Lib.hid (by simpa using Nat.lt_of_lt_of_le HZ2.out HB3.out.size)
          have HGl : Hid (g < (u0w.setCell (ad.add (j * 8)) (.slice B0n x.args.length c0n)).heap.size) := Lib.hid (by simpa using Nat.lt_of_lt_of_le HGl.out HB3.out.size)
          have HLoV := Lib.hid (Nat.le_trans HZW7.out HXv.out.size)
          have hn := hn_turn (ElS.mono TyAt.mono) HN0.out (j * 8 + 0) (.slice B0n x.args.length c0n)
          rw [← add_g0 (n := j * 8) HAD.out] at hn
          have HN0 := Lib.hid hn
          clear hm' hn HMid3 HB3 q0 r1 s1 f1
          go_upto_region 15 with fail
          generalize u0w.setCell (ad.add (j * 8)) (.slice B0n x.args.length c0n) = V1 at *
          have hKv := (HXv.out.block _ hN1b).trans HK7.out
          have q0 : V1.drew.cell? ⟨w.heap.size, 3, none⟩ = _ := block_cell hKv 3 _ rfl
          have r1 : V1.drew.cell? ⟨wr.heap.size, 1, none⟩ = _ := HBC.out 1 _ rfl
          clear hKv
          have HXw : Hid (Below w.heap.size w V1.drew) := Lib.hid ((HX7.out.trans (HXv.out.mono (Nat.le_of_lt hN1b))).drew)
          have HN12 : Hid (w.heap.size < V1.heap.size) := Lib.hid (by have := HLoV.out; have := hN1b; omega)
          go_region_held3 (fun w' => w'.cell? ⟨w.heap.size, 3, none⟩ = some (.slice (some ad) m.methods.length c3) ∧ w'.cell? ⟨wr.heap.size, 1, none⟩ = some (.slice B1 x.locals.length k1))
            (first | go_keep | exact ⟨q0, r1⟩ | exact ⟨(cell_ne (by rw [off_block HAD.out]; exact HNg.out.symm) _).trans q0, (cell_ne (by rw [off_block HAD.out]; exact HNr.out) _).trans r1⟩)
            (first | (go_at_call 46; (with_reducible refine (cpTypes_is HQ1 HB HXw HF1).mono ?_); rintro e u1w ⟨B1n, c1n, rfl, hsl, hfr, hb⟩; have hb' : Below V1.heap.size V1 u1w := ((Below.refl V1.heap.size V1).drew).trans hb; have hm := HMid.out.keep ElMthO.mono hb'; have f1 : u1w.frozen? (off_ (ad.add (j * 8)) 1) = false := (by rw [add_g HAD.out (by decide)]; exact hm.cell.2.2.1 _); have s1 : u1w.cell? (off_ (ad.add (j * 8)) 1) = some (.slice B1 x.locals.length k1) := (by rw [add_g HAD.out (by decide)]; exact hm.cell.2.2.2 1 _ rfl); have HMid3 := Lib.hid hm; have HB3 := Lib.hid hb'; have HN1 := Lib.hid (hn_new (base := W6.heap.size) (g := g) (n := m.methods.length) (c := c3) (ElS.mono TyAt.mono) (elS_of hsl) HLoV.out HGl.out); have q0 := (hb.cell (p := ⟨w.heap.size, 3, none⟩) HN12.out).trans q0; have r1 := (hb.cell (p := ⟨wr.heap.size, 1, none⟩) HZ2.out).trans r1; clear hsl hfr hb hb' hm))
          have hm' := HMid3.out.turn ElMthO.mono (r := 1) (by decide) (.slice B1n x.locals.length c1n)
          rw [← add_g HAD.out (by decide)] at hm'
          have HMid := Lib.hid hm'
          have HXv := Lib.hid ((HXv.out.trans (HB3.out.mono HLoV.out)).setCell (p := off_ (ad.add (j * 8)) 1) (by rw [off_block HAD.out]; exact HBg.out) (.slice B1n x.locals.length c1n))
          have HBC := Lib.hid (cells_other (HBC.out.keep HB3.out HZ2.out) (a := off_ (ad.add (j * 8)) 1) (by rw [off_block HAD.out]; exact HNr.out) (.slice B1n x.locals.length c1n))
          have HZ2 : Hid (wr.heap.size < (u1w.setCell (off_ (ad.add (j * 8)) 1) (.slice B1n x.locals.length c1n)).heap.size) := Lib.hid (by simpa using Nat.lt_of_lt_of_le HZ2.out HB3.out.size)
          have HGl : Hid (g < (u1w.setCell (off_ (ad.add (j * 8)) 1) (.slice B1n x.locals.length c1n)).heap.size) := Lib.hid (by simpa using Nat.lt_of_lt_of_le HGl.out HB3.out.size)
          have HLoV := Lib.hid (Nat.le_trans HZW7.out HXv.out.size)
          have hn := hn_turn (ElS.mono TyAt.mono) HN1.out (j * 8 + 1) (.slice B1n x.locals.length c1n)
          rw [← add_g HAD.out (by decide)] at hn
          have HN1 := Lib.hid hn
          have hn2 := hn_turn (ElS.mono TyAt.mono) (hn_below (ElS.mono TyAt.mono) HN0.out HB3.out) (j * 8 + 1) (.slice B1n x.locals.length c1n)
          rw [← add_g HAD.out (by decide)] at hn2
          have HN0 := Lib.hid hn2
          clear hn2
          clear hm' hn HMid3 HB3 q0 r1 s1 f1
          go_upto_region 16 with fail
          generalize u1w.setCell (off_ (ad.add (j * 8)) 1) (.slice B1n x.locals.length c1n) = V2 at *
          have hKv := (HXv.out.block _ hN1b).trans HK7.out
          have q0 : V2.drew.cell? ⟨w.heap.size, 3, none⟩ = _ := block_cell hKv 3 _ rfl
          have r1 : V2.drew.cell? ⟨wr.heap.size, 4, none⟩ = _ := HBC.out 4 _ rfl
          clear hKv
          have HXw : Hid (Below w.heap.size w V2.drew) := Lib.hid ((HX7.out.trans (HXv.out.mono (Nat.le_of_lt hN1b))).drew)
          have HN12 : Hid (w.heap.size < V2.heap.size) := Lib.hid (by have := HLoV.out; have := hN1b; omega)
          go_region_held3 (fun w' => w'.cell? ⟨w.heap.size, 3, none⟩ = some (.slice (some ad) m.methods.length c3) ∧ w'.cell? ⟨wr.heap.size, 4, none⟩ = some (.slice B4 x.code.length k4))
            (first | go_keep | exact ⟨q0, r1⟩ | exact ⟨(cell_ne (by rw [off_block HAD.out]; exact HNg.out.symm) _).trans q0, (cell_ne (by rw [off_block HAD.out]; exact HNr.out) _).trans r1⟩)
            (first | (go_at_call 50; (with_reducible refine (cpCode_is HQ4 HB HXw HF4).mono ?_); rintro e u2w ⟨B4n, c4n, rfl, hsl, hfr, hb⟩; have hb' : Below V2.heap.size V2 u2w := ((Below.refl V2.heap.size V2).drew).trans hb; have hm := HMid.out.keep ElMthO.mono hb'; have f1 : u2w.frozen? (off_ (ad.add (j * 8)) 4) = false := (by rw [add_g HAD.out (by decide)]; exact hm.cell.2.2.1 _); have s1 : u2w.cell? (off_ (ad.add (j * 8)) 4) = some (.slice B4 x.code.length k4) := (by rw [add_g HAD.out (by decide)]; exact hm.cell.2.2.2 4 _ rfl); have HMid3 := Lib.hid hm; have HB3 := Lib.hid hb'; have HN2 := Lib.hid (hn_new (base := W6.heap.size) (g := g) (n := m.methods.length) (c := c3) ElF.mono (elF_of hsl hfr) HLoV.out HGl.out); have q0 := (hb.cell (p := ⟨w.heap.size, 3, none⟩) HN12.out).trans q0; have r1 := (hb.cell (p := ⟨wr.heap.size, 4, none⟩) HZ2.out).trans r1; clear hsl hfr hb hb' hm))
          have hm' := HMid3.out.turn ElMthO.mono (r := 4) (by decide) (.slice B4n x.code.length c4n)
          rw [← add_g HAD.out (by decide)] at hm'
          have HMid := Lib.hid hm'
          have HXv := Lib.hid ((HXv.out.trans (HB3.out.mono HLoV.out)).setCell (p := off_ (ad.add (j * 8)) 4) (by rw [off_block HAD.out]; exact HBg.out) (.slice B4n x.code.length c4n))
          have HBC := Lib.hid (cells_other (HBC.out.keep HB3.out HZ2.out) (a := off_ (ad.add (j * 8)) 4) (by rw [off_block HAD.out]; exact HNr.out) (.slice B4n x.code.length c4n))
          have HZ2 : Hid (wr.heap.size < (u2w.setCell (off_ (ad.add (j * 8)) 4) (.slice B4n x.code.length c4n)).heap.size) := Lib.hid (by simpa using Nat.lt_of_lt_of_le HZ2.out HB3.out.size)
          have HGl : Hid (g < (u2w.setCell (off_ (ad.add (j * 8)) 4) (.slice B4n x.code.length c4n)).heap.size) := Lib.hid (by simpa using Nat.lt_of_lt_of_le HGl.out HB3.out.size)
          have HLoV := Lib.hid (Nat.le_trans HZW7.out HXv.out.size)
          have hn := hn_turn ElF.mono HN2.out (j * 8 + 4) (.slice B4n x.code.length c4n)
          rw [← add_g HAD.out (by decide)] at hn
          have HN2 := Lib.hid hn
          have hn2 := hn_turn (ElS.mono TyAt.mono) (hn_below (ElS.mono TyAt.mono) HN0.out HB3.out) (j * 8 + 4) (.slice B4n x.code.length c4n)
          rw [← add_g HAD.out (by decide)] at hn2
          have HN0 := Lib.hid hn2
          clear hn2
          have hn2 := hn_turn (ElS.mono TyAt.mono) (hn_below (ElS.mono TyAt.mono) HN1.out HB3.out) (j * 8 + 4) (.slice B4n x.code.length c4n)
          rw [← add_g HAD.out (by decide)] at hn2
          have HN1 := Lib.hid hn2
          clear hn2
          clear hm' hn HMid3 HB3 q0 r1 s1 f1
          go_upto_region 17 with fail
          generalize u2w.setCell (off_ (ad.add (j * 8)) 4) (.slice B4n x.code.length c4n) = V3 at *
          have hKv := (HXv.out.block _ hN1b).trans HK7.out
          have q0 : V3.drew.cell? ⟨w.heap.size, 3, none⟩ = _ := block_cell hKv 3 _ rfl
          have r1 : V3.drew.cell? ⟨wr.heap.size, 7, none⟩ = _ := HBC.out 7 _ rfl
          clear hKv
          have HXw : Hid (Below w.heap.size w V3.drew) := Lib.hid ((HX7.out.trans (HXv.out.mono (Nat.le_of_lt hN1b))).drew)
          have HN12 : Hid (w.heap.size < V3.heap.size) := Lib.hid (by have := HLoV.out; have := hN1b; omega)
          go_region_held3 (fun w' => w'.cell? ⟨w.heap.size, 3, none⟩ = some (.slice (some ad) m.methods.length c3) ∧ w'.cell? ⟨wr.heap.size, 7, none⟩ = some (.slice B7 x.phi.length k7))
            (first | go_keep | exact ⟨q0, r1⟩ | exact ⟨(cell_ne (by rw [off_block HAD.out]; exact HNg.out.symm) _).trans q0, (cell_ne (by rw [off_block HAD.out]; exact HNr.out) _).trans r1⟩)
            (first | (go_at_call 47; (with_reducible refine (cpInts_is HQ7 HB HXw HF7).mono ?_); rintro e u3w ⟨B7n, c7n, rfl, hsl, hfr, hb⟩; have hb' : Below V3.heap.size V3 u3w := ((Below.refl V3.heap.size V3).drew).trans hb; have hm := HMid.out.keep ElMthO.mono hb'; have f1 : u3w.frozen? (off_ (ad.add (j * 8)) 7) = false := (by rw [add_g HAD.out (by decide)]; exact hm.cell.2.2.1 _); have s1 : u3w.cell? (off_ (ad.add (j * 8)) 7) = some (.slice B7 x.phi.length k7) := (by rw [add_g HAD.out (by decide)]; exact hm.cell.2.2.2 7 _ rfl); have HMid3 := Lib.hid hm; have HB3 := Lib.hid hb'; have HN3 := Lib.hid (hn_new (base := W6.heap.size) (g := g) (n := m.methods.length) (c := c3) (ElS.mono IntAt.mono) (elS_of hsl) HLoV.out HGl.out); have q0 := (hb.cell (p := ⟨w.heap.size, 3, none⟩) HN12.out).trans q0; have r1 := (hb.cell (p := ⟨wr.heap.size, 7, none⟩) HZ2.out).trans r1; clear hsl hfr hb hb' hm))
          have hm' := HMid3.out.turn ElMthO.mono (r := 7) (by decide) (.slice B7n x.phi.length c7n)
          rw [← add_g HAD.out (by decide)] at hm'
          have HMid := Lib.hid hm'
          have HXv := Lib.hid ((HXv.out.trans (HB3.out.mono HLoV.out)).setCell (p := off_ (ad.add (j * 8)) 7) (by rw [off_block HAD.out]; exact HBg.out) (.slice B7n x.phi.length c7n))
          have HBC := Lib.hid (cells_other (HBC.out.keep HB3.out HZ2.out) (a := off_ (ad.add (j * 8)) 7) (by rw [off_block HAD.out]; exact HNr.out) (.slice B7n x.phi.length c7n))
          have HZ2 : Hid (wr.heap.size < (u3w.setCell (off_ (ad.add (j * 8)) 7) (.slice B7n x.phi.length c7n)).heap.size) := Lib.hid (by simpa using Nat.lt_of_lt_of_le HZ2.out HB3.out.size)
          have HGl : Hid (g < (u3w.setCell (off_ (ad.add (j * 8)) 7) (.slice B7n x.phi.length c7n)).heap.size) := Lib.hid (by simpa using Nat.lt_of_lt_of_le HGl.out HB3.out.size)
          have HLoV := Lib.hid (Nat.le_trans HZW7.out HXv.out.size)
          have hn := hn_turn (ElS.mono IntAt.mono) HN3.out (j * 8 + 7) (.slice B7n x.phi.length c7n)
          rw [← add_g HAD.out (by decide)] at hn
          have HN3 := Lib.hid hn
          have hn2 := hn_turn (ElS.mono TyAt.mono) (hn_below (ElS.mono TyAt.mono) HN0.out HB3.out) (j * 8 + 7) (.slice B7n x.phi.length c7n)
          rw [← add_g HAD.out (by decide)] at hn2
          have HN0 := Lib.hid hn2
          clear hn2
          have hn2 := hn_turn (ElS.mono TyAt.mono) (hn_below (ElS.mono TyAt.mono) HN1.out HB3.out) (j * 8 + 7) (.slice B7n x.phi.length c7n)
          rw [← add_g HAD.out (by decide)] at hn2
          have HN1 := Lib.hid hn2
          clear hn2
          have hn2 := hn_turn ElF.mono (hn_below ElF.mono HN2.out HB3.out) (j * 8 + 7) (.slice B7n x.phi.length c7n)
          rw [← add_g HAD.out (by decide)] at hn2
          have HN2 := Lib.hid hn2
          clear hn2
          clear hm' hn HMid3 HB3 q0 r1 s1 f1
          have hcl' := HMid.out.closed (fun y hy => by
            rw [HXL.out] at hy
            injection hy with hy
            subst hy
            exact ⟨B0n, c0n, B1n, c1n, B4n, c4n, B7n, c7n, rfl, HN0.out, HN1.out, HN2.out.1, HN3.out, HN2.out.2⟩)
          rw [← HAD.out] at hcl'
          have HCn := Lib.hid hcl'
          clear hcl'
          go_wp2_with fail
          go_roundw
          case rel => exact ⟨j + 1, by omega, by go_num, HCn, HXv⟩
          case measure => simp [intOf]; omega
        · obtain ⟨A, c, hv, hsl⟩ := (HC.out.done (by omega)).slice ElMthO.at_ ElMthO.mono (by decide)
          injection hv with e1 e2 e3
          subst e1 e3
          have HOw := Lib.hid (own_at (HC.out.done (by omega)))
          have HLof := Lib.hid (Nat.le_trans (Nat.le_trans HZ6.out HZW7.out) HX.out.size)
          have HT3 : Hid (SlcIs MthAt 8 (Hole (old wa) wr) wr.heap.size A3 c3 m.methods) := Lib.hid (hsl.hole MthAt.mono (Nat.le_refl _) fun b hb hs => ⟨old_no.mpr (by have := HZ6.out; simp at hs; omega), rfl⟩)
          have HT0 := Lib.hid (slcB_below ClsAt.mono HT0.out HX.out)
          have HT1 := Lib.hid (slcB_below TyAt.mono HT1.out HX.out)
          have HT2 := Lib.hid (slcB_below LongAt.mono HT2.out HX.out)
          have HKf := Lib.hid ((HX.out.block _ (Nat.lt_of_lt_of_le hN1 HZ6.out)).trans HK7.out)
          have HJf := Lib.hid ((HX.out.block _ (Nat.lt_of_lt_of_le hN2 HZ6.out)).trans HJ7.out)
          have HNKf := Lib.hid (lt_of_block HKf.out)
          have HNJf := Lib.hid (lt_of_block HJf.out)
          have HXf := Lib.hid (HX7.out.trans (HX.out.mono (Nat.le_trans (Nat.le_of_lt hN1) HZ6.out)))
          have HZ67 := Lib.hid (Nat.le_trans HZW7.out HX.out.size)
          have q4 := block_cell HKf.out 4 _ rfl
          clear hsl e2 HX HC
          go_wp2_with (go_at_call 47; (with_reducible refine (cpInts_is HS4 HB HXf Z4).mono ?_); rintro e w9 ⟨A4, c4, rfl, hsl, hfr, hb⟩; have hk := (hb.block _ HNKf.out).trans HKf.out; have hj := (hb.block _ HNJf.out).trans HJf.out; have q0 := block_cell hk 0 _ rfl; have q1 := block_cell hk 1 _ rfl; have q2 := block_cell hk 2 _ rfl; have q3 := block_cell hk 3 _ rfl; have q4 := block_cell hk 4 _ rfl; have q5 := block_cell hk 5 _ rfl; have q6 := block_cell hk 6 _ rfl; have f4 := block_free hk 4; have p0 := block_cell hj 0 _ rfl; have g0 := block_free hj 0; have p1 := block_cell hj 1 _ rfl; have g1 := block_free hj 1; have p2 := block_cell hj 2 _ rfl; have g2 := block_free hj 2; have p3 := block_cell hj 3 _ rfl; have g3 := block_free hj 3; have p4 := block_cell hj 4 _ rfl; have g4 := block_free hj 4; have p5 := block_cell hj 5 _ rfl; have g5 := block_free hj 5; have p6 := block_cell hj 6 _ rfl; have g6 := block_free hj 6; have HX9 := Lib.hid ((HXf.out.trans (hb.mono HXf.out.size)).setCell (p := ⟨w.heap.size, 4, none⟩) (Nat.le_refl _) (.slice A4 m.entries.length c4)); have HT4 := Lib.hid (slc_set IntAt.mono (slc_wider IntAt.mono hsl HLof.out) (a := ⟨w.heap.size, 4, none⟩) hN1 (.slice A4 m.entries.length c4)); have HT0 := Lib.hid (slcB_set ClsAt.mono (slcB_below' ClsAt.mono HT0.out hb HZ67.out) (a := ⟨w.heap.size, 4, none⟩) hN1 (.slice A4 m.entries.length c4)); have HT1 := Lib.hid (slcB_set TyAt.mono (slcB_below' TyAt.mono HT1.out hb HZ67.out) (a := ⟨w.heap.size, 4, none⟩) hN1 (.slice A4 m.entries.length c4)); have HT2 := Lib.hid (slcB_set LongAt.mono (slcB_below' LongAt.mono HT2.out hb HZ67.out) (a := ⟨w.heap.size, 4, none⟩) hN1 (.slice A4 m.entries.length c4)); have HT3 := Lib.hid (slcB_set MthAt.mono (slcB_below' MthAt.mono HT3.out hb (Nat.le_refl _)) (a := ⟨w.heap.size, 4, none⟩) hN1 (.slice A4 m.entries.length c4)); have HOw := Lib.hid (HOw.out.keep (w' := w9.setCell ⟨w.heap.size, 4, none⟩ (.slice A4 m.entries.length c4)) fun b h1 h2 => (Below.heap_setCell _ _ _ _ (by show b ≠ w.heap.size; have := HZ6.out; omega)).trans (hb.block b h2)); have HS9 := Lib.hid (le_set hb.size ⟨w.heap.size, 4, none⟩ (.slice A4 m.entries.length c4)); clear hk hj hsl hfr hb)
          refine bodyPost_ret (v := .agg #[.slice A0 m.classes.length c0, .slice A1 m.statics.length c1, .slice A2 m.ints.length c2, .slice A3 m.methods.length c3, .slice A4 m.entries.length c4, .int .i64 m.stack, .int .i64 m.heap]) (by simp [results, Try.results16, go_sem, p0, p1, p2, p3, p4, p5, p6]) rfl ⟨⟨A0, A1, A2, A3, A4, c0, c1, c2, c3, c4⟩, rfl, ⟨?_, ?_, ?_, ?_, ?_⟩, ?_, ?_⟩
          · exact slc_end7 ClsAt.mono HT0.out hN2 (Nat.le_trans HZ67.out HS9.out)
          · exact slc_end7 TyAt.mono HT1.out hN2 (Nat.le_trans HZ67.out HS9.out)
          · exact slc_end7 LongAt.mono HT2.out hN2 (Nat.le_trans HZ67.out HS9.out)
          · exact slc_end7 MthAt.mono HT3.out hN2 HS9.out
          · exact slc_end7 IntAt.mono HT4.out hN2 (Nat.le_refl _)
          · exact below_end7 HX9.out
          · exact own_end7 (HOw.out) hN2 HZ6.out (Nat.le_of_lt hN1)
end Go.Proofs.Ytikljohgdgibnaa
