/-
  What the program's own image.Decode comes to.
-/
import Derived.Test.YtikljohgdgibnaaImgCode
namespace Go.Proofs.Ytikljohgdgibnaa
set_option maxRecDepth 100000
open Go.ChangeShapes Go.WideShapes Go.ChangeAt Go.RowKit
set_option linter.unusedVariables false

/-- The image that is none, as a value and as a block. -/
abbrev hnd0 : Hnd := ⟨none, none, none, none, none, 0, 0, 0, 0, 0⟩
abbrev img0L : List Value := [.slice none 0 0, .slice none 0 0, .slice none 0 0, .slice none 0 0, .slice none 0 0, .int .i64 0, .int .i64 0]
abbrev img0O : Obj := .cells #[.slice none 0 0, .slice none 0 0, .slice none 0 0, .slice none 0 0, .slice none 0 0, .int .i64 0, .int .i64 0] 28 (0, 0)
theorem img0_in0 (w : World) (B : Nat) : ImgIn w B hnd0 img0 := ⟨⟨Nat.le_refl _, by decide, RowOf.nil⟩, ⟨Nat.le_refl _, by decide, RowOf.nil⟩, ⟨Nat.le_refl _, by decide, RowOf.nil⟩, ⟨Nat.le_refl _, by decide, RowOf.nil⟩, ⟨Nat.le_refl _, by decide, RowOf.nil⟩⟩
theorem below_set7 {w w' : World} (h : Below w.heap.size w w') (a b c d e f g : Value) :
    Below w.heap.size w (((((((w'.setCell ⟨w.heap.size, 0, none⟩ a).setCell ⟨w.heap.size, 1, none⟩ b).setCell ⟨w.heap.size, 2, none⟩ c).setCell ⟨w.heap.size, 3, none⟩ d).setCell ⟨w.heap.size, 4, none⟩ e).setCell ⟨w.heap.size, 5, none⟩ f).setCell ⟨w.heap.size, 6, none⟩ g) :=
  ((((((h.setCell (Nat.le_refl _) _).setCell (Nat.le_refl _) _).setCell (Nat.le_refl _) _).setCell (Nat.le_refl _) _).setCell (Nat.le_refl _) _).setCell (Nat.le_refl _) _).setCell (Nat.le_refl _) _

set_option maxHeartbeats 6400000 in
theorem idecode_any (l : List Int) (A : Option Addr) (cap B : Nat) (w : World) (hl : l.length ≤ 1048576) (hc : l.length ≤ cap) (hcap : cap ≤ 9223372036854775807) (hr : ∀ b ∈ l, 0 ≤ b ∧ b ≤ 255) (hA : A = none → cap = 0) (hB : B ≤ w.heap.size) (h : Lies w B A (l.map (Value.int .u8))) :
    Calls Try.prog 14 #[.slice A l.length cap] w (DecOut l w) := by
  have hs1 : (w.alloc img0O).heap.size = w.heap.size + 1 := by simp
  have kc := plim_conv (w.alloc img0O) (w.heap.size + 1) (by simp)
  have hW1 : Below w.heap.size w (w.alloc img0O) := (Below.refl _ _).alloc (Nat.le_refl _) _
  have hW2 : Below (w.alloc img0O).heap.size (w.alloc img0O) ((w.alloc img0O).alloc plimO') := (Below.refl _ _).alloc (Nat.le_refl _) _
  have HW := Lib.hid (hW1.trans (hW2.mono hW1.size))
  have HPL : Hid (Lies ((w.alloc img0O).alloc plimO') ((w.alloc img0O).alloc plimO').heap.size (some ⟨w.heap.size + 1, 0, none⟩) (plim.map (Value.int .u8))) := Lib.hid (by rw [← hs1]; exact plim_lies0 (Below.refl _ _))
  have HJ0 : Hid (((w.alloc img0O).alloc plimO').heap[w.heap.size]? = some (.cells img0L.toArray 28 (0, 0))) := Lib.hid ((hW2.block _ (by omega)).trans (heap_alloc_new _ _))
  have HL := Lib.hid ((h.below_to HW.out hB).more (Nat.le_trans hB HW.out.size))
  have HA := Lib.hid hA
  have HR := Lib.hid hr
  have HZ : Hid (w.heap.size < ((w.alloc img0O).alloc plimO').heap.size) := Lib.hid (by simp; omega)
  clear hs1 hW1 hW2 h hA hr hB
  by_cases hp : l.take 4 = plim
  · have HP := Lib.hid hp
    clear hp
    by_cases ho : 8192 < l.length
    · have E := Lib.hid (dec_is_long ho)
      go_enter Try.func14, Try.ntmps14
      go_upto_region 1 with fail
      go_wp2_with (go_at_call 39; (with_reducible refine (bcut_yes l A cap _ (w.heap.size + 1) _ hc hcap HR.out (Nat.le_refl _) HL.out HPL.out HP.out).mono ?_); rintro e w' ⟨A', cap', rfl, hl2, ha2, rfl⟩; have p0 := block_cell HJ0.out 0 _ rfl; have p1 := block_cell HJ0.out 1 _ rfl; have p2 := block_cell HJ0.out 2 _ rfl; have p3 := block_cell HJ0.out 3 _ rfl; have p4 := block_cell HJ0.out 4 _ rfl; have p5 := block_cell HJ0.out 5 _ rfl; have p6 := block_cell HJ0.out 6 _ rfl; have g0 := block_free HJ0.out 0; have g1 := block_free HJ0.out 1; have g2 := block_free HJ0.out 2; have g3 := block_free HJ0.out 3; have g4 := block_free HJ0.out 4; have g5 := block_free HJ0.out 5; have g6 := block_free HJ0.out 6; clear hl2 ha2)
      refine bodyPost_ret (v := .tuple #[imgV hnd0 img0, .int .i64 2]) (by simp [results, Try.results14, go_sem, p0, p1, p2, p3, p4, p5, p6, img0]) rfl ⟨hnd0, img0, 2, rfl, img0_in0 _ _, HW.out, E.out⟩
    · obtain ⟨D, hD⟩ : ∃ D, l.drop 4 = D := ⟨_, rfl⟩
      have HDE := Lib.hid hD
      have HDl : D.length ≤ 1048576 := by rw [← hD]; simp; omega
      have HBD : Hid (Bts D) := Lib.hid ⟨HDl, fun b hb => HR.out b (by rw [← hD] at hb; exact List.mem_of_mem_drop hb)⟩
      have HBr : Hid (∀ b ∈ D, 0 ≤ b ∧ b ≤ 255) := Lib.hid HBD.out.2
      have hl8 : Hid (l.length ≤ 8192) := Lib.hid (by omega)
      clear hD
      go_enter Try.func14, Try.ntmps14
      go_upto_region 1 with fail
      go_upto_region 6 with (first
        | (go_at_call 39; (with_reducible refine (bcut_yes l A cap _ (w.heap.size + 1) _ hc hcap HR.out (Nat.le_refl _) HL.out HPL.out HP.out).mono ?_); rintro e w' ⟨A', cap', he, hl2, ha2, rfl⟩; rw [HDE.out] at he hl2; subst he; have HL2 := Lib.hid hl2; have HA2 := Lib.hid ha2; clear hl2 ha2)
        | (go_at_call 40; (with_reducible refine (bnew_any D A' cap' _ _ HDl HBr.out HA2.out (Nat.le_refl _) HL2.out).mono ?_); rintro e w2 ⟨N, rfl, hN, hrd, hb⟩; have HRd := Lib.hid hrd; have HW2 := Lib.hid (HW.out.trans (hb.mono HW.out.size)); have HJ2 := Lib.hid ((hb.block _ HZ.out).trans HJ0.out); have HN := Lib.hid (Nat.lt_of_lt_of_le HZ.out hN); clear hrd hb hN)
        | (go_at_call 41; (with_reducible refine (gimg_any N D false _ HBD.out HRd.out).mono ?_); rintro e w3 ⟨m, hh, r', b', rfl, hi, hrd, hg, hrel⟩; have HI3 := Lib.hid hi; have HRd3 := Lib.hid hrd; have HG3 := Lib.hid hg; have HL3 := Lib.hid hrel; clear hi hrd hg hrel))
      have hz2 : w.heap.size < w2.heap.size := lt_of_block HJ2.out
      have hb3 : Below w.heap.size w w3 := HW2.out.trans (grown_below HG3.out (Nat.le_of_lt HN.out) HRd.out.lt)
      have hJ3 := block_far HJ2.out HG3.out (Nat.ne_of_lt HN.out)
      have hA4 : Below w3.heap.size w3 (w3.alloc (imgO hh m)) := (Below.refl _ _).alloc (Nat.le_refl _) _
      have HW4 := Lib.hid (hb3.trans (hA4.mono hb3.size))
      have HJ4 := Lib.hid ((hA4.block _ (lt_of_block hJ3)).trans hJ3)
      have HRd4 := Lib.hid (HRd3.out.keep hA4)
      have HI4 := Lib.hid (img_hole (S' := old w2) (w' := w3.alloc (imgO hh m)) HI3.out hA4.size fun b hb hs => ⟨hs, hA4.block b hb⟩)
      have HBX4 := Lib.hid (img_box w3 hh m)
      have HZ3 : Hid (w3.heap.size < (w3.alloc (imgO hh m)).heap.size) := Lib.hid (by simp)
      clear hb3 hJ3 hA4
      generalize w3.alloc (imgO hh m) = w4 at *
      obtain ⟨e1, he1⟩ : ∃ e1, (!b' && r'.isEmpty) = e1 := ⟨_, rfl⟩
      have HE1 := Lib.hid he1
      obtain ⟨e2, he2⟩ : ∃ e2, fitsB m = e2 := ⟨_, rfl⟩
      have HE2 := Lib.hid he2
      clear he1 he2
      have HGD : Hid (GRel encBody OkImg (l.drop 4) false m r' b') := Lib.hid (by rw [HDE.out]; exact HL3.out)
      obtain ⟨q0, q1, q2, q3, q4, q5, q6⟩ := HBX4.out
      cases e1
      · have E := Lib.hid (dec_is_bad (b := b') HGD.out (fun x => by have h := HE1.out; rw [x.1, x.2.1] at h; simp at h))
        go_wp2_with (go_at_call 42; (with_reducible refine (end_out HRd4 HE1).mono ?_); rintro e w5 ⟨rfl, hb⟩; have HW5 := Lib.hid (HW4.out.trans (hb.mono HW4.out.size)); have JJ := (hb.block _ (lt_of_block HJ4.out)).trans HJ4.out; have p0 := block_cell JJ 0 _ rfl; have g0 := block_free JJ 0; have p1 := block_cell JJ 1 _ rfl; have g1 := block_free JJ 1; have p2 := block_cell JJ 2 _ rfl; have g2 := block_free JJ 2; have p3 := block_cell JJ 3 _ rfl; have g3 := block_free JJ 3; have p4 := block_cell JJ 4 _ rfl; have g4 := block_free JJ 4; have p5 := block_cell JJ 5 _ rfl; have g5 := block_free JJ 5; have p6 := block_cell JJ 6 _ rfl; have g6 := block_free JJ 6; clear hb JJ)
        refine bodyPost_ret (v := .tuple #[imgV hnd0 img0, .int .i64 2]) (by simp [results, Try.results14, go_sem, p0, p1, p2, p3, p4, p5, p6, img0]) rfl ⟨hnd0, img0, 2, rfl, img0_in0 _ _, below_set7 HW5.out _ _ _ _ _ _ _, E.out⟩
      · cases e2
        · have E := Lib.hid (dec_is_bad (b := b') HGD.out (fun x => by have h := HE2.out; rw [x.2.2] at h; cases h))
          go_wp2_with (first
            | (go_at_call 42; (with_reducible refine (end_out HRd4 HE1).mono ?_); rintro e w5 ⟨rfl, hb⟩; have HW5 := Lib.hid (HW4.out.trans (hb.mono HW4.out.size)); have HJ5 := Lib.hid ((hb.block _ (lt_of_block HJ4.out)).trans HJ4.out); have HI5 := Lib.hid ((img_of_hole HI4.out).now hb); obtain ⟨q0, q1, q2, q3, q4, q5, q6⟩ := HBX4.out.keep hb HZ3.out; clear hb)
            | (go_at_call 12; (with_reducible refine (ifits_is0 HI5 HE2).mono ?_); rintro e w6 ⟨rfl, hb⟩; have HW6 := Lib.hid (HW5.out.trans (hb.mono HW5.out.size)); have JJ := (hb.block _ (lt_of_block HJ5.out)).trans HJ5.out; have p0 := block_cell JJ 0 _ rfl; have g0 := block_free JJ 0; have p1 := block_cell JJ 1 _ rfl; have g1 := block_free JJ 1; have p2 := block_cell JJ 2 _ rfl; have g2 := block_free JJ 2; have p3 := block_cell JJ 3 _ rfl; have g3 := block_free JJ 3; have p4 := block_cell JJ 4 _ rfl; have g4 := block_free JJ 4; have p5 := block_cell JJ 5 _ rfl; have g5 := block_free JJ 5; have p6 := block_cell JJ 6 _ rfl; have g6 := block_free JJ 6; clear hb JJ))
          refine bodyPost_ret (v := .tuple #[imgV hnd0 img0, .int .i64 2]) (by simp [results, Try.results14, go_sem, p0, p1, p2, p3, p4, p5, p6, img0]) rfl ⟨hnd0, img0, 2, rfl, img0_in0 _ _, below_set7 HW6.out _ _ _ _ _ _ _, E.out⟩
        · have hb' : b' = false ∧ r' = [] := by have h := HE1.out; cases b' <;> cases r' <;> simp at h ⊢
          obtain ⟨rfl, rfl⟩ := hb'
          have E := Lib.hid (dec_is_ok (b := false) hl8.out HGD.out HP.out HE2.out)
          go_wp2_with (first
            | (go_at_call 42; (with_reducible refine (end_out HRd4 HE1).mono ?_); rintro e w5 ⟨rfl, hb⟩; have HW5 := Lib.hid (HW4.out.trans (hb.mono HW4.out.size)); have HJ5 := Lib.hid ((hb.block _ (lt_of_block HJ4.out)).trans HJ4.out); have HI5h := Lib.hid (img_hole (S' := old w2) HI4.out hb.size fun b hb' hs => ⟨hs, hb.block b hb'⟩); have HI5 := Lib.hid (img_of_hole HI5h.out); have HBX5 := Lib.hid (HBX4.out.keep hb HZ3.out); have HZ5 := Lib.hid (Nat.lt_of_lt_of_le HZ3.out hb.size); obtain ⟨q0, q1, q2, q3, q4, q5, q6⟩ := HBX5.out; clear hb)
            | (go_at_call 12; (with_reducible refine (ifits_is0 HI5 HE2).mono ?_); rintro e w6 ⟨rfl, hb⟩; have HW6 := Lib.hid (HW5.out.trans (hb.mono HW5.out.size)); have JJ := (hb.block _ (lt_of_block HJ5.out)).trans HJ5.out; have HI6h := Lib.hid (img_hole (S' := old w2) HI5h.out hb.size fun b hb' hs => ⟨hs, hb.block b hb'⟩); obtain ⟨q0, q1, q2, q3, q4, q5, q6⟩ := HBX5.out.keep hb HZ5.out; have p0 := block_cell JJ 0 _ rfl; have g0 := block_free JJ 0; have p1 := block_cell JJ 1 _ rfl; have g1 := block_free JJ 1; have p2 := block_cell JJ 2 _ rfl; have g2 := block_free JJ 2; have p3 := block_cell JJ 3 _ rfl; have g3 := block_free JJ 3; have p4 := block_cell JJ 4 _ rfl; have g4 := block_free JJ 4; have p5 := block_cell JJ 5 _ rfl; have g5 := block_free JJ 5; have p6 := block_cell JJ 6 _ rfl; have g6 := block_free JJ 6; clear hb JJ))
          refine bodyPost_ret (v := .tuple #[imgV hh m, .int .i64 0]) (by simp [results, Try.results14, go_sem, p0, p1, p2, p3, p4, p5, p6]) rfl ⟨hh, m, 0, rfl, ?_, below_set7 HW6.out _ _ _ _ _ _ _, E.out⟩
          exact img_of_hole (img_hole (S' := old w2) HI6h.out (by simp) fun b hb hs => ⟨hs, by have := old_no.mp hs; rw [Below.heap_setCell _ _ _ _ (by show b ≠ w.heap.size; omega), Below.heap_setCell _ _ _ _ (by show b ≠ w.heap.size; omega), Below.heap_setCell _ _ _ _ (by show b ≠ w.heap.size; omega), Below.heap_setCell _ _ _ _ (by show b ≠ w.heap.size; omega), Below.heap_setCell _ _ _ _ (by show b ≠ w.heap.size; omega), Below.heap_setCell _ _ _ _ (by show b ≠ w.heap.size; omega), Below.heap_setCell _ _ _ _ (by show b ≠ w.heap.size; omega)]⟩)
  · have E := Lib.hid (dec_is_head hp)
    have HP := Lib.hid hp
    clear hp
    go_enter Try.func14, Try.ntmps14
    go_upto_region 1 with fail
    go_wp2_with (go_at_call 39; (with_reducible refine (bcut_no l A cap _ (w.heap.size + 1) _ hc hcap HR.out HL.out HPL.out HP.out).mono ?_); rintro e w' ⟨rfl, rfl⟩; have JJ := HJ0.out; have p0 := block_cell JJ 0 _ rfl; have g0 := block_free JJ 0; have p1 := block_cell JJ 1 _ rfl; have g1 := block_free JJ 1; have p2 := block_cell JJ 2 _ rfl; have g2 := block_free JJ 2; have p3 := block_cell JJ 3 _ rfl; have g3 := block_free JJ 3; have p4 := block_cell JJ 4 _ rfl; have g4 := block_free JJ 4; have p5 := block_cell JJ 5 _ rfl; have g5 := block_free JJ 5; have p6 := block_cell JJ 6 _ rfl; have g6 := block_free JJ 6; clear JJ)
    refine bodyPost_ret (v := .tuple #[imgV hnd0 img0, .int .i64 2]) (by simp [results, Try.results14, go_sem, p0, p1, p2, p3, p4, p5, p6, img0]) rfl ⟨hnd0, img0, 2, rfl, img0_in0 _ _, HW.out, E.out⟩
end Go.Proofs.Ytikljohgdgibnaa
