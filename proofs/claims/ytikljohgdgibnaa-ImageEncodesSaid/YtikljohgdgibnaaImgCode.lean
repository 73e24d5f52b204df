/-
  What the program's own image.Encode and Decode come to.
-/
import Derived.Test.YtikljohgdgibnaaImgPut
import Derived.Test.YtikljohgdgibnaaImgGets
import Derived.Test.YtikljohgdgibnaaImgFits
import Derived.Test.YtikljohgdgibnaaConv
import Derived.Test.YtikljohgdgibnaaImgOpenZ
namespace Go.Proofs.Ytikljohgdgibnaa
set_option maxRecDepth 100000
open Go.ChangeShapes Go.WideShapes Go.ChangeAt Go.RowKit
set_option linter.unusedVariables false

/-- Bytes in a row of the call's own, and an error. -/
def EncOut (m : Img) (w : World) (e : Ending) (w' : World) : Prop :=
  ∃ v, e = .returned (.tuple #[v, .int .i64 (encR m).2]) ∧ w'.ownsRow w.heap.size 5 1 v (encR m).1.length ((encR m).1.map (Value.int .u8)) ∧ Below w.heap.size w w'
def DecOut (l : List Int) (w : World) (e : Ending) (w' : World) : Prop :=
  ∃ h m er, e = .returned (.tuple #[imgV h m, .int .i64 er]) ∧ ImgIn w' w'.heap.size h m ∧ Below w.heap.size w w' ∧ DecIs l m er

theorem ifits_is0 {m : Img} {h : Hnd} {w : World} {r : Bool} (H : Hid (ImgIn w w.heap.size h m)) (HR : Hid (fitsB m = r)) :
    Calls Try.prog 12 #[imgV h m] w fun e w' => e = .returned (.bool r) ∧ Below w.heap.size w w' := by
  have h := ifits_any m h w.heap.size w (Nat.le_refl _) H.out
  rw [HR.out] at h
  exact h
theorem plim_lies0 {w w2 : World} (hb : Below (w.alloc plimO').heap.size (w.alloc plimO') w2) : Lies w2 w2.heap.size (some ⟨w.heap.size, 0, none⟩) (plim.map (Value.int .u8)) := fun j u hu => by
  have hz : (w.alloc plimO').heap.size = w.heap.size + 1 := by simp
  have := hb.size
  exact ⟨_, rfl, by show w.heap.size < _; omega, (hb.cell (p := Addr.add ⟨w.heap.size, 0, none⟩ j) (by rw [addr_add_block]; show w.heap.size < _; omega)).trans (plim_cells w j u hu)⟩
theorem iputImage_plim {N : Nat} {m : Img} {h : Hnd} {w : World} (hf : Hid (OkImg m)) (H : Hid (ImgIn w w.heap.size h m)) (ho : Hid (Lies w w.heap.size (some ⟨N, 0, none⟩) (plim.map (Value.int .u8)))) :
    Calls Try.prog 18 #[.slice (some ⟨N, 0, none⟩) 4 4, imgV h m] w (PutOut w.heap.size (encImg m) w) :=
  iputImage_any plim ⟨N, 0, none⟩ m h w.heap.size w (by decide) hf.out (Nat.le_refl _) H.out ho.out

set_option maxHeartbeats 3200000 in
theorem iencode_any (m : Img) (h : Hnd) (B : Nat) (w : World) (hB : B ≤ w.heap.size) (H : ImgIn w B h m) :
    Calls Try.prog 10 #[imgV h m] w (EncOut m w) := by
  have HOL := Lib.hid (img_ok H)
  have HM0 := Lib.hid (H.more hB)
  have HX0 := Lib.hid (Boxed.new HM0.out)
  have HW := Lib.hid (below_box (w := w) (h := h) (m := m))
  obtain ⟨r, hr⟩ : ∃ r, fitsB m = r := ⟨_, rfl⟩
  have R := Lib.hid hr
  clear hr H hB
  cases r
  · have E := Lib.hid (encR_not R.out)
    go_enter Try.func10, Try.ntmps10
    go_upto_region 1 with fail
    generalize w.alloc (imgO h m) = w1 at *
    obtain ⟨q0, q1, q2, q3, q4, q5, q6⟩ := HX0.out.box
    have HM1 := Lib.hid HX0.out.img
    go_wp2_with (go_at_call 12; (with_reducible refine (ifits_is0 HM1 R).mono ?_); rintro e w2 ⟨rfl, hb⟩; have HW := Lib.hid (HW.out.trans (hb.mono HW.out.size)); clear hb)
    go_ret2
    refine ⟨.slice none 0 0, by rw [E.out]; rfl, ?_, HW.out⟩
    rw [E.out]
    exact own_nil _ _
  · have HOk : Hid (OkImg m) := Lib.hid ⟨R.out, HOL.out⟩
    go_enter Try.func10, Try.ntmps10
    go_upto_region 1 with fail
    generalize w.alloc (imgO h m) = w1 at *
    obtain ⟨q0, q1, q2, q3, q4, q5, q6⟩ := HX0.out.box
    have HM1 := Lib.hid HX0.out.img
    go_upto_region 4 with (first
      | (go_at_call 12; (with_reducible refine (ifits_is0 HM1 R).mono ?_); rintro e w2 ⟨rfl, hb⟩; have kc := plim_conv w2 _ rfl; have hA : Below w2.heap.size w2 (w2.alloc plimO') := (Below.refl _ _).alloc (Nat.le_refl _) _; have HX3 := Lib.hid ((HX0.out.keep hb).keep hA); have HPL := Lib.hid (plim_lies0 (w := w2) (Below.refl (w2.alloc plimO').heap.size (w2.alloc plimO'))); have HM3 := Lib.hid HX3.out.img; have HW := Lib.hid ((HW.out.trans (hb.mono HW.out.size)).trans (hA.mono (HW.out.trans (hb.mono HW.out.size)).size)); obtain ⟨q0, q1, q2, q3, q4, q5, q6⟩ := HX3.out.box; clear hb hA)
      | (go_at_call 18; (with_reducible refine (iputImage_plim HOk HM3 HPL).mono ?_); rintro e w4 ⟨v4, rfl, ho, hb⟩; have HO := Lib.hid ho; have HW4 := Lib.hid (HW.out.trans (hb.mono HW.out.size)); have HZ4 := Lib.hid HW.out.size; clear ho hb))
    obtain ⟨X, hX⟩ : ∃ X, encImg m = X := ⟨_, rfl⟩
    have hXl : X.length ≤ 30000 := by rw [← hX]; exact encImg_len HOk.out
    have HXE := Lib.hid hX
    rw [hX] at HO
    clear hX
    obtain ⟨A, c, rfl, hL, hA⟩ := own_slice_nil HO.out
    have HO' := Lib.hid (own_lower HO.out HZ4.out)
    clear hL hA
    by_cases ho : 8192 < X.length
    · have E := Lib.hid (encR_over R.out (by rw [HXE.out]; exact ho))
      go_wp2_with fail
      go_ret2
      refine ⟨.slice none 0 0, by rw [E.out]; rfl, ?_, HW4.out⟩
      rw [E.out]
      exact own_nil _ _
    · have E := Lib.hid (encR_ok R.out (by rw [HXE.out]; exact ho))
      go_wp2_with fail
      go_ret2
      refine ⟨.slice A X.length c, by rw [E.out]; rfl, ?_, HW4.out⟩
      rw [E.out, HXE.out]
      exact HO'.out

theorem bequal_n (l m : List Int) (A A' : Option Addr) (cap cap' n n' B : Nat) (w : World) (hn : l.length = n) (hn' : m.length = n') (hr : ∀ b ∈ l, 0 ≤ b ∧ b ≤ 255) (hr' : ∀ b ∈ m, 0 ≤ b ∧ b ≤ 255)
    (h : Lies w B A (l.map (Value.int .u8))) (h' : Lies w B A' (m.map (Value.int .u8))) :
    Calls Try.prog 91 #[.slice A n cap, .slice A' n' cap'] w fun e w' => e = .returned (.bool (decide (l = m))) ∧ w = w' := by
  subst hn hn'
  have E := Lib.hid (str_eq hr hr')
  have k1 := conv_u8 (cap := cap) h
  have k2 := conv_u8 (cap := cap') h'
  clear hr hr' h h'
  go_enter Try.func91, Try.ntmps91
  go_wp2
  go_ret
  exact ⟨by rw [← E.out]; rfl, rfl⟩
theorem bprefix_any (l : List Int) (A : Option Addr) (cap B g : Nat) (w : World) (hl : l.length ≤ cap) (hc : cap ≤ 9223372036854775807) (hr : ∀ b ∈ l, 0 ≤ b ∧ b ≤ 255)
    (h : Lies w B A (l.map (Value.int .u8))) (h' : Lies w B (some ⟨g, 0, none⟩) (plim.map (Value.int .u8))) :
    Calls Try.prog 72 #[.slice A l.length cap, .slice (some ⟨g, 0, none⟩) 4 4] w fun e w' => e = .returned (.bool (decide (l.take 4 = plim))) ∧ w = w' := by
  by_cases h4 : l.length < 4
  · have E := Lib.hid (show decide (l.take 4 = plim) = false from decide_eq_false (fun e => by have := congrArg List.length e; simp [plim] at this; omega))
    go_enter Try.func72, Try.ntmps72
    go_wp2
    go_ret
    exact ⟨by rw [E.out]; rfl, rfl⟩
  · have HE := Lib.hid (fun c1 => bequal_n (l.take 4) plim A (some ⟨g, 0, none⟩) c1 4 4 4 B w (by rw [List.length_take]; omega) rfl (fun b hb => hr b (List.mem_of_mem_take hb)) (by simp [plim]) (by have := h.take_ 4; rwa [← List.map_take] at this) h')
    clear hr h h'
    go_enter Try.func72, Try.ntmps72
    go_wp2_with (go_at_call 91; (with_reducible refine (HE.out _).mono ?_); rintro e w' ⟨rfl, rfl⟩)
    go_ret
    exact ⟨rfl, rfl⟩
def CutPre (l : List Int) (w : World) (e : Ending) (w' : World) : Prop :=
  ∃ A' cap', e = .returned (.tuple #[.slice A' (l.drop 4).length cap', .bool true]) ∧ Lies w w.heap.size A' ((l.drop 4).map (Value.int .u8)) ∧ (A' = none → cap' = 0) ∧ w = w'
theorem bcut_no (l : List Int) (A : Option Addr) (cap B g : Nat) (w : World) (hl : l.length ≤ cap) (hc : cap ≤ 9223372036854775807) (hr : ∀ b ∈ l, 0 ≤ b ∧ b ≤ 255)
    (h : Lies w B A (l.map (Value.int .u8))) (h' : Lies w B (some ⟨g, 0, none⟩) (plim.map (Value.int .u8))) (hn : ¬ l.take 4 = plim) :
    Calls Try.prog 39 #[.slice A l.length cap, .slice (some ⟨g, 0, none⟩) 4 4] w fun e w' => e = .returned (.tuple #[.slice A l.length cap, .bool false]) ∧ w = w' := by
  have HE := Lib.hid (bprefix_any l A cap B g w hl hc hr h h')
  rw [decide_eq_false hn] at HE
  clear hr h h' hn
  go_enter Try.func39, Try.ntmps39
  go_wp2_with (go_at_call 72; (with_reducible refine HE.out.mono ?_); rintro e w' ⟨rfl, rfl⟩)
  go_ret2
  exact ⟨rfl, rfl⟩
theorem bcut_yes (l : List Int) (A : Option Addr) (cap B g : Nat) (w : World) (hl : l.length ≤ cap) (hc : cap ≤ 9223372036854775807) (hr : ∀ b ∈ l, 0 ≤ b ∧ b ≤ 255) (hB : B ≤ w.heap.size)
    (h : Lies w B A (l.map (Value.int .u8))) (h' : Lies w B (some ⟨g, 0, none⟩) (plim.map (Value.int .u8))) (hn : l.take 4 = plim) :
    Calls Try.prog 39 #[.slice A l.length cap, .slice (some ⟨g, 0, none⟩) 4 4] w (CutPre l w) := by
  have HE := Lib.hid (bprefix_any l A cap B g w hl hc hr h h')
  rw [decide_eq_true hn] at HE
  have h4 : 4 ≤ l.length := by have := congrArg List.length hn; simp [plim] at this; omega
  obtain ⟨ad, rfl, hab, _⟩ := h.at_ (k := 0) (by simp; omega)
  have HL := Lib.hid h
  have HB := Lib.hid hB
  have HD := Lib.hid (show (l.drop 4).length = l.length - 4 by simp)
  clear hr h h' hn hB
  by_cases hc4 : cap = 4
  · subst hc4
    have hl4 : l.length = 4 := by omega
    have HL4 := Lib.hid hl4
    rw [hl4]
    rw [hl4] at HE
    clear hl4
    go_enter Try.func39, Try.ntmps39
    go_wp2_with (go_at_call 72; (with_reducible refine HE.out.mono ?_); rintro e w' ⟨rfl, rfl⟩)
    go_ret2
    refine ⟨_, _, by rw [HD.out, HL4.out]; rfl, ?_, ?_, rfl⟩
    · rw [List.drop_eq_nil_of_le (by rw [HL4.out]; exact Nat.le_refl _)]
      exact Lies.nil
    · intro e
      first | rfl | cases e
  · go_enter Try.func39, Try.ntmps39
    go_wp2_with (go_at_call 72; (with_reducible refine HE.out.mono ?_); rintro e w' ⟨rfl, rfl⟩)
    go_ret2
    refine ⟨_, _, by rw [HD.out]; rfl, ?_, ?_, rfl⟩
    · have := (HL.out.drop_ 4).more HB.out
      rw [List.map_drop]
      exact this
    · intro e
      cases e
end Go.Proofs.Ytikljohgdgibnaa
