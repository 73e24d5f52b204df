/-
  When two lists of numbers are one, as the document says it.
  The document's own answers on calls, as statements use them; and the bounds of a sane image.
-/
import Derived.Test.YtjjgpcmdoodjnaaM14
import Derived.Test.YtjjgpcmdoodjnaaM27
import Derived.Test.YtjjgpcmdoodjnaaM35
import Derived.Test.YtjjgpcmdoodjnaaM36
namespace Go.Proofs.Ytjjgpcmdoodjnaa
set_option maxRecDepth 100000
set_option linter.unusedVariables false
set_option linter.unusedSimpArgs false
open Go.ChangeShapes Go.WideShapes Go.ChangeAt Go.RowKit
set_option linter.unusedVariables false

theorem rsameInts_any (l m : List Int) (A A' : Option Addr) (cap cap' B : Nat) (w : World) (hB : B ≤ w.heap.size) (h : SlcIs IntAt 1 w B A cap l) (h' : SlcIs IntAt 1 w B A' cap' m) :
    Calls Try.prog 9 #[.slice A l.length cap, .slice A' m.length cap'] w fun e w' => e = .returned (.bool (decide (l = m))) ∧ Below w.heap.size w w' := by
  have hlc := h.le
  have hcm := h.cap
  have hlc' := h'.le
  have hcm' := h'.cap
  have HL := Lib.hid h
  have HM := Lib.hid h'
  have HB := Lib.hid hB
  clear h h' hB
  obtain ⟨b, hb⟩ : ∃ b, decide (l = m) = b := ⟨_, rfl⟩
  rw [hb]
  have E := Lib.hid hb.symm
  clear hb
  by_cases hn : l.length = m.length
  · have HLN := Lib.hid hn
    have hlen : m.length = l.length := hn.symm
    rw [hlen]
    clear hn
    go_enter Try.func9, Try.ntmps9
    go_wp2
    go_loopw [5] (fun i wr => ∃ k : Nat, k ≤ l.length ∧ i = .int .i64 k ∧ Hid (l.take k = m.take k) ∧ Hid (Below w.heap.size w wr)) (fun i _ => l.length - (intOf i).toNat)
    case atStart => exact ⟨0, by omega, rfl, Lib.hid (by simp), Lib.hid (Below.refl _ _)⟩
    case round =>
      obtain ⟨k, hk, rfl, HN, HX⟩ := hrel
      by_cases hlt : k < l.length
      · have hltm : k < m.length := by omega
        obtain ⟨ad, rfl, hab, q0⟩ := (HL.out.below_to IntAt.keeps HX.out HB.out).row.at_ hlt
        obtain ⟨ad', rfl, hab', q0'⟩ := (HM.out.below_to IntAt.keeps HX.out HB.out).row.at_ hltm
        have HNE := Lib.hid (fun g => list_ne_at hlt hltm g)
        have HEQ := Lib.hid (fun g => take_both hlt hltm HN.out g)
        generalize l[k] = t at *
        generalize m[k] = s at *
        rw [Nat.mul_one] at q0 q0'
        have r0 : wr.cell? (ad.add k) = some (.int .i64 t) := q0
        have r0' : wr.cell? (ad'.add k) = some (.int .i64 s) := q0'
        by_cases hx : t = s
        · obtain rfl := hx
          have E2 := Lib.hid (HEQ.out rfl)
          go_wp2_with fail
          go_quiet (fail)
          go_wp2
          go_roundw
          case rel => exact ⟨k + 1, by omega, by go_num, E2, Lib.hid (below_drewN' HX.out _)⟩
          case measure => simp [intOf]; omega
        · have E2 := Lib.hid (show b = false by rw [E.out]; exact decide_eq_false (HNE.out (by simpa using hx)))
          go_wp2_with fail
          go_quiet (fail)
          go_wp2
          go_ret
          exact ⟨by rw [E2.out]; rfl, (below_drewN' HX.out _)⟩
      · have E2 := Lib.hid (show b = true by rw [E.out]; exact decide_eq_true (list_eq_ends HLN.out k HN.out (by omega)))
        go_wp2_with fail
        go_ret
        exact ⟨by rw [E2.out]; rfl, HX.out⟩
  · have E2 := Lib.hid (show b = false by rw [E.out]; exact decide_eq_false (fun g => hn (by rw [g])))
    have hn' : ((l.length : Int) == (m.length : Int)) = false := beq_eq_false_iff_ne.mpr (by omega)
    go_enter Try.func9, Try.ntmps9
    go_wp2
    go_ret
    exact ⟨by rw [E2.out]; rfl, Below.refl _ _⟩
end Go.Proofs.Ytjjgpcmdoodjnaa
namespace Go.Proofs.Ytjjgpcmdoodjnaa
set_option maxRecDepth 100000
set_option linter.unusedVariables false
set_option linter.unusedSimpArgs false
open Go.ChangeShapes Go.WideShapes Go.ChangeAt Go.RowKit
set_option linter.unusedVariables false

theorem cslcUp {α : Type} {At : AtP α} (hK : Keeps At) {k : Nat} {w w' : World} {A : Option Addr} {c : Nat} {l : List α} (h : SlcIs At k w w.heap.size A c l) (hb : Below w.heap.size w w') : SlcIs At k w' w'.heap.size A c l :=
  (h.below_to hK hb (Nat.le_refl _)).keep' hK hb.size (fun _ _ => rfl)
theorem saneB8_parts {m : Img} (h : saneB8 m = true) : m.methods.length ≤ 12 ∧ m.classes.length ≤ 8 := by
  unfold saneB8 at h
  simp only [Bool.and_eq_true, decide_eq_true_eq] at h
  exact ⟨h.1, h.2.1⟩
theorem redges_is {m : Img} {EL : List (List Int)} {n : Nat} {h : Hnd} {w0 w : World} (HI : Hid (ImgIn w0 w0.heap.size h m)) (HX : Hid (Below w0.heap.size w0 w)) (HS : Hid (saneB8 m = true)) (HL : Hid (edgesOf m = EL ∧ EL.length = n)) :
    Calls Try.prog 8 #[imgV h m] w fun e w' => ∃ A c, e = .returned (.slice A n c) ∧ SlcIs (SlcAt IntAt 1) 1 w' w'.heap.size A c EL ∧ Below w.heap.size w w' := by
  have h1 := saneB8_parts HS.out
  have h2 := saneB8_yes HS.out
  obtain ⟨rfl, rfl⟩ := HL.out
  exact redgesF_any m h w (HI.out.now HX.out) (by omega) (by omega) (fun x hx => by have := (h2.method hx).fits.cl; omega)
theorem rways_is {EL : List (List Int)} {n : Nat} {A : Option Addr} {c : Nat} {w : World} (H : Hid (SlcIs (SlcAt IntAt 1) 1 w w.heap.size A c EL)) (HN : Hid (EL.length = n)) (hl : n ≤ 1000) :
    Calls Try.prog 12 #[.slice A n c] w fun e w' => ∃ gO G W, e = .returned (.slice (some ⟨gO, 0, none⟩) n n) ∧ Below w.heap.size w w' ∧ SqIn w' gO n G W ∧ G.length = n ∧ WaysIn EL n n W ∧ w.heap.size ≤ gO ∧ ∀ g ∈ G, w.heap.size ≤ g := by
  exact rways_any EL n A c w H.out HN.out hl
theorem cints_is {l k : List Int} {n n' : Nat} {A A' : Option Addr} {c c' : Nat} {w : World} {r : Bool} (H : Hid (SlcIs IntAt 1 w w.heap.size A c l)) (H' : Hid (SlcIs IntAt 1 w w.heap.size A' c' k)) (HN : Hid (l.length = n ∧ k.length = n')) (HR : Hid (decide (l = k) = r)) :
    Calls Try.prog 9 #[.slice A n c, .slice A' n' c'] w fun e w' => e = .returned (.bool r) ∧ Below w.heap.size w w' := by
  obtain ⟨rfl, rfl⟩ := HN.out
  have h := rsameInts_any l k A A' c c' w.heap.size w (Nat.le_refl _) H.out H'.out
  rw [HR.out] at h
  exact h
theorem cints_same {l : List Int} {n n' : Nat} {A A' : Option Addr} {c c' : Nat} {w : World} (H : Hid (SlcIs IntAt 1 w w.heap.size A c l)) (H' : Hid (SlcIs IntAt 1 w w.heap.size A' c' l)) (HN : Hid (l.length = n ∧ l.length = n')) :
    Calls Try.prog 9 #[.slice A n c, .slice A' n' c'] w fun e w' => e = .returned (.bool true) ∧ Below w.heap.size w w' := cints_is H H' HN (Lib.hid (decide_eq_true rfl))
theorem slc_lies {w : World} {B : Nat} {A : Option Addr} {c : Nat} {l : List Int} (h : SlcIs IntAt 1 w B A c l) : Lies w B A (l.map (Value.int .i64)) := fun i v hi => by
  rw [List.getElem?_map] at hi
  cases hl : l[i]? with
  | none => rw [hl] at hi; cases hi
  | some x =>
    rw [hl] at hi
    injection hi with hi
    subst hi
    obtain ⟨ad, e, hb, hc⟩ := h.row i x hl
    exact ⟨ad, e, hb, by have hc : w.cell? (ad.add (i * 1)) = _ := hc; rw [Nat.mul_one] at hc; exact hc⟩
theorem cin_is {l : List Int} {n : Nat} {x : Int} {A : Option Addr} {c : Nat} {w : World} {r : Bool} (H : Hid (SlcIs IntAt 1 w w.heap.size A c l)) (HN : Hid (l.length = n)) (HR : Hid (inB l x = r)) :
    Calls Try.prog 13 #[.slice A n c, .int .i64 x] w fun e w' => e = .returned (.bool r) ∧ w = w' := by
  obtain rfl := HN.out
  have h := rin_any l x A c w.heap.size w (Nat.le_trans H.out.le H.out.cap) (slc_lies H.out)
  rw [HR.out] at h
  exact h
theorem inB_yes {l : List Int} {x : Int} (h : x ∈ l) : inB l x = true := decide_eq_true h
end Go.Proofs.Ytjjgpcmdoodjnaa
