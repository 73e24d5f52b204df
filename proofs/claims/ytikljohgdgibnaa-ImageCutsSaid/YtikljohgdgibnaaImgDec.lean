/-
  Plain facts of what Encode and Decode answer: an image's own bytes are it again; bytes that were turned, cut off or added to are none's, or another one's.
-/
import Derived.Test.YtikljohgdgibnaaEncMath
import Derived.Test.YtikljohgdgibnaaEncWords
namespace Go.Proofs.Ytikljohgdgibnaa
set_option maxRecDepth 100000
open Go.ChangeShapes Go.WideShapes Go.ChangeAt Go.RowKit
set_option linter.unusedVariables false

/-- What Encode answers: the bytes, and the error. -/
def encR (m : Img) : List Int × Int := if fitsB m = false then ([], 1) else if 8192 < (encImg m).length then ([], 12) else (encImg m, 0)
/-- The image that is none. -/
def img0 : Img := ⟨[], [], [], [], [], 0, 0⟩
/-- What Decode answers of bytes: the image that fits whose bytes these are, at most 8192; or none, and ErrImage. -/
def DecIs (l : List Int) (m : Img) (er : Int) : Prop :=
  (er = 0 ∧ fitsB m = true ∧ encImg m = l ∧ l.length ≤ 8192) ∨ (er = 2 ∧ m = img0 ∧ ∀ m', OkImg m' → encImg m' = l → 8192 < l.length)

theorem encR_not {m : Img} (h : fitsB m = false) : encR m = ([], 1) := if_pos h
theorem encR_over {m : Img} (h : fitsB m = true) (hl : 8192 < (encImg m).length) : encR m = ([], 12) := by
  unfold encR; rw [if_neg (by rw [h]; decide), if_pos hl]
theorem encR_ok {m : Img} (h : fitsB m = true) (hl : ¬ 8192 < (encImg m).length) : encR m = (encImg m, 0) := by
  unfold encR; rw [if_neg (by rw [h]; decide), if_neg hl]
theorem dec_own {m x : Img} {er : Int} (hm : OkImg m) (hl : ¬ 8192 < (encImg m).length) (hx : ∀ n ∈ x.ints, OkL n) (h : DecIs (encImg m) x er) : er = 0 ∧ x = m := by
  rcases h with ⟨h1, h2, h3, h4⟩ | ⟨h1, h2, h3⟩
  · exact ⟨h1, encImg_inj ⟨h2, hx⟩ hm h3⟩
  · exact absurd (h3 m hm rfl) hl
theorem dec_other {m x : Img} {l : List Int} {er : Int} (hl : ¬ l = encImg m) (h : DecIs l x er) : er = 2 ∨ (er = 0 ∧ ¬ x = m) := by
  rcases h with ⟨h1, h2, h3, h4⟩ | ⟨h1, h2, h3⟩
  · exact .inr ⟨h1, fun e => hl (by rw [← h3, e])⟩
  · exact .inl h1
theorem dec_cut {m x : Img} {er : Int} {k : Nat} (hm : OkImg m) (hk : k < (encImg m).length) (hx : ∀ n ∈ x.ints, OkL n) (h : DecIs ((encImg m).take k) x er) : er = 2 := by
  rcases h with ⟨h1, h2, h3, h4⟩ | ⟨h1, h2, h3⟩
  · have e := encImg_prefix (x := x) (y := m) (r := (encImg m).drop k) ⟨h2, hx⟩ hm (by rw [h3, List.take_append_drop])
    have := congrArg List.length e.2
    rw [List.length_drop] at this
    simp at this
    omega
  · exact h1
theorem dec_more {m x : Img} {er : Int} {r : List Int} (hm : OkImg m) (hr : 0 < r.length) (hx : ∀ n ∈ x.ints, OkL n) (h : DecIs (encImg m ++ r) x er) : er = 2 := by
  rcases h with ⟨h1, h2, h3, h4⟩ | ⟨h1, h2, h3⟩
  · have e := encImg_prefix (x := m) (y := x) (r := r) hm ⟨h2, hx⟩ h3.symm
    rw [e.2] at hr
    simp at hr
  · exact h1
theorem encImg_range (m : Img) : ∀ b ∈ encImg m, 0 ≤ b ∧ b ≤ 255 := by
  have hT : ∀ t, ∀ b ∈ encT t, 0 ≤ b ∧ b ≤ 255 := fun t b hb => by
    unfold encT at hb
    split at hb
    · rcases List.mem_append.mp hb with g | g <;> exact bytesOf_range _ b g
    · exact bytesOf_range _ b hb
  have hTs : ∀ l, ∀ b ∈ encTs l, 0 ≤ b ∧ b ≤ 255 := fun l b hb => by
    unfold encTs at hb
    rcases List.mem_append.mp hb with g | g
    · exact bytesOf_range _ b g
    · obtain ⟨t, _, g⟩ := List.mem_flatMap.mp g
      exact hT t b g
  have hNs : ∀ l, ∀ b ∈ encNs l, 0 ≤ b ∧ b ≤ 255 := fun l b hb => by
    unfold encNs at hb
    rcases List.mem_append.mp hb with g | g
    · exact bytesOf_range _ b g
    · obtain ⟨t, _, g⟩ := List.mem_flatMap.mp g
      exact bytesOf_range _ b g
  have hC : ∀ c, ∀ b ∈ encC c, 0 ≤ b ∧ b ≤ 255 := fun c b hb => by
    unfold encC at hb
    rcases List.mem_append.mp hb with g | g
    · exact bytesOf_range _ b g
    · rcases List.mem_append.mp g with g | g
      · exact hTs _ b g
      · exact hNs _ b g
  have hM : ∀ x, ∀ b ∈ encM x, 0 ≤ b ∧ b ≤ 255 := fun x b hb => by
    unfold encM at hb
    simp only [List.mem_append, List.mem_flatMap] at hb
    rcases hb with g | g | g | g | ⟨i, _, g⟩ | g | g | g
    · exact hTs _ b g
    · exact hTs _ b g
    · exact hT _ b g
    · exact bytesOf_range _ b g
    · exact putI_range _ _ _ b g
    · exact bytesOf_range _ b g
    · exact bytesOf_range _ b g
    · exact hNs _ b g
  intro b hb
  unfold encImg at hb
  simp only [List.mem_append, List.mem_flatMap] at hb
  rcases hb with g | g | ⟨c, _, g⟩ | g | g | ⟨c, _, g⟩ | g | ⟨c, _, g⟩ | g | g | g
  · simp [plim] at g; omega
  · exact bytesOf_range _ b g
  · exact hC _ b g
  · exact hTs _ b g
  · exact bytesOf_range _ b g
  · exact bytesOf_range _ b g
  · exact bytesOf_range _ b g
  · exact hM _ b g
  · exact hNs _ b g
  · exact bytesOf_range _ b g
  · exact bytesOf_range _ b g
theorem encImg_pos (m : Img) : 4 < (encImg m).length := by
  have := bytesOf_pos m.classes.length
  unfold encImg plim
  simp only [List.length_append, List.length_cons, List.length_nil]
  omega
theorem dec_plim {x : Img} {er : Int} (h : DecIs plim x er) : er = 2 := by
  rcases h with ⟨h1, h2, h3, h4⟩ | ⟨h1, h2, h3⟩
  · have := encImg_pos x
    rw [h3] at this
    simp [plim] at this
  · exact h1
theorem img_ok {w : World} {B : Nat} {h : Hnd} {m : Img} (H : ImgIn w B h m) : ∀ n ∈ m.ints, OkL n := fun n hn => by
  obtain ⟨i, hi⟩ := List.getElem?_of_mem hn
  obtain ⟨_, _, _, _, b0, b1⟩ := H.ints.row i n hi
  exact ⟨b0, b1⟩
/-- An image that fits is of some 20,000 bytes at most. -/
theorem encImg_len {m : Img} (h : OkImg m) : (encImg m).length ≤ 30000 := by
  have F := imgFits h.1
  have l0 := bytesOf_len9 (n := m.classes.length) (by have := F.cl; omega)
  have l1 := flat_len (f := encC) (c := 250) m.classes fun c hc => encC_len (F.ct c hc)
  have l2 := encTs_len (l := m.statics) (fun t ht => by have := F.st t ht; omega) (by have := F.sl; omega)
  have l3 := bytesOf_len9 (n := m.ints.length) (by have := F.il; omega)
  have l4 := flat_len (f := encL) (c := 9) m.ints fun n hn => bytesOf_len9 (by have := h.2 n hn; have := zig_hi this.1 this.2; omega)
  have l5 := bytesOf_len9 (n := m.methods.length) (by have := F.ml; omega)
  have l6 := flat_len (f := encM) (c := 1500) m.methods fun x hx => encM_len (F.mt x hx)
  have l7 := encNs_len (l := m.entries) (fun t ht => by have := F.et t ht; omega) (by have := F.el; omega)
  have l8 := bytesOf_len9 (n := m.stack.toNat) (by have := F.k1; omega)
  have l9 := bytesOf_len9 (n := m.heap.toNat) (by have := F.h1; omega)
  have := F.cl
  have := F.sl
  have := F.il
  have := F.ml
  have := F.el
  unfold encImg plim
  simp only [List.length_append, List.length_cons, List.length_nil]
  omega
end Go.Proofs.Ytikljohgdgibnaa
