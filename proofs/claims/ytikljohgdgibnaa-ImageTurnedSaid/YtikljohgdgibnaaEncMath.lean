/-
  Plain facts of an image's bytes: no two images that fit have the same, and no image's bytes begin with another's.
-/
import Derived.Test.YtikljohgdgibnaaEncDefs
namespace Go.Proofs.Ytikljohgdgibnaa
set_option maxRecDepth 100000
set_option linter.unusedVariables false

/-- What begins so began with this: things are told from their bytes, and from what is behind them. -/
def Pre {α : Type} (f : α → List Int) (ok : α → Prop) : Prop := ∀ x y r s, ok x → ok y → f x ++ r = f y ++ s → x = y ∧ r = s
theorem pre_bytes : Pre (fun n : Nat => bytesOf n) (fun n => n < 34359738368) := fun x y r s hx hy h => by
  have h1 := next_bytes r hx
  have h2 := next_bytes s hy
  dsimp only at h
  rw [h] at h1
  have e := h1.symm.trans h2
  have exy : x = y := (Prod.mk.inj e).1
  subst exy
  exact ⟨rfl, List.append_cancel_left h⟩
theorem pre_num {n m : Int} {r s : List Int} (h0 : 0 ≤ n) (h1 : n < 34359738368) (g0 : 0 ≤ m) (g1 : m < 34359738368) (h : bytesOf n.toNat ++ r = bytesOf m.toNat ++ s) : n = m ∧ r = s := by
  obtain ⟨e, hr⟩ := pre_bytes n.toNat m.toNat r s (by omega) (by omega) h
  exact ⟨by omega, hr⟩
theorem pre_list {α : Type} {f : α → List Int} {ok : α → Prop} (hf : Pre f ok) : ∀ (l m : List α) (r s : List Int), l.length = m.length → (∀ x ∈ l, ok x) → (∀ x ∈ m, ok x) → l.flatMap f ++ r = m.flatMap f ++ s → l = m ∧ r = s
  | [], [], r, s, _, _, _, h => ⟨rfl, by simpa using h⟩
  | x :: l, y :: m, r, s, hl, ho, hp, h => by
    rw [List.flatMap_cons, List.flatMap_cons, List.append_assoc, List.append_assoc] at h
    obtain ⟨e, h⟩ := hf x y _ _ (ho x List.mem_cons_self) (hp y List.mem_cons_self) h
    obtain ⟨e2, h⟩ := pre_list hf l m r s (by simpa using hl) (fun z hz => ho z (List.mem_cons_of_mem _ hz)) (fun z hz => hp z (List.mem_cons_of_mem _ hz)) h
    exact ⟨by rw [e, e2], h⟩
  | [], _ :: _, _, _, hl, _, _, _ => by simp at hl
  | _ :: _, [], _, _, hl, _, _, _ => by simp at hl
/-- How many, and each. -/
theorem pre_many {α : Type} {f : α → List Int} {ok : α → Prop} (hf : Pre f ok) (l m : List α) (r s : List Int) (hl : l.length ≤ 10000) (hm : m.length ≤ 10000) (ho : ∀ x ∈ l, ok x) (hp : ∀ x ∈ m, ok x)
    (h : bytesOf l.length ++ (l.flatMap f ++ r) = bytesOf m.length ++ (m.flatMap f ++ s)) : l = m ∧ r = s := by
  obtain ⟨e, h⟩ := pre_bytes l.length m.length _ _ (by omega) (by omega) h
  exact pre_list hf l m r s e ho hp h

def OkT (t : Int × Int) : Prop := typB t = true
theorem pre_T : Pre encT OkT := fun x y r s hx hy h => by
  have bx := of_decide_eq_true hx
  have by_ := of_decide_eq_true hy
  obtain ⟨k, n⟩ := x
  obtain ⟨k', n'⟩ := y
  dsimp only at bx by_
  unfold encT at h
  dsimp only at h
  by_cases h3 : k = 3
  · by_cases h3' : k' = 3
    · subst h3 h3'
      rw [if_pos rfl, if_pos rfl, List.append_assoc, List.append_assoc] at h
      have h := List.append_cancel_left h
      obtain ⟨e, h⟩ := pre_num (by omega) (by omega) (by omega) (by omega) h
      exact ⟨by rw [e], h⟩
    · subst h3
      rw [if_pos rfl, if_neg h3', List.append_assoc] at h
      obtain ⟨e, _⟩ := pre_num (n := 3) (by omega) (by omega) (by omega) (by omega) h
      omega
  · by_cases h3' : k' = 3
    · subst h3'
      rw [if_neg h3, if_pos rfl, List.append_assoc] at h
      obtain ⟨e, _⟩ := pre_num (m := 3) (by omega) (by omega) (by omega) (by omega) h
      omega
    · rw [if_neg h3, if_neg h3'] at h
      obtain ⟨e, h⟩ := pre_num (by omega) (by omega) (by omega) (by omega) h
      exact ⟨by rw [e, show n = n' by omega], h⟩
def OkN (n : Int) : Prop := 0 ≤ n ∧ n ≤ 4096
theorem pre_N : Pre bytesN OkN := fun x y r s hx hy h => by
  unfold OkN at hx hy
  exact pre_num (by omega) (by omega) (by omega) (by omega) h
def OkI (i : Int × Int × Int) : Prop := instrB i.1 i.2.1 i.2.2 = true
theorem pre_I : Pre encI1 OkI := fun x y r s hx hy h => by
  have h1 := getI_put r hx
  have h2 := getI_put s hy
  unfold encI1 at h
  rw [h] at h1
  have e := h1.symm.trans h2
  simp only [Prod.mk.injEq] at e
  obtain ⟨⟨e0, e1, e2⟩, e3, _⟩ := e
  exact ⟨Prod.ext e0 (Prod.ext e1 e2), e3⟩
def OkL (n : Int) : Prop := -2147483648 ≤ n ∧ n ≤ 2147483647
theorem pre_L : Pre encL OkL := fun x y r s hx hy h => by
  have hx1 := zig_hi hx.1 hx.2
  have hy1 := zig_hi hy.1 hy.2
  have hx0 := zig_lo (n := x)
  have hy0 := zig_lo (n := y)
  obtain ⟨e, h⟩ := pre_num (by omega) (by omega) (by omega) (by omega) h
  exact ⟨by rw [← zag_zig x, e, zag_zig], h⟩
theorem pre_Ts {l m : List (Int × Int)} {r s : List Int} (hl : l.length ≤ 10000) (hm : m.length ≤ 10000) (ho : ∀ x ∈ l, OkT x) (hp : ∀ x ∈ m, OkT x) (h : encTs l ++ r = encTs m ++ s) : l = m ∧ r = s := by
  unfold encTs at h
  rw [List.append_assoc, List.append_assoc] at h
  exact pre_many pre_T l m r s hl hm ho hp h
theorem pre_Ns {l m : List Int} {r s : List Int} (hl : l.length ≤ 10000) (hm : m.length ≤ 10000) (ho : ∀ x ∈ l, OkN x) (hp : ∀ x ∈ m, OkN x) (h : encNs l ++ r = encNs m ++ s) : l = m ∧ r = s := by
  unfold encNs at h
  rw [List.append_assoc, List.append_assoc] at h
  exact pre_many pre_N l m r s hl hm ho hp h

def OkC (c : Cls) : Prop := clsB c = true
theorem okC {c : Cls} (h : OkC c) : -1 ≤ c.sup ∧ c.sup ≤ 7 ∧ c.fields.length ≤ 8 ∧ (∀ t ∈ c.fields, OkT t) ∧ c.slots.length ≤ 4 ∧ ∀ n ∈ c.slots, OkN n := by
  have hf := clsFits h
  unfold OkC clsB at h
  simp only [Bool.and_eq_true] at h
  have h2 := (of_decide_eq_true h.2.1 : _ ∧ _).2
  exact ⟨hf.sup0, hf.sup1, hf.fl, h2, hf.sl, fun n hn => by have := hf.st n hn; unfold OkN; omega⟩
theorem pre_C : Pre encC OkC := fun x y r s hx hy h => by
  obtain ⟨a0, a1, a2, a3, a4, a5⟩ := okC hx
  obtain ⟨b0, b1, b2, b3, b4, b5⟩ := okC hy
  unfold encC at h
  simp only [List.append_assoc] at h
  obtain ⟨e0, h⟩ := pre_num (by omega) (by omega) (by omega) (by omega) h
  obtain ⟨e1, h⟩ := pre_Ts (by omega) (by omega) a3 b3 h
  obtain ⟨e2, hz⟩ := pre_Ns (by omega) (by omega) a5 b5 h
  obtain ⟨p, q, u⟩ := x
  obtain ⟨p', q', u'⟩ := y
  dsimp only at e0 e1 e2
  refine ⟨?_, hz⟩
  rw [e1, e2, show p = p' by omega]
def OkM (x : Mth) : Prop := mthB x = true
theorem okM {x : Mth} (h : OkM x) : (x.args.length ≤ 4 ∧ ∀ t ∈ x.args, OkT t) ∧ (x.locals.length ≤ 8 ∧ ∀ t ∈ x.locals, OkT t) ∧ OkT x.ret ∧ (x.code.length ≤ 64 ∧ ∀ i ∈ x.code, OkI i) ∧ (0 ≤ x.depth ∧ x.depth ≤ 8) ∧ (0 ≤ x.pot ∧ x.pot ≤ 4096) ∧ (x.phi.length ≤ 64 ∧ ∀ n ∈ x.phi, OkN n) := by
  have hf := mthFits h
  unfold OkM mthB at h
  simp only [Bool.and_eq_true] at h
  obtain ⟨h1, h2, h3, _⟩ := h
  exact ⟨⟨hf.al, (of_decide_eq_true h1 : _ ∧ _).2⟩, ⟨hf.ll, (of_decide_eq_true h2 : _ ∧ _).2⟩, h3, ⟨hf.cl, hf.ct⟩, ⟨hf.d0, hf.d1⟩, ⟨hf.p0, hf.p1⟩, hf.pl, fun n hn => hf.pt n hn⟩
theorem pre_M : Pre encM OkM := fun x y r s hx hy h => by
  obtain ⟨⟨a0, a1⟩, ⟨a2, a3⟩, a4, ⟨a5, a6⟩, ⟨a7, a8⟩, ⟨a9, aa⟩, ab, ac⟩ := okM hx
  obtain ⟨⟨b0, b1⟩, ⟨b2, b3⟩, b4, ⟨b5, b6⟩, ⟨b7, b8⟩, ⟨b9, ba⟩, bb, bc⟩ := okM hy
  unfold encM at h
  simp only [List.append_assoc] at h
  obtain ⟨e0, h⟩ := pre_Ts (by omega) (by omega) a1 b1 h
  obtain ⟨e1, h⟩ := pre_Ts (by omega) (by omega) a3 b3 h
  obtain ⟨e2, h⟩ := pre_T _ _ _ _ a4 b4 h
  obtain ⟨e3, h⟩ := pre_many pre_I _ _ _ _ (by omega) (by omega) a6 b6 h
  obtain ⟨e4, h⟩ := pre_num (by omega) (by omega) (by omega) (by omega) h
  obtain ⟨e5, h⟩ := pre_num (by omega) (by omega) (by omega) (by omega) h
  obtain ⟨e6, hz⟩ := pre_Ns (by omega) (by omega) ac bc h
  obtain ⟨x0, x1, x2, x3, x4, x5, x6⟩ := x
  obtain ⟨y0, y1, y2, y3, y4, y5, y6⟩ := y
  dsimp only at e0 e1 e2 e3 e4 e5 e6
  exact ⟨by rw [e0, e1, e2, e3, e4, e5, e6], hz⟩
/-- An image whose ints are of 32 bits, as all that come from memory are. -/
def OkImg (m : Img) : Prop := fitsB m = true ∧ ∀ n ∈ m.ints, OkL n
theorem pre_Img : Pre encImg OkImg := fun x y r s hx hy h => by
  have fx := imgFits hx.1
  have fy := imgFits hy.1
  have hx1 := hx.1
  have hy1 := hy.1
  unfold fitsB headB at hx1 hy1
  simp only [Bool.and_eq_true] at hx1 hy1
  obtain ⟨⟨_, _, _, sx, _⟩, cx, mx⟩ := hx1
  obtain ⟨⟨_, _, _, sy, _⟩, cy, my⟩ := hy1
  have sx := (of_decide_eq_true sx : _ ∧ _).2
  have sy := (of_decide_eq_true sy : _ ∧ _).2
  have cx := List.all_eq_true.mp cx
  have cy := List.all_eq_true.mp cy
  have mx := List.all_eq_true.mp mx
  have my := List.all_eq_true.mp my
  have := fx.cl; have := fx.sl; have := fx.il; have := fx.ml; have := fx.el; have := fx.k0; have := fx.k1; have := fx.h0; have := fx.h1
  have := fy.cl; have := fy.sl; have := fy.il; have := fy.ml; have := fy.el; have := fy.k0; have := fy.k1; have := fy.h0; have := fy.h1
  unfold encImg at h
  simp only [List.append_assoc] at h
  have h := List.append_cancel_left h
  obtain ⟨e0, h⟩ := pre_many pre_C _ _ _ _ (by omega) (by omega) cx cy h
  obtain ⟨e1, h⟩ := pre_Ts (by omega) (by omega) sx sy h
  obtain ⟨e2, h⟩ := pre_many pre_L _ _ _ _ (by omega) (by omega) hx.2 hy.2 h
  obtain ⟨e3, h⟩ := pre_many pre_M _ _ _ _ (by omega) (by omega) mx my h
  obtain ⟨e4, h⟩ := pre_Ns (by omega) (by omega) (fun n hn => by have := fx.et n hn; unfold OkN; omega) (fun n hn => by have := fy.et n hn; unfold OkN; omega) h
  obtain ⟨e5, h⟩ := pre_num (by omega) (by omega) (by omega) (by omega) h
  obtain ⟨e6, hz⟩ := pre_num (by omega) (by omega) (by omega) (by omega) h
  obtain ⟨x0, x1, x2, x3, x4, x5, x6⟩ := x
  obtain ⟨y0, y1, y2, y3, y4, y5, y6⟩ := y
  dsimp only at e0 e1 e2 e3 e4 e5 e6
  exact ⟨by rw [e0, e1, e2, e3, e4, e5, e6], hz⟩
/-- No two images have the same bytes, and none's begin with another's. -/
theorem encImg_inj {x y : Img} (hx : OkImg x) (hy : OkImg y) (h : encImg x = encImg y) : x = y :=
  (pre_Img x y [] [] hx hy (by rw [h])).1
theorem encImg_prefix {x y : Img} {r : List Int} (hx : OkImg x) (hy : OkImg y) (h : encImg x ++ r = encImg y) : x = y ∧ r = [] :=
  pre_Img x y r [] hx hy (by simpa using h)
end Go.Proofs.Ytikljohgdgibnaa
