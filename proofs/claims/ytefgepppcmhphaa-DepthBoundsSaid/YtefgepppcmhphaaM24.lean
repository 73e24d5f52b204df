/-
  What the document's own answer for what an instruction takes and gives (Rule) comes to, at any instruction of a sane image.
  What the document's own step (Step) comes to: words.
  What a step comes to when the stack holds more below. Plain lemmas; no conditions.
  Plain facts of when a type fits another: through a third, itself. No conditions.
  What a step comes to when the stack's types fit another stack's. Plain lemmas; no conditions.
  What an instruction of a sane image gives is a type that fits itself. Plain lemmas; no conditions.
  Shapes, and whether types are right, as plain data. Plain definitions and lemmas; no conditions.
  Shapes that are not too many, as plain data. Plain definitions and lemmas; no conditions.
  The cells of a method's frame, and what a method, with all that it comes to, takes: as plain data. Plain definitions and lemmas; no conditions.
-/
import Derived.Test.YtefgepppcmhphaaM18
import Derived.Test.YtefgepppcmhphaaM19
import Derived.Test.YtefgepppcmhphaaM21
import Derived.Test.YtefgepppcmhphaaM22
import Derived.Test.YtefgepppcmhphaaM23
import Derived.Test.YtefgepppcmhphaaM13
import Derived.Test.YtefgepppcmhphaaM14
import Derived.RegionTactic
import Derived.ChangeAlike
import Derived.Deep.RegionHeld3
import Derived.Deep.QuietTactic
import Derived.BigQuiet
import Derived.IntWalk
import Derived.Test.YtefgepppcmhphaaM16
namespace Go.Proofs.Ytefgepppcmhphaa
set_option maxRecDepth 100000
set_option linter.unusedVariables false
set_option linter.unusedSimpArgs false
open Go.ChangeShapes Go.WideShapes Go.ChangeAt Go.RowKit

theorem named_get {m : Img} {x : Mth} {a b : Int} {op : Int} (ho : op = 3 ∨ op = 4) (h : namedB m x op a b = true) : a < x.args.length + x.locals.length := by
  rcases ho with rfl | rfl <;> simpa [namedB] using h
theorem named_static {m : Img} {x : Mth} {a b : Int} {op : Int} (ho : op = 29 ∨ op = 30) (h : namedB m x op a b = true) : a < m.statics.length := by
  rcases ho with rfl | rfl <;> simpa [namedB] using h
theorem named_class {m : Img} {x : Mth} {a b : Int} {op : Int} (ho : op = 22 ∨ op = 34) (h : namedB m x op a b = true) : a < m.classes.length := by
  rcases ho with rfl | rfl <;> simpa [namedB] using h
theorem named_field {m : Img} {x : Mth} {a b : Int} {op : Int} (ho : op = 27 ∨ op = 28) (h : namedB m x op a b = true) : a < m.classes.length ∧ b < (fieldsOf m.classes a).length := by
  rcases ho with rfl | rfl <;> simpa [namedB] using h
theorem named_jump {m : Img} {x : Mth} {a b : Int} {op : Int} (ho : op = 18 ∨ op = 19) (h : namedB m x op a b = true) : a < x.code.length := by
  rcases ho with rfl | rfl <;> simpa [namedB] using h
theorem named_call {m : Img} {x : Mth} {a b : Int} (h : namedB m x 31 a b = true) : a < m.methods.length := by simpa [namedB] using h
theorem named_virt {m : Img} {x : Mth} {a b : Int} (hm : SaneI m) (a0 : 0 ≤ a) (b0 : 0 ≤ b) (h : namedB m x 32 a b = true) :
    a < m.classes.length ∧ ∃ (k : Nat) (y : Mth), slotOf m.classes a b = some (k : Int) ∧ m.methods[k]? = some y ∧ 0 < y.args.length := by
  simp [namedB] at h
  obtain ⟨h1, h2⟩ := h
  obtain ⟨i, rfl⟩ := Int.eq_ofNat_of_zero_le a0
  obtain ⟨j, rfl⟩ := Int.eq_ofNat_of_zero_le b0
  have hi : i < m.classes.length := by omega
  unfold slotsN at h2
  rw [Int.toNat_natCast, List.getElem?_eq_getElem hi] at h2
  dsimp only at h2
  have hj : j < m.classes[i].slots.length := by omega
  have hc := hm.cls i _ (List.getElem?_eq_getElem hi)
  obtain ⟨y, hy, ha⟩ := cls_slots hc _ (List.getElem_mem hj)
  have hs := ((hm.fits.ct _ (List.getElem_mem hi)).st _ (List.getElem_mem hj)).1
  obtain ⟨k, hk⟩ := Int.eq_ofNat_of_zero_le hs
  refine ⟨h1, k, y, by rw [slotOf_yes hi hj, hk], ?_, ha⟩
  rw [hk, Int.toNat_natCast] at hy
  exact hy

theorem rule_any (m : Img) (x : Mth) (f : Nat) (op a b : Int) (h : Hnd) (w : World) (H : ImgIn w w.heap.size h m) (hm : SaneI m) (hg : m.methods[f]? = some x) (hi : instrB op a b = true) (hn : namedB m x op a b = true) :
    Calls Try.prog 52 #[imgV h m, .int .i64 f, insV op a b] w (TwoTypes (takeOf m x op a b) (giveOf m x op a b) w) := by
  obtain ⟨o0, o1, a0, a1, b0, b1⟩ := instr_bounds hi
  have hx := hm.method (List.mem_of_getElem? hg)
  have hal : x.args.length ≤ 1048576 := by have := hx.fits.al; omega
  have hll : x.locals.length ≤ 1048576 := by have := hx.fits.ll; omega
  have hcl : m.classes.length ≤ 1000 := by have := hm.fits.cl; omega
  have hfl : ∀ c ∈ m.classes, c.fields.length ≤ 1000 := fun c hc => by have := (hm.fits.ct c hc).fl; omega
  by_cases hmath : 7 ≤ op ∧ op ≤ 17
  · exact rule_math m x f op a b hmath.1 hmath.2 h w H
  · have hc : op = 1 ∨ op = 2 ∨ op = 3 ∨ op = 4 ∨ op = 5 ∨ op = 6 ∨ op = 18 ∨ op = 19 ∨ op = 20 ∨ op = 21 ∨ op = 22 ∨ op = 23 ∨ op = 24 ∨ op = 25 ∨ op = 26 ∨ op = 27 ∨ op = 28 ∨ op = 29 ∨ op = 30 ∨ op = 31 ∨ op = 32 ∨ op = 33 ∨ op = 34 := by omega
    rcases hc with rfl | rfl | rfl | rfl | rfl | rfl | rfl | rfl | rfl | rfl | rfl | rfl | rfl | rfl | rfl | rfl | rfl | rfl | rfl | rfl | rfl | rfl | rfl
    · exact rule_1 m x f a b h w
    · exact rule_2 m x f a b h w
    · exact rule_3 m x f a b hg hal hll (by omega) h w H
    · exact rule_4 m x f a b hg hal hll (by omega) h w H
    · exact rule_5 m x f a b h w
    · exact rule_6 m x f a b h w
    · exact rule_18 m x f a b h w
    · exact rule_19 m x f a b h w
    · exact rule_20 m x f a b h w
    · exact rule_21 m x f a b h w
    · exact rule_22 m x f a b h w
    · exact rule_23 m x f a b h w
    · exact rule_24 m x f a b h w
    · exact rule_25 m x f a b h w
    · exact rule_26 m x f a b h w
    · obtain ⟨k, rfl⟩ := Int.eq_ofNat_of_zero_le b0
      exact rule_27 m x f a k (by have := (named_field (op := 27) (by omega) hn).2; omega) hcl hfl h w H
    · obtain ⟨k, rfl⟩ := Int.eq_ofNat_of_zero_le b0
      exact rule_28 m x f a k (by have := (named_field (op := 28) (by omega) hn).2; omega) hcl hfl h w H
    · obtain ⟨j, rfl⟩ := Int.eq_ofNat_of_zero_le a0
      exact rule_29 m x f j b (by have := named_static (op := 29) (by omega) hn; omega) h w H
    · obtain ⟨j, rfl⟩ := Int.eq_ofNat_of_zero_le a0
      exact rule_30 m x f j b (by have := named_static (op := 30) (by omega) hn; omega) h w H
    · obtain ⟨j, rfl⟩ := Int.eq_ofNat_of_zero_le a0
      exact rule_31 m x f j b (by have := named_call hn; omega) h w H
    · obtain ⟨_, k, y, hs, hy, hp⟩ := named_virt hm a0 b0 hn
      exact rule_32 m x f a b k hs y hy hp (by have := (hm.method (List.mem_of_getElem? hy)).fits.al; omega) h w H
    · exact rule_33 m x f a b hg hal hll h w H
    · exact rule_34 m x f a b h w
end Go.Proofs.Ytefgepppcmhphaa
namespace Go.Proofs.Ytefgepppcmhphaa
set_option maxRecDepth 100000
set_option linter.unusedVariables false
set_option linter.unusedSimpArgs false
open Go.ChangeShapes Go.WideShapes Go.ChangeAt Go.RowKit

/-- A step's answer, wherever its lists lie. -/
def StepIs (r : StepR) (w : World) (e : Ending) (w' : World) : Prop :=
  ∃ A c A' c', e = .returned (.tuple #[.slice A r.after.length c, .slice A' r.next.length c', .int .i64 r.err]) ∧ SlcIs TyAt 2 w' w'.heap.size A c r.after ∧ SlcIs IntAt 1 w' w'.heap.size A' c' r.next ∧ Below w.heap.size w w'
/-- The same, and where it goes on lies in new memory. -/
def StepNew (r : StepR) (w : World) (e : Ending) (w' : World) : Prop :=
  ∃ A c A' c', e = .returned (.tuple #[.slice A r.after.length c, .slice A' r.next.length c', .int .i64 r.err]) ∧ SlcIs TyAt 2 w' w'.heap.size A c r.after ∧ SlcIs IntAt 1 w' w'.heap.size A' c' r.next ∧ Below w.heap.size w w' ∧ ∀ ad, A' = some ad → w.heap.size ≤ ad.block
theorem StepNew.is {r : StepR} {w : World} {e : Ending} {w' : World} (h : StepNew r w e w') : StepIs r w e w' := by
  obtain ⟨A, c, A', c', h1, h2, h3, h4, _⟩ := h
  exact ⟨A, c, A', c', h1, h2, h3, h4⟩
theorem new_at {w : World} {N : Nat} (h : w.heap.size ≤ N) : ∀ ad, (some ⟨N, 0, none⟩ : Option Addr) = some ad → w.heap.size ≤ ad.block := fun ad e => by
  injection e with e
  subst e
  exact h
theorem step_badN (n : Int) {w w' : World} (hb : Below w.heap.size w w') : StepNew (badStep n) w (.returned (.tuple #[.slice none 0 0, .slice none 0 0, .int .i64 n])) w' :=
  ⟨none, 0, none, 0, rfl, ⟨Nat.le_refl _, by omega, fun i t hi => by simp [badStep] at hi⟩, ⟨Nat.le_refl _, by omega, fun i t hi => by simp [badStep] at hi⟩, hb, fun ad e => by cases e⟩
theorem step_bad (n : Int) {w w' : World} (hb : Below w.heap.size w w') : StepIs (badStep n) w (.returned (.tuple #[.slice none 0 0, .slice none 0 0, .int .i64 n])) w' :=
  ⟨none, 0, none, 0, rfl, ⟨Nat.le_refl _, by omega, fun i t hi => by simp [badStep] at hi⟩, ⟨Nat.le_refl _, by omega, fun i t hi => by simp [badStep] at hi⟩, hb⟩
/-- A step, once it is known what is taken, given, and where it goes on. -/
def stepTail (sup : List Int) (op : Int) (TK GV : List (Int × Int)) (nl : List Int) (st : List (Int × Int)) : StepR :=
  if st.length < TK.length ∨ 8 < st.length - TK.length + GV.length then badStep 4 else
  if ((st.drop (st.length - TK.length)).zip TK).all (fun p => doesB sup op p.1 p.2) = true then ⟨st.take (st.length - TK.length) ++ GV, nl, 0⟩ else badStep 4
theorem step_over {m : Img} {x : Mth} {pc op a b n : Int} {st : List (Int × Int)} {r : List Int} (e : nextOfOp pc op a = n :: r) (h : (x.code.length : Int) ≤ n) : stepIn m x pc op a b st = badStep 4 := by
  unfold stepIn
  rw [e, if_pos (by simpa using h)]
theorem step_none {m : Img} {x : Mth} {pc a b : Int} : stepIn m x pc 6 a b [] = badStep 4 := by
  unfold stepIn
  split
  · rfl
  · rw [if_pos (Or.inl ⟨rfl, rfl⟩)]
theorem step_tail {m : Img} {x : Mth} {pc op a b : Int} {st : List (Int × Int)} (h : ¬ (nextOfOp pc op a).head?.any (fun n => decide ((x.code.length : Int) ≤ n)) = true) (h6 : ¬ (op = 6 ∧ st = [])) :
    stepIn m x pc op a b st = stepTail (supsOf m.classes) op (takes m x op a b st) (gives m x op a b st) (nextOfOp pc op a) st := by
  unfold stepIn stepTail
  rw [if_neg h]
  by_cases g : st.length < (takes m x op a b st).length ∨ 8 < st.length - (takes m x op a b st).length + (gives m x op a b st).length
  · rw [if_pos (Or.inr g), if_pos g]
  · rw [if_neg g, if_neg (fun q => q.elim h6 g)]
theorem two_types (w : World) (T : TypeId) (vs us : List Value) : Cells ((w.alloc (.cells vs.toArray T)).alloc (.cells us.toArray T)).drew w.heap.size vs ∧ Cells ((w.alloc (.cells vs.toArray T)).alloc (.cells us.toArray T)).drew (w.heap.size + 1) us ∧
    Below w.heap.size w ((w.alloc (.cells vs.toArray T)).alloc (.cells us.toArray T)).drew ∧ w.heap.size < ((w.alloc (.cells vs.toArray T)).alloc (.cells us.toArray T)).drew.heap.size ∧ w.heap.size + 1 < ((w.alloc (.cells vs.toArray T)).alloc (.cells us.toArray T)).drew.heap.size := by
  have z1 : (w.alloc (.cells vs.toArray T)).heap.size = w.heap.size + 1 := by simp
  have z2 : ((w.alloc (.cells vs.toArray T)).alloc (.cells us.toArray T)).drew.heap.size = w.heap.size + 2 := by simp
  have hb : Below (w.heap.size + 1) (w.alloc (.cells vs.toArray T)) ((w.alloc (.cells vs.toArray T)).alloc (.cells us.toArray T)).drew := ((Below.refl _ _).alloc (by omega) _).drew
  have h2 := cells_new (w.alloc (.cells vs.toArray T)) us T
  rw [z1] at h2
  exact ⟨(cells_new w vs T).keep hb (by omega), h2, ((Below.refl _ _).alloc (Nat.le_refl _) _).trans (hb.mono (by omega)), by omega, by omega⟩
theorem givesOf_len (x : Mth) : (givesOf x).length ≤ 2 := by
  unfold givesOf
  split
  · exact Nat.zero_le _
  · exact Nat.le_succ _
theorem len_ite {c : Prop} [Decidable c] {A B : List (Int × Int)} (hA : A.length ≤ 2) (hB : B.length ≤ 2) : (if c then A else B).length ≤ 2 := by
  by_cases g : c
  · rw [if_pos g]; exact hA
  · rw [if_neg g]; exact hB
theorem giveOf_len (m : Img) (x : Mth) (op a b : Int) : (giveOf m x op a b).length ≤ 2 := by
  unfold giveOf
  repeat' apply len_ite
  all_goals first | exact givesOf_len _ | exact Nat.zero_le _ | exact Nat.le_succ _ | exact Nat.le_refl _
theorem tail_short {sup : List Int} {op : Int} {TK GV : List (Int × Int)} {nl : List Int} {st : List (Int × Int)} (h : st.length < TK.length) : stepTail sup op TK GV nl st = badStep 4 := by unfold stepTail; rw [if_pos (Or.inl h)]
theorem tail_high {sup : List Int} {op : Int} {TK GV : List (Int × Int)} {nl : List Int} {st : List (Int × Int)} {d : Nat} (hd : st.length - TK.length = d) (h : 8 < d + GV.length) : stepTail sup op TK GV nl st = badStep 4 := by unfold stepTail; rw [hd, if_pos (Or.inr h)]
theorem tail_on {sup : List Int} {op : Int} {TK GV : List (Int × Int)} {nl : List Int} {st : List (Int × Int)} {d : Nat} (hd : st.length - TK.length = d) (h0 : ¬ st.length < TK.length) (h : ¬ 8 < d + GV.length) :
    stepTail sup op TK GV nl st = if ((st.drop d).zip TK).all (fun p => doesB sup op p.1 p.2) = true then ⟨st.take d ++ GV, nl, 0⟩ else badStep 4 := by unfold stepTail; rw [hd, if_neg (fun q => q.elim h0 h)]
theorem does_any {sup : List Int} {op t0 t1 u1 : Int} : doesB sup op (t0, t1) (0, u1) = true := by unfold doesB; rw [if_pos rfl]
theorem does_ref {sup : List Int} {op t0 t1 u1 : Int} : doesB sup op (t0, t1) (4, u1) = (isRefB t0 && !(decide (op = 34) && decide (t0 = 2))) := by unfold doesB; rw [if_neg (show ¬ (4 : Int) = 0 by decide), if_pos rfl]
theorem does_sub {sup : List Int} {op t0 t1 u0 u1 : Int} (h0 : ¬ u0 = 0) (h4 : ¬ u0 = 4) : doesB sup op (t0, t1) (u0, u1) = subB sup t0 t1 u0 u1 := by unfold doesB; rw [if_neg h0, if_neg h4]
theorem ref_is {t0 t1 : Int} {w : World} {r : Bool} (HR : Hid (isRefB t0 = r)) : Calls Try.prog 53 #[tyV t0 t1] w fun e w' => e = .returned (.bool r) ∧ Below w.heap.size w w' := by
  have H := risref_any t0 t1 w
  rw [HR.out] at H
  exact H
theorem sub_any_is {m : Img} {h : Hnd} {x y t0 t1 : Int} {w0 w : World} {r : Bool} (HI : Hid (ImgIn w0 w0.heap.size h m)) (HX : Hid (Below w0.heap.size w0 w)) (HN : Hid (m.classes.length ≤ 1000)) (HR : Hid (subB (supsOf m.classes) x y t0 t1 = r)) :
    Calls Try.prog 50 #[.slice h.A0 m.classes.length h.c0, tyV x y, tyV t0 t1] w fun e w' => e = .returned (.bool r) ∧ Below w.heap.size w w' := by
  have H := rsub_any (supsOf m.classes) x y t0 t1 h.A0 h.c0 w.heap.size w (by rw [supsOf_len]; have := HN.out; omega) (Nat.le_refl _) (supers_of (HI.out.now HX.out).classes.row)
  rw [HR.out, supsOf_len] at H
  exact H
theorem own_row1 (w : World) (v : Value) (T : TypeId) : (w.alloc (.cells #[v] T)).ownsRow w.heap.size T 1 (.slice (some ⟨w.heap.size, 0, none⟩) 1 1) 1 [v] :=
  ⟨rfl, .inr ⟨w.heap.size, 1, #[v], rfl, Nat.le_refl _, heap_alloc_new _ _, Nat.le_refl _, by unfold maxLen; omega, rfl, rfl⟩⟩
theorem own_two {w : World} {B e : Nat} {v : Value} {p q : Int} (h : w.ownsRow B e 1 v ([p] ++ [q]).length (([p] ++ [q]).map (Value.int .i64))) :
    ∃ g c, v = .slice (some ⟨g, 0, none⟩) 2 c ∧ SlcIs IntAt 1 w w.heap.size (some ⟨g, 0, none⟩) c [p, q] ∧ w.cell? ⟨g, 0, none⟩ = some (.int .i64 p) := by
  rcases ownK_slice h with ⟨_, hn⟩ | ⟨g, c, hv, _⟩
  · cases hn
  · obtain ⟨A, c', hv', hl, g1, g2⟩ := own_ints h
    rw [hv] at hv'
    injection hv' with e1 e2 e3
    subst e1 e3
    have hS : SlcIs IntAt 1 w w.heap.size (some ⟨g, 0, none⟩) c [p, q] := ⟨g1, g2, fun i x hi => by
      obtain ⟨ad, e, hb, hc⟩ := hl i (.int .i64 x) (by rw [List.getElem?_map]; show Option.map _ ([p, q][i]?) = _; rw [hi]; rfl)
      exact ⟨ad, e, hb, by rw [Nat.mul_one]; exact hc⟩⟩
    refine ⟨g, c, hv, hS, ?_⟩
    obtain ⟨ad, e, hb, hc⟩ := hl 0 (.int .i64 p) rfl
    injection e with e
    subst e
    simpa [Addr.add] using hc
theorem int_none (w : World) (A : Option Addr) (B : Nat) : SlcIs IntAt 1 w B A 0 [] := ⟨Nat.le_refl _, by omega, fun i t hi => by simp at hi⟩
end Go.Proofs.Ytefgepppcmhphaa
namespace Go.Proofs.Ytefgepppcmhphaa
set_option maxRecDepth 100000
set_option linter.unusedVariables false
set_option linter.unusedSimpArgs false

theorem tail_below {sup : List Int} {op : Int} {TK GV low st : List (Int × Int)} {nl : List Int} (h : (stepTail sup op TK GV nl st).err = 0) (hl : low.length + st.length ≤ 5) (hg : GV.length ≤ 2) :
    stepTail sup op TK GV nl (low ++ st) = ⟨low ++ (stepTail sup op TK GV nl st).after, nl, 0⟩ ∧ (stepTail sup op TK GV nl st).next = nl := by
  by_cases g : st.length < TK.length ∨ 8 < st.length - TK.length + GV.length
  · unfold stepTail at h
    rw [if_pos g] at h
    exact absurd h (show ¬ (4 : Int) = 0 by decide)
  by_cases q : ((st.drop (st.length - TK.length)).zip TK).all (fun p => doesB sup op p.1 p.2) = true
  · have e : stepTail sup op TK GV nl st = ⟨st.take (st.length - TK.length) ++ GV, nl, 0⟩ := by unfold stepTail; rw [if_neg g, if_pos q]
    rw [e]
    refine ⟨?_, rfl⟩
    have hd : (low ++ st).length - TK.length = low.length + (st.length - TK.length) := by rw [List.length_append]; omega
    unfold stepTail
    rw [hd, if_neg (by rw [List.length_append]; omega), List.drop_length_add_append, List.take_length_add_append, if_pos q, List.append_assoc]
  · unfold stepTail at h
    rw [if_neg g, if_neg q] at h
    exact absurd h (show ¬ (4 : Int) = 0 by decide)
theorem takes_below {m : Img} {x : Mth} {op a b : Int} {low st : List (Int × Int)} (h : ¬ (op = 6 ∧ st = [])) : takes m x op a b (low ++ st) = takes m x op a b st := by
  unfold takes
  by_cases h6 : op = 6
  · have hs : st ≠ [] := fun e => h ⟨h6, e⟩
    have hs' : low ++ st ≠ [] := by simp [hs]
    rw [if_pos ⟨h6, hs'⟩, if_pos ⟨h6, hs⟩]
  · rw [if_neg (fun q => h6 q.1), if_neg (fun q => h6 q.1)]
theorem gives_below {m : Img} {x : Mth} {op a b : Int} {low st : List (Int × Int)} (h : ¬ (op = 6 ∧ st = [])) : gives m x op a b (low ++ st) = gives m x op a b st := by
  unfold gives
  by_cases h6 : op = 6
  · have hs : st ≠ [] := fun e => h ⟨h6, e⟩
    have hs' : low ++ st ≠ [] := by simp [hs]
    have hl : (low ++ st).getLast? = st.getLast? := by rw [List.getLast?_append]; cases hq : st.getLast? with
      | none => exact absurd (List.getLast?_eq_none_iff.mp hq) hs
      | some v => rfl
    rw [if_pos ⟨h6, hs'⟩, if_pos ⟨h6, hs⟩, hl]
  · rw [if_neg (fun q => h6 q.1), if_neg (fun q => h6 q.1)]
theorem gives_len (m : Img) (x : Mth) (op a b : Int) (st : List (Int × Int)) : (gives m x op a b st).length ≤ 2 := by
  unfold gives
  exact len_ite (Nat.le_refl _) (giveOf_len m x op a b)
/-- A step that goes well, goes as well with more below. -/
theorem step_below {m : Img} {x : Mth} {pc op a b : Int} {low st : List (Int × Int)} (h : (stepIn m x pc op a b st).err = 0) (h6 : ¬ (op = 6 ∧ st = [])) (hl : low.length + st.length ≤ 5) :
    stepIn m x pc op a b (low ++ st) = ⟨low ++ (stepIn m x pc op a b st).after, (stepIn m x pc op a b st).next, 0⟩ := by
  by_cases ho : (nextOfOp pc op a).head?.any (fun n => decide ((x.code.length : Int) ≤ n)) = true
  · unfold stepIn at h
    rw [if_pos ho] at h
    exact absurd h (show ¬ (4 : Int) = 0 by decide)
  have h6' : ¬ (op = 6 ∧ low ++ st = []) := fun q => h6 ⟨q.1, (List.append_eq_nil_iff.mp q.2).2⟩
  rw [step_tail ho h6] at h
  rw [step_tail ho h6, step_tail ho h6', takes_below h6, gives_below h6]
  obtain ⟨e1, e2⟩ := tail_below h hl (gives_len m x op a b st)
  rw [e1, e2]
theorem stepOf_below {m : Img} {f pc : Int} {low st : List (Int × Int)} (h : (stepOf m f pc st).err = 0) (h6 : ∀ i, (mthN m f).code[pc.toNat]? = some i → ¬ (i.1 = 6 ∧ st = [])) (hl : low.length + st.length ≤ 5) :
    stepOf m f pc (low ++ st) = ⟨low ++ (stepOf m f pc st).after, (stepOf m f pc st).next, 0⟩ := by
  unfold stepOf at h ⊢
  by_cases g : 0 ≤ f ∧ f < m.methods.length ∧ 0 ≤ pc ∧ pc < (mthN m f).code.length
  · rw [if_pos g] at h
    rw [if_pos g, if_pos g]
    cases hi : (mthN m f).code[pc.toNat]? with
    | none => rw [hi] at h; exact absurd h (show ¬ (1 : Int) = 0 by decide)
    | some i => rw [hi] at h; exact step_below h (h6 i hi) hl
  · rw [if_neg g] at h
    exact absurd h (show ¬ (1 : Int) = 0 by decide)
/-- Where the stack is too small for what is taken, the step fails. -/
theorem step_few {m : Img} {x : Mth} {pc op a b : Int} {st : List (Int × Int)} (h : st.length < (takes m x op a b st).length) : (stepIn m x pc op a b st).err = 4 := by
  unfold stepIn
  by_cases ho : (nextOfOp pc op a).head?.any (fun n => decide ((x.code.length : Int) ≤ n)) = true
  · rw [if_pos ho]; rfl
  · rw [if_neg ho, if_pos (Or.inr (Or.inl h))]; rfl
end Go.Proofs.Ytefgepppcmhphaa
namespace Go.Proofs.Ytefgepppcmhphaa
set_option maxRecDepth 100000
set_option linter.unusedVariables false
set_option linter.unusedSimpArgs false

theorem sub_trans' {sup : List Int} {k n k' n' k'' n'' : Int} (h : subB sup k n k' n' = true) (g : subB sup k' n' k'' n'' = true) : subB sup k n k'' n'' = true := by
  rw [sub_iff] at *
  rcases h with ⟨rfl, h⟩ | ⟨rfl, rfl, h⟩ | ⟨h0, rfl, rfl⟩
  · rcases g with ⟨rfl, g⟩ | ⟨rfl, rfl, g⟩ | ⟨g0, rfl, rfl⟩
    · exact .inl ⟨rfl, g⟩
    · exact .inl ⟨rfl, by omega⟩
    · exact .inl ⟨rfl, h⟩
  · rcases g with ⟨h4, _⟩ | ⟨_, rfl, g⟩ | ⟨g0, _, _⟩
    · omega
    · exact .inr (.inl ⟨rfl, rfl, above_trans h g⟩)
    · omega
  · exact g
/-- May a type be asked after: is its class there, if it has one? -/
def thereP (sup : List Int) (k n : Int) : Prop := k = 3 → 0 ≤ n ∧ n < sup.length
theorem sub_refl' {sup : List Int} {k n : Int} (hk : k = 1 ∨ k = 2 ∨ k = 3 ∨ k = 4) (ht : thereP sup k n) : subB sup k n k n = true := by
  rw [sub_iff]
  rcases hk with rfl | rfl | rfl | rfl
  · exact .inr (.inr ⟨.inl rfl, rfl, rfl⟩)
  · exact .inr (.inr ⟨.inr rfl, rfl, rfl⟩)
  · exact .inr (.inl ⟨rfl, rfl, above_self (ht rfl).1 (ht rfl).2⟩)
  · exact .inl ⟨rfl, by omega⟩
theorem sub_kinds {sup : List Int} {k n k' n' : Int} (h : subB sup k n k' n' = true) : (k = 1 ∨ k = 2 ∨ k = 3 ∨ k = 4) ∧ (k' = 1 ∨ k' = 2 ∨ k' = 3 ∨ k' = 4) := by
  rw [sub_iff] at h
  omega
end Go.Proofs.Ytefgepppcmhphaa
namespace Go.Proofs.Ytefgepppcmhphaa
set_option maxRecDepth 100000
set_option linter.unusedVariables false
set_option linter.unusedSimpArgs false

/-- Each of these types fits the other list's at its place. -/
def FitsAll (sup : List Int) (s t : List (Int × Int)) : Prop := s.length = t.length ∧ ∀ (i : Nat) (h1 : i < s.length) (h2 : i < t.length), subB sup s[i].1 s[i].2 t[i].1 t[i].2 = true
theorem isref_back {sup : List Int} {k n k' n' : Int} (h : subB sup k n k' n' = true) (g : isRefB k' = true) : isRefB k = true := by
  rw [sub_iff] at h
  unfold isRefB at g ⊢
  rw [decide_eq_true_eq] at g ⊢
  omega
theorem ints_back {sup : List Int} {k n k' n' : Int} (h : subB sup k n k' n' = true) (g : k = 2) : k' = 2 := by
  rw [sub_iff] at h
  omega
theorem does_fits {sup : List Int} {op : Int} {a b u : Int × Int} (h : subB sup a.1 a.2 b.1 b.2 = true) (g : doesB sup op b u = true) : doesB sup op a u = true := by
  unfold doesB at g ⊢
  by_cases h0 : u.1 = 0
  · rw [if_pos h0]
  rw [if_neg h0] at g ⊢
  by_cases h4 : u.1 = 4
  · rw [if_pos h4] at g ⊢
    simp only [Bool.and_eq_true, Bool.not_eq_true', Bool.and_eq_false_iff, decide_eq_false_iff_not] at g ⊢
    exact ⟨isref_back h g.1, g.2.imp id (fun q r => q (ints_back h r))⟩
  · rw [if_neg h4] at g ⊢
    exact sub_trans' h g
theorem FitsAll.take {sup : List Int} {s t : List (Int × Int)} (h : FitsAll sup s t) (d : Nat) : FitsAll sup (s.take d) (t.take d) := by
  refine ⟨by rw [List.length_take, List.length_take, h.1], fun i h1 h2 => ?_⟩
  rw [List.getElem_take, List.getElem_take]
  exact h.2 i _ _
theorem FitsAll.append {sup : List Int} {s t u v : List (Int × Int)} (h : FitsAll sup s t) (g : FitsAll sup u v) : FitsAll sup (s ++ u) (t ++ v) := by
  refine ⟨by rw [List.length_append, List.length_append, h.1, g.1], fun i h1 h2 => ?_⟩
  by_cases q : i < s.length
  · rw [List.getElem_append_left q, List.getElem_append_left (by rw [← h.1]; exact q)]
    exact h.2 i _ _
  · rw [List.getElem_append_right (by omega), List.getElem_append_right (by rw [← h.1]; omega)]
    have e : i - t.length = i - s.length := by rw [h.1]
    simp only [e]
    exact g.2 _ _ _
theorem all_fits {sup : List Int} {op : Int} {s t TK : List (Int × Int)} (h : FitsAll sup s t) (g : (t.zip TK).all (fun p => doesB sup op p.1 p.2) = true) : (s.zip TK).all (fun p => doesB sup op p.1 p.2) = true := by
  rw [List.all_eq_true] at g ⊢
  intro p hp
  obtain ⟨i, hi, rfl⟩ := List.getElem_of_mem hp
  rw [List.length_zip] at hi
  have h1 : i < s.length := by omega
  have h2 : i < t.length := by rw [← h.1]; exact h1
  have h3 : i < TK.length := by omega
  have hz : i < (t.zip TK).length := by rw [List.length_zip]; omega
  have q := g _ (List.getElem_mem hz)
  rw [List.getElem_zip] at q ⊢
  exact does_fits (h.2 i h1 h2) q
theorem FitsAll.drop {sup : List Int} {s t : List (Int × Int)} (h : FitsAll sup s t) (d : Nat) : FitsAll sup (s.drop d) (t.drop d) := by
  refine ⟨by rw [List.length_drop, List.length_drop, h.1], fun i h1 h2 => ?_⟩
  rw [List.getElem_drop, List.getElem_drop]
  exact h.2 _ _ _
theorem tail_fits {sup : List Int} {op : Int} {TK GV GV' s t : List (Int × Int)} {nl : List Int} (h : FitsAll sup s t) (hg : FitsAll sup GV' GV) (e : (stepTail sup op TK GV nl t).err = 0) :
    (stepTail sup op TK GV' nl s).err = 0 ∧ (stepTail sup op TK GV' nl s).next = (stepTail sup op TK GV nl t).next ∧ FitsAll sup (stepTail sup op TK GV' nl s).after (stepTail sup op TK GV nl t).after := by
  by_cases g : t.length < TK.length ∨ 8 < t.length - TK.length + GV.length
  · unfold stepTail at e
    rw [if_pos g] at e
    exact absurd e (show ¬ (4 : Int) = 0 by decide)
  by_cases q : ((t.drop (t.length - TK.length)).zip TK).all (fun p => doesB sup op p.1 p.2) = true
  · have e1 : stepTail sup op TK GV nl t = ⟨t.take (t.length - TK.length) ++ GV, nl, 0⟩ := by unfold stepTail; rw [if_neg g, if_pos q]
    have e2 : stepTail sup op TK GV' nl s = ⟨s.take (t.length - TK.length) ++ GV', nl, 0⟩ := by
      unfold stepTail
      rw [h.1, hg.1, if_neg g, if_pos (all_fits (h.drop _) q)]
    rw [e1, e2]
    exact ⟨rfl, rfl, (h.take _).append hg⟩
  · unfold stepTail at e
    rw [if_neg g, if_neg q] at e
    exact absurd e (show ¬ (4 : Int) = 0 by decide)
theorem FitsAll.nil_iff {sup : List Int} {s t : List (Int × Int)} (h : FitsAll sup s t) : s = [] ↔ t = [] := by
  rw [← List.length_eq_zero_iff, ← List.length_eq_zero_iff, h.1]
theorem FitsAll.last {sup : List Int} {s t : List (Int × Int)} (h : FitsAll sup s t) (hs : s ≠ []) : subB sup (s.getLast?.getD (0, 0)).1 (s.getLast?.getD (0, 0)).2 (t.getLast?.getD (0, 0)).1 (t.getLast?.getD (0, 0)).2 = true := by
  have h0 : 0 < s.length := List.length_pos_iff.mpr hs
  have h1 : s.length - 1 < s.length := by omega
  have h2 : s.length - 1 < t.length := by rw [← h.1]; exact h1
  rw [List.getLast?_eq_getElem?, List.getLast?_eq_getElem?, ← h.1, List.getElem?_eq_getElem h1, List.getElem?_eq_getElem h2]
  exact h.2 _ _ _
theorem FitsAll.self {sup : List Int} {s : List (Int × Int)} (h : ∀ t ∈ s, subB sup t.1 t.2 t.1 t.2 = true) : FitsAll sup s s := ⟨rfl, fun _ h1 _ => h _ (List.getElem_mem h1)⟩
theorem takes_fits {m : Img} {x : Mth} {op a b : Int} {s t : List (Int × Int)} {sup : List Int} (h : FitsAll sup s t) : takes m x op a b s = takes m x op a b t := by
  unfold takes
  by_cases hs : s = []
  · rw [hs, h.nil_iff.mp hs]
  · have ht : t ≠ [] := fun e => hs (h.nil_iff.mpr e)
    by_cases h6 : op = 6
    · rw [if_pos ⟨h6, hs⟩, if_pos ⟨h6, ht⟩]
    · rw [if_neg (fun q => h6 q.1), if_neg (fun q => h6 q.1)]
theorem gives_fits {m : Img} {x : Mth} {op a b : Int} {s t : List (Int × Int)} {sup : List Int} (h : FitsAll sup s t) (hr : ∀ t ∈ giveOf m x op a b, subB sup t.1 t.2 t.1 t.2 = true) : FitsAll sup (gives m x op a b s) (gives m x op a b t) := by
  unfold gives
  by_cases hs : s = []
  · rw [hs, h.nil_iff.mp hs, if_neg (fun q => q.2 rfl)]
    exact FitsAll.self hr
  · have ht : t ≠ [] := fun e => hs (h.nil_iff.mpr e)
    by_cases h6 : op = 6
    · rw [if_pos ⟨h6, hs⟩, if_pos ⟨h6, ht⟩]
      have hl := h.last hs
      refine ⟨rfl, fun i h1 h2 => ?_⟩
      match i, h1 with
      | 0, _ => exact hl
      | 1, _ => exact hl
    · rw [if_neg (fun q => h6 q.1), if_neg (fun q => h6 q.1)]
      exact FitsAll.self hr
/-- A stack whose types fit another's goes where that one goes, and what is left fits. -/
theorem step_fits {m : Img} {x : Mth} {pc op a b : Int} {s t : List (Int × Int)} (h : FitsAll (supsOf m.classes) s t) (hr : ∀ t ∈ giveOf m x op a b, subB (supsOf m.classes) t.1 t.2 t.1 t.2 = true) (e : (stepIn m x pc op a b t).err = 0) :
    (stepIn m x pc op a b s).err = 0 ∧ (stepIn m x pc op a b s).next = (stepIn m x pc op a b t).next ∧ FitsAll (supsOf m.classes) (stepIn m x pc op a b s).after (stepIn m x pc op a b t).after := by
  by_cases ho : (nextOfOp pc op a).head?.any (fun n => decide ((x.code.length : Int) ≤ n)) = true
  · unfold stepIn at e
    rw [if_pos ho] at e
    exact absurd e (show ¬ (4 : Int) = 0 by decide)
  by_cases h6 : op = 6 ∧ t = []
  · obtain ⟨rfl, rfl⟩ := h6
    rw [step_none] at e
    exact absurd e (show ¬ (4 : Int) = 0 by decide)
  have h6' : ¬ (op = 6 ∧ s = []) := fun q => h6 ⟨q.1, h.nil_iff.mp q.2⟩
  rw [step_tail ho h6] at e ⊢
  rw [step_tail ho h6', takes_fits h]
  exact tail_fits h (gives_fits h hr) e
end Go.Proofs.Ytefgepppcmhphaa
namespace Go.Proofs.Ytefgepppcmhphaa
set_option maxRecDepth 100000
set_option linter.unusedVariables false
set_option linter.unusedSimpArgs false

theorem mem_ite {c : Prop} [Decidable c] {A B : List (Int × Int)} {P : Int × Int → Prop} (hA : c → ∀ t ∈ A, P t) (hB : ¬ c → ∀ t ∈ B, P t) : ∀ t ∈ (if c then A else B), P t := by
  by_cases g : c
  · rw [if_pos g]; exact hA g
  · rw [if_neg g]; exact hB g
theorem mem_one {P : Int × Int → Prop} {u : Int × Int} (h : P u) : ∀ t ∈ [u], P t := fun t ht => by
  rw [List.mem_singleton.mp ht]; exact h
theorem good_self {cl : List Cls} {t : Int × Int} (h : goodB t.1 t.2 cl.length = true) : subB (supsOf cl) t.1 t.2 t.1 t.2 = true := by
  unfold goodB at h
  rw [decide_eq_true_eq] at h
  refine sub_refl' (by omega) (fun h3 => ?_)
  rw [supsOf_len]
  omega
theorem fields_good {m : Img} (hm : SaneI m) {c : Int} {t : Int × Int} (h : t ∈ fieldsOf m.classes c) : goodB t.1 t.2 m.classes.length = true := by
  unfold fieldsOf at h
  obtain ⟨j, _, hj⟩ := List.mem_flatMap.mp h
  unfold fieldsAt at hj
  cases hc : m.classes[j.toNat]? with
  | none => rw [hc] at hj; simp at hj
  | some y =>
    rw [hc] at hj
    have h1 := hm.cls _ _ hc
    unfold classB at h1
    simp only [Bool.and_eq_true] at h1
    have h2 := h1.2.1
    unfold goodsB at h2
    exact List.all_eq_true.mp h2 _ hj
theorem ret_self {m : Img} {y : Mth} (hy : SaneM m y) : ∀ t ∈ givesOf y, subB (supsOf m.classes) t.1 t.2 t.1 t.2 = true := by
  unfold givesOf
  refine mem_ite (fun _ t ht => absurd ht (by simp)) (fun h5 => mem_one ?_)
  rcases hy.rt with h | h
  · rw [h] at h5; exact absurd rfl h5
  · exact good_self h
theorem at_getD {l : List (Int × Int)} {a : Int} (h0 : 0 ≤ a) (h1 : a < l.length) : l[a.toNat]?.getD (0, 0) ∈ l := by
  have h2 : a.toNat < l.length := by omega
  rw [List.getElem?_eq_getElem h2]
  exact List.getElem_mem h2
/-- Each type that an instruction of a sane image gives fits itself. -/
theorem give_self {m : Img} {x : Mth} {f : Nat} {op a b : Int} (hm : SaneI m) (hg : m.methods[f]? = some x) (hi : instrB op a b = true) (hn : namedB m x op a b = true) :
    ∀ t ∈ giveOf m x op a b, subB (supsOf m.classes) t.1 t.2 t.1 t.2 = true := by
  obtain ⟨o0, o1, a0, a1, b0, b1⟩ := instr_bounds hi
  have hx := hm.method (List.mem_of_getElem? hg)
  have s1 : subB (supsOf m.classes) 1 0 1 0 = true := sub_refl' (.inl rfl) (fun q => by cases q)
  have s2 : subB (supsOf m.classes) 2 0 2 0 = true := sub_refl' (.inr (.inl rfl)) (fun q => by cases q)
  have s4 : subB (supsOf m.classes) 4 0 4 0 = true := sub_refl' (.inr (.inr (.inr rfl))) (fun q => by cases q)
  have s3 : a < m.classes.length → subB (supsOf m.classes) 3 a 3 a = true := fun q => sub_refl' (.inr (.inr (.inl rfl))) (fun _ => ⟨a0, by rw [supsOf_len]; exact q⟩)
  unfold giveOf
  refine mem_ite (fun _ => mem_one s1) (fun _ => ?_)
  refine mem_ite (fun _ => mem_one s4) (fun _ => ?_)
  refine mem_ite (fun h => mem_one ?_) (fun _ => ?_)
  · have hl := named_get (.inl h) hn
    unfold localOf
    rw [if_pos a0]
    have hmem := at_getD (l := x.args ++ x.locals) a0 (by rw [List.length_append]; omega)
    rcases List.mem_append.mp hmem with q | q
    · exact good_self (hx.at_ _ q)
    · exact good_self (hx.lt _ q)
  refine mem_ite (fun _ => mem_one s1) (fun _ => ?_)
  refine mem_ite (fun _ => mem_one s1) (fun _ => ?_)
  refine mem_ite (fun h => mem_one (s3 (named_class (.inl h) hn))) (fun _ => ?_)
  refine mem_ite (fun _ => mem_one s2) (fun _ => ?_)
  refine mem_ite (fun _ => mem_one s1) (fun _ => ?_)
  refine mem_ite (fun _ => mem_one s1) (fun _ => ?_)
  refine mem_ite (fun h => mem_one ?_) (fun _ => ?_)
  · exact good_self (fields_good hm (at_getD b0 (named_field (.inl h) hn).2))
  refine mem_ite (fun h => mem_one ?_) (fun _ => ?_)
  · exact good_self (hm.st _ (at_getD a0 (named_static (.inl h) hn)))
  refine mem_ite (fun h => mem_one (s3 (named_class (.inr h) hn))) (fun _ => ?_)
  refine mem_ite (fun h => ?_) (fun _ => ?_)
  · subst h
    have h1 := named_call hn
    have h2 : a.toNat < m.methods.length := by omega
    refine ret_self (hm.method ?_)
    unfold mthN
    rw [List.getElem?_eq_getElem h2]
    exact List.getElem_mem h2
  refine mem_ite (fun h => ?_) (fun _ => ?_)
  · subst h
    obtain ⟨_, k, y, hk, hy, _⟩ := named_virt hm a0 b0 hn
    refine ret_self (hm.method ?_)
    unfold mthN slotN
    rw [hk, Option.getD_some, Int.toNat_natCast, hy]
    exact List.mem_of_getElem? hy
  refine mem_ite (fun _ => mem_one s1) (fun _ => ?_)
  exact fun t ht => absurd ht (by simp)
theorem stepOf_fits {m : Img} {f pc : Int} {s t : List (Int × Int)} (hm : SaneI m) (h : FitsAll (supsOf m.classes) s t) (e : (stepOf m f pc t).err = 0) :
    (stepOf m f pc s).err = 0 ∧ (stepOf m f pc s).next = (stepOf m f pc t).next ∧ FitsAll (supsOf m.classes) (stepOf m f pc s).after (stepOf m f pc t).after := by
  unfold stepOf at e ⊢
  by_cases g : 0 ≤ f ∧ f < m.methods.length ∧ 0 ≤ pc ∧ pc < (mthN m f).code.length
  · rw [if_pos g] at e
    rw [if_pos g, if_pos g]
    cases hi : (mthN m f).code[pc.toNat]? with
    | none => rw [hi] at e; exact absurd e (show ¬ (1 : Int) = 0 by decide)
    | some i =>
      rw [hi] at e
      have hf : f.toNat < m.methods.length := by omega
      have hg : m.methods[f.toNat]? = some (mthN m f) := by unfold mthN; rw [List.getElem?_eq_getElem hf]; rfl
      have hx := hm.method (List.mem_of_getElem? hg)
      have him := List.mem_of_getElem? hi
      exact step_fits h (give_self hm hg (hx.fits.ct _ him) (hx.co _ him)) e
  · rw [if_neg g] at e
    exact absurd e (show ¬ (1 : Int) = 0 by decide)
end Go.Proofs.Ytefgepppcmhphaa
namespace Go.Proofs.Ytefgepppcmhphaa
set_option maxRecDepth 100000
set_option linter.unusedVariables false
set_option linter.unusedSimpArgs false
open Go.ChangeShapes Go.WideShapes Go.ChangeAt Go.RowKit

/-- What is known at an instruction. -/
structure Shp where
  seen : Bool
  stack : List (Int × Int)
deriving DecidableEq
def ShpAt : AtP Shp := fun w B p s => w.cell? p = some (.bool s.seen) ∧ SlcAt TyAt 2 w B (off_ p 1) s.stack
theorem ShpAt.keeps : Keeps ShpAt := fun _ _ _ _ p _ h hp hC hc => ⟨(hc _ hp).trans h.1, SlcAt.keeps TyAt.keeps 2 h.2 hp hC hc⟩
theorem RowAt.keeps : Keeps (SlcAt ShpAt 2) := SlcAt.keeps ShpAt.keeps 2
def shpN (S : List Shp) (i : Int) : Shp := S[i.toNat]?.getD ⟨false, []⟩
theorem shpN_at {S : List Shp} {i : Nat} (h : i < S.length) : shpN S (i : Int) = S[i] := by unfold shpN; rw [Int.toNat_natCast, List.getElem?_eq_getElem h]; rfl
/-- Do operands fit where others are? -/
def underB (sup : List Int) (a b : List (Int × Int)) : Bool := decide (a.length = b.length) && (a.zip b).all fun p => subB sup p.1.1 p.1.2 p.2.1 p.2.2
theorem underB_iff {sup : List Int} {a b : List (Int × Int)} : underB sup a b = true ↔ FitsAll sup a b := by
  unfold underB FitsAll
  rw [Bool.and_eq_true, decide_eq_true_eq, List.all_eq_true]
  constructor
  · rintro ⟨h1, h2⟩
    refine ⟨h1, fun i g1 g2 => ?_⟩
    have hz : i < (a.zip b).length := by rw [List.length_zip]; omega
    have := h2 _ (List.getElem_mem hz)
    rw [List.getElem_zip] at this
    exact this
  · rintro ⟨h1, h2⟩
    refine ⟨h1, fun p hp => ?_⟩
    obtain ⟨i, hi, rfl⟩ := List.getElem_of_mem hp
    rw [List.getElem_zip]
    exact h2 i _ _
/-- Does a step go on as it should? -/
def onB (m : Img) (S : List Shp) (af : List (Int × Int)) (n : Int) : Bool := (shpN S n).seen && underB (supsOf m.classes) af (shpN S n).stack
def goB (m : Img) (f pc : Int) (S : List Shp) (st : List (Int × Int)) : Bool := decide ((stepOf m f pc st).err = 0) && (stepOf m f pc st).next.all (onB m S (stepOf m f pc st).after)
def placeB (m : Img) (f : Int) (S : List Shp) (pc : Int) : Bool := !(shpN S pc).seen || goB m f pc S (shpN S pc).stack
def firstB (m : Img) (f : Int) (S : List Shp) : Bool := decide (0 < S.length) && (decide (S.length = (mthN m f).code.length) && ((shpN S 0).seen && decide ((shpN S 0).stack.length = 0)))
def rightS (m : Img) (f : Int) (S : List Shp) : Bool := firstB m f S && (List.range S.length).all (fun pc => placeB m f S (pc : Int))
/-- Are types right? -/
def rightB (m : Img) (maps : List (List Shp)) : Bool := decide (maps.length = m.methods.length) && (List.range maps.length).all (fun f => rightS m (f : Int) (maps[f]?.getD []))
theorem range_all {n : Nat} {p : Nat → Bool} : (List.range n).all p = true ↔ ∀ i < n, p i = true := by
  rw [List.all_eq_true]
  exact ⟨fun h i hi => h i (List.mem_range.mpr hi), fun h i hi => h i (List.mem_range.mp hi)⟩
theorem range_not {n : Nat} {p : Nat → Bool} {i : Nat} (hi : i < n) (h : p i = false) : (List.range n).all p = false := by
  rw [Bool.eq_false_iff]
  intro q
  have := range_all.mp q i hi
  rw [h] at this
  cases this
/-- Where a step of a sane image goes, there is an instruction. -/
theorem next_in {m : Img} {x : Mth} {F P : Nat} {op a b : Int} {st : List (Int × Int)} (hi : instrB op a b = true) (hn : namedB m x op a b = true) (he : (stepIn m x P op a b st).err = 0) : ∀ n ∈ (stepIn m x P op a b st).next, 0 ≤ n ∧ n < x.code.length := by
  obtain ⟨o0, o1, a0, a1, b0, b1⟩ := instr_bounds hi
  have e4 : ¬ (badStep 4).err = 0 := by unfold badStep; decide
  unfold stepIn at he ⊢
  by_cases h1 : (nextOfOp P op a).head?.any (fun n => decide ((x.code.length : Int) ≤ n)) = true
  · rw [if_pos h1] at he; exact absurd he e4
  rw [if_neg h1] at he ⊢
  by_cases h2 : (op = 6 ∧ st = []) ∨ st.length < (takes m x op a b st).length ∨ 8 < st.length - (takes m x op a b st).length + (gives m x op a b st).length
  · rw [if_pos h2] at he; exact absurd he e4
  rw [if_neg h2] at he ⊢
  by_cases h3 : ((st.drop (st.length - (takes m x op a b st).length)).zip (takes m x op a b st)).all (fun p => doesB (supsOf m.classes) op p.1 p.2) = true
  · rw [if_pos h3]
    intro n hm
    dsimp only at hm
    unfold nextOfOp at hm h1
    by_cases h18 : op = 18
    · rw [if_pos h18] at hm h1
      simp at hm h1
      omega
    · rw [if_neg h18] at hm h1
      by_cases h19 : op = 19
      · rw [if_pos h19] at hm h1
        have := named_jump (.inr h19) hn
        simp at hm h1
        omega
      · rw [if_neg h19] at hm h1
        by_cases h33 : op = 33
        · rw [if_pos h33] at hm; simp at hm
        · rw [if_neg h33] at hm h1
          simp at hm h1
          omega
  · rw [if_neg h3] at he; exact absurd he e4
end Go.Proofs.Ytefgepppcmhphaa
namespace Go.Proofs.Ytefgepppcmhphaa
set_option maxRecDepth 100000
set_option linter.unusedVariables false
set_option linter.unusedSimpArgs false
open Go.ChangeShapes Go.WideShapes Go.ChangeAt Go.RowKit

/-- No list of these is longer. -/
def MapsTo (n : Nat) (maps : List (List Shp)) : Prop := ∀ S ∈ maps, S.length ≤ n ∧ ∀ s ∈ S, s.stack.length ≤ n
theorem MapsTo.more {n k : Nat} {maps : List (List Shp)} (h : MapsTo n maps) (hk : n ≤ k) : MapsTo k maps := fun S hS => ⟨Nat.le_trans (h S hS).1 hk, fun s hs => Nat.le_trans ((h S hS).2 s hs) hk⟩
end Go.Proofs.Ytefgepppcmhphaa
namespace Go.Proofs.Ytefgepppcmhphaa
set_option maxRecDepth 100000
set_option linter.unusedVariables false
set_option linter.unusedSimpArgs false
open Go.ChangeShapes Go.WideShapes Go.ChangeAt Go.RowKit
set_option linter.unusedVariables false

/-- The most operands of some shapes. -/
def deepOne (d : Nat) (s : Shp) : Nat := if d < s.stack.length then s.stack.length else d
def deepOf (S : List Shp) : Nat := S.foldl deepOne 0
theorem deep_take {S : List Shp} {k : Nat} (hk : k < S.length) : deepOf (S.take (k + 1)) = deepOne (deepOf (S.take k)) S[k] := by
  unfold deepOf
  rw [List.take_add_one, List.getElem?_eq_getElem hk, List.foldl_append]
  rfl
theorem deep_le {S : List Shp} {n : Nat} (h : ∀ s ∈ S, s.stack.length ≤ n) : deepOf S ≤ n := by
  have H : ∀ (S : List Shp) (d : Nat), (∀ s ∈ S, s.stack.length ≤ n) → d ≤ n → S.foldl deepOne d ≤ n := by
    intro S
    induction S with
    | nil => intro d _ hd; exact hd
    | cons s S ih =>
      intro d h hd
      refine ih _ (fun t ht => h t (List.mem_cons_of_mem _ ht)) ?_
      unfold deepOne
      split
      · exact h s (List.mem_cons_self ..)
      · exact hd
  exact H S 0 h (Nat.zero_le _)
/-- The cells of a frame. -/
def frameOf (m : Img) (maps : List (List Shp)) (f : Int) : Int := if 0 ≤ f ∧ f < m.methods.length then 3 + (mthN m f).args.length + (mthN m f).locals.length + deepOf (maps[f.toNat]?.getD []) else 0
/-- What a method itself takes: as often as it may call itself. -/
def timesOf (m : Img) (f : Nat) : Int := if wayB (edgesOf m) m.methods.length f f = true then (mthN m (f : Int)).depth else 1
def costOf (m : Img) (maps : List (List Shp)) (f : Nat) : Int := timesOf m f * frameOf m maps (f : Int)
/-- Is there one that calls itself and may not? -/
def badRing (m : Img) (f : Nat) : Bool := wayB (edgesOf m) m.methods.length f f && decide ((mthN m (f : Int)).depth < 1)
def ringsB (m : Img) : Bool := (List.range m.methods.length).all fun f => !badRing m f
/-- What each method, and all that it comes to, takes. -/
def boundsOf (m : Img) (maps : List (List Shp)) : List Int := (List.range m.methods.length).map (boundF (edgesOf m) m.methods.length (costOf m maps))
theorem bounds_len (m : Img) (maps : List (List Shp)) : (boundsOf m maps).length = m.methods.length := by unfold boundsOf; rw [List.length_map, List.length_range]
theorem bounds_at {m : Img} {maps : List (List Shp)} {f : Nat} (h : f < m.methods.length) : (boundsOf m maps)[f]? = some (boundF (edgesOf m) m.methods.length (costOf m maps) f) := by
  unfold boundsOf
  rw [List.getElem?_map, List.getElem?_range h]
  rfl
theorem edges_in (m : Img) : EdgesIn (edgesOf m) m.methods.length := fun g t ht => by
  unfold edgesOf at ht
  rw [List.getElem?_map] at ht
  cases hx : m.methods[g]? with
  | none => rw [hx] at ht; cases ht
  | some x =>
    rw [hx] at ht
    have ht : t ∈ rowTo m x m.methods.length := ht
    unfold rowTo at ht
    obtain ⟨k, hk, rfl⟩ := List.mem_map.mp ht
    rw [List.mem_filter, List.mem_range] at hk
    omega
theorem frame_low {m : Img} {maps : List (List Shp)} {f : Int} : 0 ≤ frameOf m maps f := by
  unfold frameOf
  split <;> omega
theorem frame_top {m : Img} {maps : List (List Shp)} {f : Int} (hm : SaneI m) (hz : MapsTo 4000 maps) : frameOf m maps f ≤ 4011 := by
  unfold frameOf
  split
  · rename_i h
    have hlt : f.toNat < m.methods.length := by omega
    have hx : mthN m f ∈ m.methods := by unfold mthN; rw [List.getElem?_eq_getElem hlt]; exact List.getElem_mem hlt
    have h1 := (hm.method hx).all
    have h2 : deepOf (maps[f.toNat]?.getD []) ≤ 4000 := by
      cases hs : maps[f.toNat]? with
      | none => exact Nat.zero_le _
      | some S => exact deep_le (fun s hs' => (hz S (List.mem_of_getElem? hs)).2 s hs')
    omega
  · omega
theorem times_low {m : Img} (hm : SaneI m) {f : Nat} (hf : f < m.methods.length) : 0 ≤ timesOf m f ∧ timesOf m f ≤ 8 := by
  have hx : mthN m (f : Int) ∈ m.methods := by unfold mthN; rw [Int.toNat_natCast, List.getElem?_eq_getElem hf]; exact List.getElem_mem hf
  have h1 := (hm.method hx).fits.d0
  have h2 := (hm.method hx).fits.d1
  unfold timesOf
  split <;> omega
theorem cost_low {m : Img} {maps : List (List Shp)} (hm : SaneI m) (f : Nat) : 0 ≤ costOf m maps f := by
  unfold costOf
  rcases Nat.lt_or_ge f m.methods.length with q | q
  · exact Int.mul_nonneg (times_low hm q).1 frame_low
  · have : frameOf m maps (f : Int) = 0 := by unfold frameOf; rw [if_neg (by omega)]
    rw [this, Int.mul_zero]
    exact Int.le_refl _
theorem cost_top {m : Img} {maps : List (List Shp)} (hm : SaneI m) (hz : MapsTo 4000 maps) (f : Nat) : costOf m maps f ≤ 32088 := by
  unfold costOf
  rcases Nat.lt_or_ge f m.methods.length with q | q
  · have h1 := times_low hm q
    have h2 := frame_top (f := (f : Int)) hm hz
    have h3 : 0 ≤ frameOf m maps (f : Int) := frame_low
    have h4 : timesOf m f * frameOf m maps (f : Int) ≤ 8 * 4011 := Int.mul_le_mul h1.2 h2 h3 (by omega)
    omega
  · have : frameOf m maps (f : Int) = 0 := by unfold frameOf; rw [if_neg (by omega)]
    rw [this, Int.mul_zero]
    omega
/-- Where no ring is bad, a method takes no less than its frame. -/
theorem cost_frame {m : Img} {maps : List (List Shp)} (h : ringsB m = true) {f : Nat} (hf : f < m.methods.length) : frameOf m maps (f : Int) ≤ costOf m maps f := by
  have h1 : badRing m f = false := by
    have := range_all.mp h f hf
    simpa using this
  have h3 : 0 ≤ frameOf m maps (f : Int) := frame_low
  have ht : 1 ≤ timesOf m f := by
    unfold timesOf
    split
    · rename_i q
      unfold badRing at h1
      rw [q, Bool.true_and, decide_eq_false_iff_not] at h1
      omega
    · exact Int.le_refl _
  unfold costOf
  have := Int.mul_le_mul_of_nonneg_right ht h3
  omega
end Go.Proofs.Ytefgepppcmhphaa
