/-
  The methods that instructions may call, as a set that grows; a list elsewhere while a map is stored into. Plain lemmas; no conditions.
  How a walk through who calls whom comes to all that there are ways to: what was met, who is still to be asked. Plain definitions and lemmas; no conditions.
-/
import Derived.Test.YtjjgpcmdoodjnaaM03
import Derived.Test.YtjjgpcmdoodjnaaM27
import Derived.Test.YtjjgpcmdoodjnaaM28
import Derived.Test.YtjjgpcmdoodjnaaM31
namespace Go.Proofs.Ytjjgpcmdoodjnaa
set_option maxRecDepth 100000
set_option linter.unusedVariables false
set_option linter.unusedSimpArgs false
open Go.ChangeShapes Go.WideShapes Go.ChangeAt Go.RowKit

/-- Does one of these instructions call that method? -/
def metTo (m : Img) (cs : List (Int × Int × Int)) (g : Nat) : Bool := cs.any fun i => inB (targetsOf m i.1 i.2.1 i.2.2) (g : Int)
theorem metTo_snoc {m : Img} {cs : List (Int × Int × Int)} {t : Nat} (h : t < cs.length) (g : Nat) : metTo m (cs.take (t + 1)) g = (metTo m (cs.take t) g || inB (targetsOf m cs[t].1 cs[t].2.1 cs[t].2.2) (g : Int)) := by
  unfold metTo
  rw [List.take_add_one, List.getElem?_eq_getElem h, List.any_append]
  simp
theorem metTo_calls (m : Img) (x : Mth) (g : Nat) : metTo m x.code g = callsB m x (g : Int) := by
  unfold metTo callsB
  rw [Bool.eq_iff_iff]
  simp
theorem calls_pick {m : Img} {x : Mth} {k : Nat} (hk : k < m.methods.length) (hx : m.methods[k] = x) : callsOf m (k : Int) = pickTo (fun g => metTo m x.code g) m.methods.length := by
  have e : mthN m (k : Int) = x := by unfold mthN; rw [Int.toNat_natCast, List.getElem?_eq_getElem hk, hx]; rfl
  unfold callsOf
  rw [if_pos ⟨by omega, by omega⟩, e, show rowTo m x m.methods.length = pickTo (fun g => callsB m x (g : Int)) m.methods.length from rfl]
  exact pick_same fun g _ => (metTo_calls m x g).symm
theorem inB_snoc {l : List Int} {s : Nat} (h : s < l.length) (g : Int) : inB (l.take (s + 1)) g = (inB (l.take s) g || decide (g = l[s])) := by
  unfold inB
  rw [Bool.eq_iff_iff, Bool.or_eq_true, decide_eq_true_eq, decide_eq_true_eq, decide_eq_true_eq, List.take_add_one, List.getElem?_eq_getElem h, List.mem_append]
  simp only [Option.toList_some, List.mem_singleton]
theorem lies_other {w w' : World} {A : Option Addr} {xs : List Value} {b : Nat} (h : Lies w w.heap.size A xs) (hg : w.grownBy w' (some b)) (hf : ∀ ad, A = some ad → ad.block ≠ b) : Lies w' w'.heap.size A xs := fun j u hu => by
  obtain ⟨ad, e, hb, hc⟩ := h j u hu
  refine ⟨ad, e, Nat.lt_of_lt_of_le hb hg.size, ?_⟩
  have hk : (ad.add j).block = ad.block := by rw [addr_add_block]
  exact (World.cell?_of_block (hg.block _ (by rw [hk]; omega) (fun e' => hf ad e (by injection e' with e'; rw [hk] at e'; exact e')))).trans hc
theorem own_intsOut {L : List Int} {w w' : World} {e : Ending} (h : OwnInts L w e w') : IntsOut L w e w' := by
  obtain ⟨v, rfl, ho, hb⟩ := h
  obtain ⟨A, c, rfl, hl, h1, h2⟩ := own_ints ho
  exact ⟨A, c, rfl, ⟨h1, h2, fun i x hi => by
    obtain ⟨ad, e, hb, hc⟩ := hl i (.int .i64 x) (by rw [List.getElem?_map, hi]; rfl)
    exact ⟨ad, e, hb, by show w'.cell? (ad.add (i * 1)) = _; rw [Nat.mul_one]; exact hc⟩⟩, hb⟩
end Go.Proofs.Ytjjgpcmdoodjnaa
namespace Go.Proofs.Ytjjgpcmdoodjnaa
set_option maxRecDepth 100000
set_option linter.unusedVariables false
set_option linter.unusedSimpArgs false
open Go.ChangeShapes Go.WideShapes Go.ChangeAt Go.RowKit

/-- How many below n are not so. -/
def unmet (p : Nat → Bool) : Nat → Nat
  | 0 => 0
  | n + 1 => unmet p n + if p n then 0 else 1
theorem unmet_far {p : Nat → Bool} {g : Nat} : ∀ n, n ≤ g → unmet (fun k => p k || decide (k = g)) n = unmet p n
  | 0, _ => rfl
  | n + 1, h => by
    unfold unmet
    rw [unmet_far n (by omega), show decide (n = g) = false from decide_eq_false (by omega), Bool.or_false]
theorem unmet_put {p : Nat → Bool} {g : Nat} (hp : p g = false) : ∀ n, g < n → unmet (fun k => p k || decide (k = g)) n + 1 = unmet p n
  | 0, h => by omega
  | n + 1, h => by
    unfold unmet
    by_cases e : n = g
    · subst e
      rw [unmet_far n (Nat.le_refl _), hp]
      simp
    · have := unmet_put hp n (by omega)
      rw [show decide (n = g) = false from decide_eq_false e, Bool.or_false]
      omega
theorem unmet_none : ∀ n, unmet (fun _ => false) n = n
  | 0 => rfl
  | n + 1 => by unfold unmet; rw [unmet_none n]; rfl
theorem calls_mem {m : Img} {g : Nat} (hg : g < m.methods.length) {y : Int} (h : y ∈ callsOf m (g : Int)) : ∃ k : Nat, y = (k : Int) ∧ k < m.methods.length := by
  rw [calls_pick hg rfl] at h
  obtain ⟨k, e, hk, _⟩ := mem_pick.1 h
  exact ⟨k, e, hk⟩
theorem edge_calls {m : Img} {g : Nat} (hg : g < m.methods.length) {y : Int} : y ∈ (edgesOf m)[g]?.getD [] ↔ y ∈ callsOf m (g : Int) := by
  rw [edges_at hg]
  rfl

structure Reached (m : Img) (f : Nat) (p : Nat → Bool) (ask : List Int) : Prop where
  self : p f = true
  sound : ∀ g, g < m.methods.length → p g = true → g = f ∨ Way (edgesOf m) m.methods.length f g
  asked : ∀ y ∈ ask, ∃ g : Nat, y = (g : Int) ∧ g < m.methods.length ∧ p g = true
  done : ∀ g, g < m.methods.length → p g = true → (g : Int) ∈ ask ∨ ∀ k : Nat, (k : Int) ∈ callsOf m (g : Int) → p k = true
  room : ask.length + unmet p m.methods.length ≤ m.methods.length
structure Reaching (m : Img) (f : Nat) (p : Nat → Bool) (ask : List Int) (nx : Nat) (T : List Int) (s : Nat) : Prop where
  self : p f = true
  sound : ∀ g, g < m.methods.length → p g = true → g = f ∨ Way (edgesOf m) m.methods.length f g
  asked : ∀ y ∈ ask, ∃ g : Nat, y = (g : Int) ∧ g < m.methods.length ∧ p g = true
  done : ∀ g, g < m.methods.length → p g = true → (g : Int) ∈ ask ∨ g = nx ∨ ∀ k : Nat, (k : Int) ∈ callsOf m (g : Int) → p k = true
  room : ask.length + 1 + unmet p m.methods.length ≤ m.methods.length
  nlt : nx < m.methods.length
  nmet : p nx = true
  tgt : T = callsOf m (nx : Int)
  seen : ∀ k : Nat, (k : Int) ∈ T.take s → p k = true
theorem Reached.start {m : Img} {f : Nat} (hf : f < m.methods.length) : Reached m f (fun k => (fun _ => false) k || decide (k = f)) [(f : Int)] where
  self := by simp
  sound := fun g _ h => .inl (by simpa using h)
  asked := fun y hy => ⟨f, by simpa using hy, hf, by simp⟩
  done := fun g _ h => .inl (by have : g = f := by simpa using h
                                rw [this]; exact List.mem_singleton.mpr rfl)
  room := by have := unmet_put (p := fun _ => false) (g := f) rfl m.methods.length hf; rw [unmet_none] at this; simp; simp at this; omega
theorem Reached.pop {m : Img} {f : Nat} {p : Nat → Bool} {ask : List Int} {y : Int} (h : Reached m f p (ask ++ [y])) : ∃ nx : Nat, y = (nx : Int) ∧ Reaching m f p ask nx (callsOf m y) 0 := by
  obtain ⟨nx, rfl, h1, h2⟩ := h.asked y (by simp)
  refine ⟨nx, rfl, h.self, h.sound, fun z hz => h.asked z (by simp [hz]), fun g hg hp => ?_, ?_, h1, h2, rfl, fun k hk => by simp at hk⟩
  · rcases h.done g hg hp with q | q
    · rw [List.mem_append, List.mem_singleton] at q
      rcases q with q | q
      · exact .inl q
      · exact .inr (.inl (by omega))
    · exact .inr (.inr q)
  · have := h.room
    rw [List.length_append, List.length_singleton] at this
    exact this
theorem seen_next {p : Nat → Bool} {T : List Int} {s : Nat} (h : ∀ k : Nat, (k : Int) ∈ T.take s → p k = true) (hs : s < T.length) {g : Nat} (hg : T[s] = (g : Int)) (hp : p g = true) : ∀ k : Nat, (k : Int) ∈ T.take (s + 1) → p k = true := fun k hk => by
  rw [List.take_add_one, List.getElem?_eq_getElem hs, List.mem_append] at hk
  rcases hk with hk | hk
  · exact h k hk
  · rw [hg] at hk
    simp at hk
    have : k = g := by omega
    rw [this]
    exact hp
theorem Reaching.at_ {m : Img} {f : Nat} {p : Nat → Bool} {ask : List Int} {nx : Nat} {T : List Int} {s : Nat} (h : Reaching m f p ask nx T s) (hs : s < T.length) : ∃ g : Nat, T[s] = (g : Int) ∧ g < m.methods.length := by
  have : T[s] ∈ callsOf m (nx : Int) := by rw [← h.tgt]; exact List.getElem_mem hs
  exact calls_mem h.nlt this
theorem Reaching.old {m : Img} {f : Nat} {p : Nat → Bool} {ask : List Int} {nx : Nat} {T : List Int} {s : Nat} (h : Reaching m f p ask nx T s) (hs : s < T.length) {g : Nat} (hg : T[s] = (g : Int)) (hp : p g = true) : Reaching m f p ask nx T (s + 1) :=
  { h with seen := seen_next h.seen hs hg hp }
theorem Reaching.new {m : Img} {f : Nat} {p : Nat → Bool} {ask : List Int} {nx : Nat} {T : List Int} {s : Nat} (h : Reaching m f p ask nx T s) (hs : s < T.length) {g : Nat} (hg : T[s] = (g : Int)) (hgm : g < m.methods.length) (hp : p g = false) :
    Reaching m f (fun k => p k || decide (k = g)) (ask ++ [(g : Int)]) nx T (s + 1) where
  self := by simp [h.self]
  sound := fun k hk hq => by
    simp only [Bool.or_eq_true, decide_eq_true_eq] at hq
    rcases hq with hq | rfl
    · exact h.sound k hk hq
    · have hmem : (k : Int) ∈ (edgesOf m)[nx]?.getD [] := (edge_calls h.nlt).2 (by rw [← h.tgt, ← hg]; exact List.getElem_mem hs)
      rcases h.sound nx h.nlt h.nmet with e | e
      · rw [e] at hmem
        exact .inr (.one hmem)
      · exact .inr (.snoc e h.nlt hmem)
  asked := fun y hy => by
    rw [List.mem_append, List.mem_singleton] at hy
    rcases hy with hy | rfl
    · obtain ⟨k, e, h1, h2⟩ := h.asked y hy
      exact ⟨k, e, h1, by simp [h2]⟩
    · exact ⟨g, rfl, hgm, by simp⟩
  done := fun k hk hq => by
    simp only [Bool.or_eq_true, decide_eq_true_eq] at hq
    rcases hq with hq | rfl
    · rcases h.done k hk hq with q | q | q
      · exact .inl (by simp [q])
      · exact .inr (.inl q)
      · exact .inr (.inr fun j hj => by simp [q j hj])
    · exact .inl (by simp)
  room := by have := unmet_put hp m.methods.length hgm; have := h.room; rw [List.length_append, List.length_singleton]; omega
  nlt := h.nlt
  nmet := by simp [h.nmet]
  tgt := h.tgt
  seen := seen_next (fun k hk => by simp [h.seen k hk]) hs hg (by simp)
theorem Reaching.end_ {m : Img} {f : Nat} {p : Nat → Bool} {ask : List Int} {nx : Nat} {T : List Int} (h : Reaching m f p ask nx T T.length) : Reached m f p ask where
  self := h.self
  sound := h.sound
  asked := h.asked
  done := fun g hg hp => by
    rcases h.done g hg hp with q | q | q
    · exact .inl q
    · subst q
      exact .inr fun k hk => h.seen k (by rw [List.take_length, h.tgt]; exact hk)
    · exact .inr q
  room := by have := h.room; omega
theorem Reached.all {m : Img} {f : Nat} {p : Nat → Bool} (hf : f < m.methods.length) (h : Reached m f p []) : pickTo p m.methods.length = reachOf m (f : Int) := by
  rw [reach_in hf]
  refine pick_same fun g hg => ?_
  rw [Bool.eq_iff_iff]
  unfold reachB
  rw [Bool.or_eq_true, decide_eq_true_eq, wayB_iff]
  constructor
  · exact h.sound g hg
  · have step : ∀ a b : Nat, a < m.methods.length → p a = true → (b : Int) ∈ (edgesOf m)[a]?.getD [] → p b = true := fun a b ha hp hb => by
      rcases h.done a ha hp with q | q
      · simp at q
      · exact q b ((edge_calls ha).1 hb)
    rintro (rfl | hw)
    · exact h.self
    · clear hg
      induction hw with
      | one e => exact step _ _ hf h.self e
      | snoc _ hp he ih => exact step _ _ hp ih he
end Go.Proofs.Ytjjgpcmdoodjnaa
