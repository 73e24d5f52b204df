/-
  Steps of a walk through a graph, as its program takes them. Plain lemmas; no conditions.
-/
import Derived.Test.YtefgepppcmhphaaM36
namespace Go.Proofs.Ytefgepppcmhphaa
set_option maxRecDepth 100000
set_option linter.unusedVariables false
set_option linter.unusedSimpArgs false
set_option linter.unusedVariables false

section
variable {EL : List (List Int)} {n : Nat} {S : Wk}
/-- What is still to do. -/
def todo (n : Nat) (S : Wk) : Nat := 2 * unmet (fun v => decide (0 < S.place v)) n + S.way.length
theorem Tar.gone_none (h : Tar EL n S) {v : Nat} (hw : v ∈ S.way) (hl : S.gone v < (eds EL v).length) (ht : ∀ t : Nat, t < n → ¬ (eds EL v)[S.gone v] = (t : Int)) : Tar EL n (S.go v) := h.go hw hl (fun t htn e => absurd e (ht t htn))
theorem Tar.gone_old (h : Tar EL n S) (hn : (n : Int) ≤ topN) {v t : Nat} (hw : v ∈ S.way) (hl : S.gone v < (eds EL v).length) (ht : t < n) (h0 : 0 < S.place t) (he : (eds EL v)[S.gone v] = (t : Int)) : Tar EL n ((S.lower v (min (S.back v) (S.back t))).go v) := by
  obtain ⟨h1, h2⟩ := h.see hn hw ht h0 (by unfold edgeB; rw [← he]; exact List.getElem_mem hl)
  refine h1.go hw hl (fun u hu e => ?_)
  have e : (eds EL v)[S.gone v] = (u : Int) := e
  have : u = t := by omega
  subst this
  rcases h2 with q | ⟨q1, q2⟩
  · exact .inl q
  · refine .inr ⟨q1, ?_⟩
    have : (S.lower v (min (S.back v) (S.back u))).back v = min (S.back v) (S.back u) := upd_at _ _ _
    rw [this]
    exact q2
theorem Tar.gone_new (h : Tar EL n S) {W : List Nat} {v t : Nat} (hw : S.way = W ++ [v]) (hl : S.gone v < (eds EL v).length) (ht : t < n) (h0 : S.place t = 0) (he : (eds EL v)[S.gone v] = (t : Int)) : Tar EL n ((S.go v).meet t) ∧ todo n ((S.go v).meet t) < todo n S := by
  have hvw : v ∈ S.way := by rw [hw]; simp
  have hed : edgeB EL v t := by unfold edgeB; rw [← he]; exact List.getElem_mem hl
  have hpw : ∀ p ∈ S.way, Way EL n p t := fun p hp => by
    have hle : S.place p ≤ S.place v := by
      have hq := h.winc
      rw [hw, List.pairwise_append] at hq
      rw [hw] at hp
      rcases List.mem_append.mp hp with q | q
      · exact Nat.le_of_lt (hq.2.2 p q v (by simp))
      · rw [List.mem_singleton] at q; subst q; exact Nat.le_refl _
    rcases h.tree p hp v (h.wsub v hvw) hle with rfl | q
    · exact .one hed
    · exact .snoc q (h.olt v (h.wsub v hvw)) hed
  have h1 := h.meet ht h0 hpw
  have hvt : v ≠ t := fun e => by subst e; have := (h.opos v (h.wsub v hvw)).1; omega
  have h2 := h1.go (v := v) (by show v ∈ S.way ++ [t]; simp [hvw]) hl (fun u hu e => by
    have e : (eds EL v)[S.gone v] = (u : Int) := e
    have : u = t := by omega
    subst this
    refine .inr ⟨by show u ∈ S.opn ++ [u]; simp, ?_⟩
    have e1 : (S.meet u).back v = S.back v := upd_ne _ _ hvt
    have e2 : (S.meet u).place u = S.met + 1 := upd_at _ _ _
    rw [e1, e2]
    have := (h.bin v (h.wsub v hvw)).2.1
    have := (h.opos v (h.wsub v hvw)).2
    omega)
  refine ⟨h2, ?_⟩
  have hu := unmet_put (p := fun v => decide (0 < S.place v)) (g := t) (by simp [h0]) n ht
  have h3 : (fun x => decide (0 < ((S.go v).meet t).place x)) = fun k => decide (0 < S.place k) || decide (k = t) := funext fun x => by
    by_cases e : x = t
    · subst e
      have : ((S.go v).meet x).place x = S.met + 1 := upd_at _ _ _
      rw [this]; simp
    · have : ((S.go v).meet t).place x = S.place x := upd_ne _ _ e
      rw [this]; simp [e]
  unfold todo
  rw [h3]
  have : ((S.go v).meet t).way.length = S.way.length + 1 := by show (S.way ++ [t]).length = _; simp
  omega
theorem Tar.met_all {v x : Nat} (h : 0 < S.place x) : 0 < (S.meet v).place x := by
  by_cases e : x = v
  · subst e
    have : (S.meet x).place x = S.met + 1 := upd_at _ _ _
    omega
  · have : (S.meet v).place x = S.place x := upd_ne _ _ e
    omega
end
end Go.Proofs.Ytefgepppcmhphaa
