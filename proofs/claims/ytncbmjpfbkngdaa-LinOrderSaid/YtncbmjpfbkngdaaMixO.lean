/-
  A list that is turned into another one place by place. Plain definitions and lemmas; no conditions.
-/
import Derived.Test.YtncbmjpfbkngdaaRow
import Derived.Test.YtncbmjpfbkngdaaRows
namespace Go.Proofs.Ytncbmjpfbkngdaa
set_option maxRecDepth 100000
set_option linter.unusedVariables false
set_option linter.unusedSimpArgs false
set_option linter.unusedVariables false

/-- Turned up to a place. -/
def mixO {α : Type} (Y X : List α) (v : Nat) : List α := Y.take v ++ X.drop v
theorem mix_zero {α : Type} (Y X : List α) : mixO Y X 0 = X := rfl
theorem mix_all {α : Type} {Y X : List α} {n : Nat} (h1 : Y.length = n) (h2 : X.length = n) : mixO Y X n = Y := by
  unfold mixO
  rw [List.take_of_length_le (by omega), List.drop_eq_nil_of_le (by omega), List.append_nil]
theorem mix_len {α : Type} {Y X : List α} {n v : Nat} (h1 : Y.length = n) (h2 : X.length = n) (hv : v ≤ n) : (mixO Y X v).length = n := by
  unfold mixO
  rw [List.length_append, List.length_take, List.length_drop]
  omega
theorem mix_at {α : Type} {Y X : List α} {n v : Nat} (h1 : Y.length = n) (h2 : X.length = n) (hv : v < n) : (mixO Y X v)[v]? = X[v]? := by
  unfold mixO
  rw [List.getElem?_append_right (by rw [List.length_take]; omega), List.length_take, Nat.min_eq_left (by omega), Nat.sub_self, List.getElem?_drop, Nat.add_zero]
theorem mix_set {α : Type} {Y X : List α} {n v : Nat} {y : α} (h1 : Y.length = n) (h2 : X.length = n) (hv : v < n) (hy : Y[v]? = some y) : (mixO Y X v).set v y = mixO Y X (v + 1) := by
  apply List.ext_getElem?
  intro i
  have hvl : v < (mixO Y X v).length := by rw [mix_len h1 h2 (by omega)]; exact hv
  unfold mixO at *
  rcases Nat.lt_trichotomy i v with h | h | h
  · rw [List.getElem?_set_ne (by omega), List.getElem?_append_left (by rw [List.length_take]; omega), List.getElem?_append_left (by rw [List.length_take]; omega), List.getElem?_take, List.getElem?_take, if_pos h, if_pos (by omega)]
  · subst h
    rw [List.getElem?_set_self hvl, List.getElem?_append_left (by rw [List.length_take]; omega), List.getElem?_take, if_pos (by omega), hy]
  · rw [List.getElem?_set_ne (by omega), List.getElem?_append_right (by rw [List.length_take]; omega), List.getElem?_append_right (by rw [List.length_take]; omega), List.length_take, List.length_take, List.getElem?_drop, List.getElem?_drop]
    congr 1
    omega
end Go.Proofs.Ytncbmjpfbkngdaa
