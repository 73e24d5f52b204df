/-
  Plain facts of integers that the texts of numbers share: wrapping to 32 bits, shifts step by step, bits one by one. No conditions beyond those in each line.
  Words for slices in memory: which cells a slice value stands for, and what keeps them. Plain definitions and lemmas; no conditions.
  Words for things one behind the other in memory, each of some cells: numbers, types, instructions, and slices of such in a cell. Plain definitions and lemmas; no conditions.
  Images as plain data, and where they stand in memory: classes, methods, images by value. Plain definitions and lemmas; no conditions.
  What the document's own answer for a number among some (In) comes to.
  What the document's own answers for types come to: Good, IsRef, In, Above, Sub, Join.
  Whether one type fits where another is wanted, as plain data, and how much stands above a class. Plain definitions and lemmas; no conditions.
  What classes have, and when all is there that an image names, as plain data.
-/
import Derived.RowKit
import Derived.WalkKit
import Derived.Lib.Hide
import Derived.Laws.BitsLemmas
import Derived.Laws.Entries
import Derived.Below
import Derived.Laws.OwnMore
import Derived.Laws.AppendOwnNone
import Derived.Deep.AppendLies
import Derived.Deep.Draws
import Derived.Test.YtefgepppcmhphaaRows
import Derived.ProofKit
import Derived.OpenShut
import Derived.Outline
namespace Go.Proofs.Ytefgepppcmhphaa
set_option maxRecDepth 100000
set_option linter.unusedVariables false
set_option linter.unusedSimpArgs false
open Go.RowKit

theorem ret_int {k : IntKind} {a b : Int} (h : a = b) : Ending.returned (.int k a) = .returned (.int k b) := by rw [h]
theorem ret_int2 {k : IntKind} {a b : Int} {c d : Bool} (h : a = b) (g : c = d) : Ending.returned (.tuple #[.int k a, .bool c]) = .returned (.tuple #[.int k b, .bool d]) := by rw [h, g]
theorem ret_bool {a b : Bool} (h : a = b) : Ending.returned (.bool a) = .returned (.bool b) := by rw [h]

theorem wrap32_in {n : Int} (h0 : -2147483648 ≤ n) (h1 : n ≤ 2147483647) : wrap32 n = n := by
  unfold wrap32; omega
theorem wrap32_lo (n : Int) : -2147483648 ≤ wrap32 n := by
  unfold wrap32; omega
theorem wrap32_hi (n : Int) : wrap32 n ≤ 2147483647 := by
  unfold wrap32; omega
theorem wrap32_mod (n : Int) : wrap32 n % 4294967296 = n % 4294967296 := by
  unfold wrap32; omega
theorem wrap32_eq {m n : Int} (h : m % 4294967296 = n % 4294967296) : wrap32 m = wrap32 n := by
  unfold wrap32; omega
theorem wrap32_twice (n : Int) : wrap32 (2 * wrap32 n) = wrap32 (2 * n) := by
  unfold wrap32; omega
theorem wrap32_again (n : Int) : wrap32 (wrap32 n) = wrap32 n := wrap32_in (wrap32_lo n) (wrap32_hi n)

theorem wrap32_add (m n : Int) : wrap32 (wrap32 m + wrap32 n) = wrap32 (m + n) := by
  unfold wrap32; omega
theorem wrap32_add_left (m n : Int) : wrap32 (wrap32 m + n) = wrap32 (m + n) := by
  unfold wrap32; omega
theorem wrap32_add_right (m n : Int) : wrap32 (m + wrap32 n) = wrap32 (m + n) := by
  unfold wrap32; omega
theorem wrap32_sub_left (m n : Int) : wrap32 (wrap32 m - n) = wrap32 (m - n) := by
  unfold wrap32; omega
theorem wrap32_mul_left (m n : Int) : wrap32 (wrap32 m * n) = wrap32 (m * n) := by
  apply wrap32_eq
  rw [Int.mul_emod, wrap32_mod, ← Int.mul_emod]

theorem mul_fits {a b : Int} (ha0 : -2147483648 ≤ a) (ha1 : a ≤ 2147483647) (hb0 : -2147483648 ≤ b) (hb1 : b ≤ 2147483647) :
    -4611686018427387904 ≤ a * b ∧ a * b ≤ 4611686018427387904 := by
  have h1 : a.natAbs ≤ 2147483648 := by omega
  have h2 : b.natAbs ≤ 2147483648 := by omega
  have h3 : (a * b).natAbs ≤ 2147483648 * 2147483648 := by
    rw [Int.natAbs_mul]
    exact Nat.mul_le_mul h1 h2
  omega

theorem tdiv_fits (a b : Int) (ha0 : -2147483648 ≤ a) (ha1 : a ≤ 2147483647) : -2147483648 ≤ a.tdiv b ∧ a.tdiv b ≤ 2147483648 := by
  have h : (a.tdiv b).natAbs = a.natAbs / b.natAbs := Int.natAbs_tdiv a b
  have h2 : a.natAbs / b.natAbs ≤ a.natAbs := Nat.div_le_self _ _
  omega
theorem tmod_fits (a b : Int) (ha0 : -2147483648 ≤ a) (ha1 : a ≤ 2147483647) : -2147483648 ≤ a.tmod b ∧ a.tmod b ≤ 2147483647 := by
  have h : (a.tmod b).natAbs = a.natAbs % b.natAbs := Int.natAbs_tmod a b
  have h2 : a.natAbs % b.natAbs ≤ a.natAbs := Nat.mod_le _ _
  by_cases hn : 0 ≤ a
  · have := Int.tmod_nonneg b hn
    omega
  · have e : a = -(-a) := by omega
    have : 0 ≤ (-a).tmod b := Int.tmod_nonneg b (by omega)
    have e2 : a.tmod b = -((-a).tmod b) := by rw [← Int.neg_tmod, ← e]
    omega
theorem shl_step (a : Int) (k : Nat) : wrap32 (2 * wrap32 (a * 2 ^ k)) = wrap32 (a * 2 ^ (k + 1)) := by
  rw [wrap32_twice, Int.pow_succ]
  congr 1
  rw [Int.mul_left_comm, Int.mul_comm 2]

theorem tdiv_neg2 {y : Int} (h : y ≤ 0) : y.tdiv 2 = -((-y) / 2) := by
  have e : y = -(-y) := by omega
  rw [e, Int.neg_tdiv, Int.tdiv_eq_ediv_of_nonneg (by omega)]
  simp

theorem shr_step (a : Int) (k : Nat) : (if a / 2 ^ k < 0 then (a / 2 ^ k - 1).tdiv 2 else (a / 2 ^ k).tdiv 2) = a / 2 ^ (k + 1) := by
  rw [Int.pow_succ, ← Int.ediv_ediv_of_nonneg (Int.le_of_lt (Int.pow_pos (by decide)))]
  generalize a / 2 ^ k = x
  split
  · rw [tdiv_neg2 (by omega)]; omega
  · rw [Int.tdiv_eq_ediv_of_nonneg (by omega)]

theorem shr_range (a : Int) (k : Nat) (h0 : -2147483648 ≤ a) (h1 : a ≤ 2147483647) : -2147483648 ≤ a / 2 ^ k ∧ a / 2 ^ k ≤ 2147483647 := by
  have hp : (0 : Int) < 2 ^ k := Int.pow_pos (by decide)
  constructor
  · rw [Int.le_ediv_iff_mul_le hp]
    have : (1 : Int) ≤ 2 ^ k := hp
    have := Int.mul_le_mul_of_nonneg_left this (show (0 : Int) ≤ 2147483648 by decide)
    omega
  · rw [← Int.lt_add_one_iff, Int.ediv_lt_iff_lt_mul hp]
    have : (1 : Int) ≤ 2 ^ k := hp
    have := Int.mul_le_mul_of_nonneg_left this (show (0 : Int) ≤ 2147483648 by decide)
    omega

theorem tmod32_lo (n : Int) : -4294967296 < n.tmod 4294967296 := by
  by_cases h : 0 ≤ n
  · rw [Int.tmod_eq_emod_of_nonneg h]; omega
  · have e : n = -(-n) := by omega
    rw [e, Int.neg_tmod, Int.tmod_eq_emod_of_nonneg (by omega)]; omega
theorem tmod32_hi (n : Int) : n.tmod 4294967296 < 4294967296 := by
  by_cases h : 0 ≤ n
  · rw [Int.tmod_eq_emod_of_nonneg h]; omega
  · have e : n = -(-n) := by omega
    rw [e, Int.neg_tmod, Int.tmod_eq_emod_of_nonneg (by omega)]; omega
theorem tmod32_mod (n : Int) : n.tmod 4294967296 % 4294967296 = n % 4294967296 := by
  by_cases h : 0 ≤ n
  · rw [Int.tmod_eq_emod_of_nonneg h]; omega
  · have e : n = -(-n) := by omega
    rw [e, Int.neg_tmod, Int.tmod_eq_emod_of_nonneg (by omega)]; omega

/-- The number's bit at place k. -/
def bitAt (n k : Nat) : Nat := n / 2 ^ k % 2
theorem mod_step (n k : Nat) : n % 2 ^ (k + 1) = n % 2 ^ k + 2 ^ k * bitAt n k := Nat.mod_pow_succ
theorem bitAt_01 (n k : Nat) : bitAt n k = 0 ∨ bitAt n k = 1 := by unfold bitAt; omega
theorem bitAt_test (n k : Nat) : bitAt n k = (n.testBit k).toNat := by
  unfold bitAt
  rw [Nat.testBit_eq_decide_div_mod_eq]
  by_cases h : n / 2 ^ k % 2 = 1
  · simp [h]
  · have : n / 2 ^ k % 2 = 0 := by omega
    simp [this]
theorem bitAt_and (a b k : Nat) : bitAt (a &&& b) k = if bitAt a k = 1 ∧ bitAt b k = 1 then 1 else 0 := by
  rw [bitAt_test, bitAt_test, bitAt_test, Nat.testBit_and]
  cases a.testBit k <;> cases b.testBit k <;> rfl
theorem bitAt_xor (a b k : Nat) : bitAt (a ^^^ b) k = if bitAt a k = bitAt b k then 0 else 1 := by
  rw [bitAt_test, bitAt_test, bitAt_test, Nat.testBit_xor]
  cases a.testBit k <;> cases b.testBit k <;> rfl
theorem and_step (A B k : Nat) : (A &&& B) % 2 ^ (k + 1) = (A &&& B) % 2 ^ k + 2 ^ k * (if A / 2 ^ k % 2 = 1 ∧ B / 2 ^ k % 2 = 1 then 1 else 0) := by
  rw [mod_step, bitAt_and]; rfl
theorem xor_step (A B k : Nat) : (A ^^^ B) % 2 ^ (k + 1) = (A ^^^ B) % 2 ^ k + 2 ^ k * (if A / 2 ^ k % 2 = B / 2 ^ k % 2 then 0 else 1) := by
  rw [mod_step, bitAt_xor]; rfl
theorem half_step (n k : Nat) : n / 2 ^ (k + 1) = n / 2 ^ k / 2 := by
  rw [Nat.pow_succ, Nat.div_div_eq_div_mul]

theorem xor_and_sum (a b : Nat) : (a ^^^ b) + 2 * (a &&& b) = a + b := by
  induction a using Nat.strongRecOn generalizing b with
  | ind a ih =>
    by_cases h0 : a = 0
    · subst h0; simp
    · have h := ih (a / 2) (by omega) (b / 2)
      have x1 : (a ^^^ b) / 2 = a / 2 ^^^ b / 2 := Nat.xor_div_two
      have x2 : (a &&& b) / 2 = a / 2 &&& b / 2 := Nat.and_div_two
      have y1 := bitAt_xor a b 0
      have y2 := bitAt_and a b 0
      unfold bitAt at y1 y2
      simp only [Nat.pow_zero, Nat.div_one] at y1 y2
      split at y1 <;> split at y2 <;> omega

/-- A number of 32 bits, without its sign. -/
def plain (n : Int) : Nat := (n % 4294967296).toNat
theorem plain_lt (n : Int) : plain n < 4294967296 := by unfold plain; omega
theorem plain_cast (n : Int) : (plain n : Int) = n % 4294967296 := by unfold plain; omega
theorem bits_and (a b : Int) : bits .and .i32 a b = wrap32 ((plain a &&& plain b : Nat) : Int) := by
  have ha : (BitVec.ofInt 32 a).toNat = plain a := by rw [BitVec.toNat_ofInt]; rfl
  have hb : (BitVec.ofInt 32 b).toNat = plain b := by rw [BitVec.toNat_ofInt]; rfl
  show IntKind.i32.wrap ((BitVec.ofInt 32 a &&& BitVec.ofInt 32 b).toNat : Int) = _
  rw [BitVec.toNat_and, ha, hb, IntKind.wrap_i32]
  unfold wrap32
  exact rfl
theorem bits_xor (a b : Int) : bits .xor .i32 a b = wrap32 ((plain a ^^^ plain b : Nat) : Int) := by
  have ha : (BitVec.ofInt 32 a).toNat = plain a := by rw [BitVec.toNat_ofInt]; rfl
  have hb : (BitVec.ofInt 32 b).toNat = plain b := by rw [BitVec.toNat_ofInt]; rfl
  show IntKind.i32.wrap ((BitVec.ofInt 32 a ^^^ BitVec.ofInt 32 b).toNat : Int) = _
  rw [BitVec.toNat_xor, ha, hb, IntKind.wrap_i32]
  unfold wrap32
  exact rfl
theorem wrap_sum (a b : Int) : wrap32 (bits .xor .i32 a b + wrap32 (bits .and .i32 a b + bits .and .i32 a b)) = wrap32 (a + b) := by
  rw [bits_and, bits_xor]
  have h := xor_and_sum (plain a) (plain b)
  have ha := plain_cast a
  have hb := plain_cast b
  generalize (plain a ^^^ plain b) = X at *
  generalize (plain a &&& plain b) = Y at *
  generalize plain a = A at *
  generalize plain b = B at *
  apply wrap32_eq
  have h1 := wrap32_mod (X : Int)
  have h2 := wrap32_mod (Y : Int)
  have h3 := wrap32_mod (wrap32 (Y : Int) + wrap32 (Y : Int))
  generalize wrap32 (wrap32 (Y : Int) + wrap32 (Y : Int)) = Z at *
  generalize wrap32 (X : Int) = X' at *
  generalize wrap32 (Y : Int) = Y' at *
  omega
theorem plain_wrap (n : Int) : plain (wrap32 n) = plain n := by unfold plain; rw [wrap32_mod]
theorem wrap_plain {n : Int} (h0 : -2147483648 ≤ n) (h1 : n ≤ 2147483647) : wrap32 (plain n : Int) = n := by
  rw [plain_cast]; unfold wrap32; omega
theorem plain_nat {n : Nat} (h : n < 4294967296) : plain (n : Int) = n := by unfold plain; omega
end Go.Proofs.Ytefgepppcmhphaa
namespace Go.Proofs.Ytefgepppcmhphaa
set_option maxRecDepth 100000
set_option linter.unusedVariables false
set_option linter.unusedSimpArgs false
open Go.RowKit

theorem addr_add_block (a : Addr) (n : Nat) : (a.add n).block = a.block := by
  unfold Addr.add; split <;> rfl
theorem addr_add_add (a : Addr) (i j : Nat) : (a.add i).add j = a.add (i + j) := by
  unfold Addr.add
  by_cases hi : i = 0 <;> by_cases hj : j = 0 <;> simp [hi, hj, Nat.add_assoc]

/-- Each of these values stands in the cell at its place behind A, in a block below B. -/
def Lies (w : World) (B : Nat) (A : Option Addr) (xs : List Value) : Prop :=
  ∀ j u, xs[j]? = some u → ∃ ad, A = some ad ∧ ad.block < B ∧ w.cell? (ad.add j) = some u

section
variable {w w' : World} {B B' : Nat} {A : Option Addr} {xs : List Value}
theorem Lies.nil : Lies w B A [] := fun _ _ h => by simp at h
theorem Lies.at_ {k : Nat} (h : Lies w B A xs) (hk : k < xs.length) : ∃ ad, A = some ad ∧ ad.block < B ∧ w.cell? (ad.add k) = some xs[k] :=
  h k _ (List.getElem?_eq_getElem hk)
theorem Lies.keep (h : Lies w B A xs) (hk : ∀ p : Addr, p.block < B → w'.cell? p = w.cell? p) : Lies w' B A xs := fun j u hu => by
  obtain ⟨ad, e, hb, hc⟩ := h j u hu
  exact ⟨ad, e, hb, (hk _ (by rw [addr_add_block]; exact hb)).trans hc⟩
theorem Lies.more (h : Lies w B A xs) (hB : B ≤ B') : Lies w B' A xs := fun j u hu => by
  obtain ⟨ad, e, hb, hc⟩ := h j u hu
  exact ⟨ad, e, Nat.lt_of_lt_of_le hb hB, hc⟩
theorem Lies.below (h : Lies w B A xs) (hb : Below B w w') : Lies w' B A xs := h.keep fun _ hp => hb.cell hp
theorem Lies.below_to {C : Nat} (h : Lies w B A xs) (hb : Below C w w') (hC : B ≤ C) : Lies w' B A xs := h.keep fun _ hp => hb.cell (Nat.lt_of_lt_of_le hp hC)
theorem Lies.drew (h : Lies w B A xs) : Lies w.drew B A xs := h
theorem Lies.drewN (h : Lies w B A xs) (k : Nat) : Lies (w.drewN k) B A xs := h
theorem Lies.drop_ (h : Lies w B A xs) (k : Nat) : Lies w B (A.map (·.add k)) (xs.drop k) := fun j u hu => by
  rw [List.getElem?_drop] at hu
  obtain ⟨ad, e, hb, hc⟩ := h _ _ hu
  exact ⟨ad.add k, by rw [e]; rfl, by rw [addr_add_block]; exact hb, by rw [addr_add_add]; exact hc⟩
theorem Lies.take_ (h : Lies w B A xs) (k : Nat) : Lies w B A (xs.take k) := fun j u hu => by
  rw [List.getElem?_take] at hu
  split at hu
  · exact h j u hu
  · cases hu
/-- What is left of a slice from k on, spelled as the model spells it. -/
theorem Lies.cut (h : Lies w B A xs) {k cap : Nat} (hc : xs.length ≤ cap) : Lies w B (if cap = k then A else A.map (·.add k)) (xs.drop k) := by
  split
  · rename_i e
    rw [List.drop_eq_nil_of_le (by omega)]
    exact Lies.nil
  · exact h.drop_ k
theorem Lies.of_own {base e n c : Nat} (h : w.ownsRow base e 1 (.slice A n c) n xs) : Lies w w.heap.size A xs := by
  rcases h.2 with ⟨hv, hn⟩ | ⟨g, cap, cur, hv, hb, hh, h1, h2, h3, h4⟩
  · have : xs = [] := List.eq_nil_of_length_eq_zero (by rw [h.1, hn])
    rw [this]
    exact Lies.nil
  · intro j u hu
    have hA : A = some ⟨g, 0, none⟩ := by injection hv
    have hg : g < w.heap.size := by
      rcases Nat.lt_or_ge g w.heap.size with hlt | hge
      · exact hlt
      · rw [Array.getElem?_eq_none hge] at hh; cases hh
    refine ⟨⟨g, 0, none⟩, hA, hg, ?_⟩
    have hju : cur.toList[j]? = some u := by
      rw [← h4, List.getElem?_take] at hu
      split at hu
      · exact hu
      · cases hu
    have hcell : w.cell? ⟨g, j, none⟩ = cur[j]? := cell_of_row w g j cur e (0, 0) hh
    have : (Addr.add ⟨g, 0, none⟩ j) = ⟨g, j, none⟩ := by
      unfold Addr.add; split
      · rename_i h0; subst h0; rfl
      · simp
    rw [this, hcell, ← hju]
    simp
end
theorem own_slice {w : World} {base e n : Nat} {v : Value} {xs : List Value} (h : w.ownsRow base e 1 v n xs) : ∃ A c, v = .slice A n c ∧ Lies w w.heap.size A xs := by
  rcases h.2 with ⟨rfl, rfl⟩ | ⟨g, cap, cur, rfl, _⟩
  · exact ⟨none, 0, rfl, Lies.of_own h⟩
  · exact ⟨_, cap, rfl, Lies.of_own h⟩

theorem own_lower {w : World} {base base' e size n : Nat} {v : Value} {xs : List Value} (h : w.ownsRow base e size v n xs) (hb : base' ≤ base) : w.ownsRow base' e size v n xs := by
  refine ⟨h.1, ?_⟩
  rcases h.2 with h0 | ⟨g, cap, cur, hv, hg, rest⟩
  · exact .inl h0
  · exact .inr ⟨g, cap, cur, hv, Nat.le_trans hb hg, rest⟩
/-- An owned row over a change that leaves the blocks below B alone stays, where its block lies below B. -/
theorem own_below {w w' : World} {base e size n B : Nat} {v : Value} {xs : List Value} (h : w.ownsRow base e size v n xs) (hb : Below B w w') (hB : ∀ g, v.ownBlock = some g → g < B) : w'.ownsRow base e size v n xs := by
  refine ⟨h.1, ?_⟩
  rcases h.2 with h0 | ⟨g, cap, cur, hv, hg, hh, rest⟩
  · exact .inl h0
  · refine .inr ⟨g, cap, cur, hv, hg, ?_, rest⟩
    rw [hb.block g (hB g (by rw [hv]; rfl))]
    exact hh
theorem own_block_lt {w : World} {base e size n : Nat} {v : Value} {xs : List Value} (h : w.ownsRow base e size v n xs) : ∀ g, v.ownBlock = some g → g < w.heap.size := by
  intro g hg
  rcases h.2 with ⟨rfl, _⟩ | ⟨g', cap, cur, rfl, hb, hh, _⟩
  · simp [Value.ownBlock] at hg
  · have : g' = g := by simpa [Value.ownBlock] using hg
    subst this
    rcases Nat.lt_or_ge g' w.heap.size with hlt | hge
    · exact hlt
    · rw [Array.getElem?_eq_none hge] at hh; cases hh

/-- append onto a row of the call's own, of whatever lies behind a slice, nil or not: at the operation. -/
theorem wp_app {P : Program} {w : World} {o : Oper} {a : Act} {K : Act → World → Prop} {Q : Exit → Act → World → Prop} (s x : Operand) (t : TypeId)
    (ho : o.op = .call { callee := .builtin .append, args := #[s, x], argTypes := #[t, t] })
    (base : Nat) (e : TypeId) (i : TypeInfo) (z : Value) (bytes : Nat) (ht : P.underlying t = some (.slice e)) (hi : P.info? e = some i) (hz : i.zero = some z)
    (hsize : i.size = 1) (hby : i.bytes = bytes) (hzs : z.cells.size = 1)
    (v : Value) (n : Nat) (xs : List Value) (hs : a.eval s = v) (hown : w.ownsRow base e 1 v n xs)
    (A : Option Addr) (m c B : Nat) (news : List Value) (hm : news.length = m) (hx : a.eval x = .slice A m c) (hA : A = none → c = 0) (hl : Lies w B A news) (h1 : ∀ u ∈ news, u.oneCell' = true)
    (h63 : n + m ≤ maxLen) (hbytes : (n + m) * bytes ≤ 140737488355328) (hbase : base ≤ w.heap.size)
    (h : ∀ v' w', w'.ownsRow base e 1 v' (n + m) (xs ++ news) → w.grownBy w' v.ownBlock → K (a.put o.dst v') w') : o.wp P a w K Q := by
  subst hm
  rcases A with _ | ad
  · have hc : c = 0 := hA rfl
    subst hc
    have hn : news = [] := by
      cases news with
      | nil => rfl
      | cons b r =>
        obtain ⟨ad, e, _⟩ := hl 0 b rfl
        cases e
    subst hn
    have hrun := run_append_owned_none (P := P) (w := w) base t o.type e i 1 ht hi v n xs hown
    have hk := h v w (by simpa using hown) (World.grownBy.refl _ _)
    unfold Oper.wp
    simp [execOp, ho, resolve, invoke, builtin, hs, hx, hrun, Result.andThen]
    exact hk
  · refine wp_append_own w s x t ho base e i z 1 bytes ht hi hz hsize hby hzs (by decide) v n xs hs hown ad news.length c news hx (by simp) (fun j u hu => ?_) h1 h63 hbytes hbase fun v' w' h2 h3 _ => h v' w' h2 h3
    obtain ⟨ad', e, _, hc⟩ := hl j u hu
    injection e with e
    subst e
    exact hc
/-- The same in a region's list of operations. -/
theorem append_lies {P : Program} {w : World} {ops : Array Oper} {rest : List Oper} {o : Oper} {a : Act} {Q : Exit → Act → World → Prop} (hgd : o.guard = none) (s x : Operand) (t : TypeId)
    (ho : o.op = .call { callee := .builtin .append, args := #[s, x], argTypes := #[t, t] })
    (base : Nat) (e : TypeId) (i : TypeInfo) (z : Value) (bytes : Nat) (ht : P.underlying t = some (.slice e)) (hi : P.info? e = some i) (hz : i.zero = some z)
    (hsize : i.size = 1) (hby : i.bytes = bytes) (hzs : z.cells.size = 1)
    (v : Value) (n : Nat) (xs : List Value) (hs : a.eval s = v) (hown : w.ownsRow base e 1 v n xs)
    (A : Option Addr) (m c B : Nat) (news : List Value) (hm : news.length = m) (hx : a.eval x = .slice A m c) (hA : A = none → c = 0) (hl : Lies w B A news) (h1 : ∀ u ∈ news, u.oneCell' = true)
    (h63 : n + m ≤ maxLen) (hbytes : (n + m) * bytes ≤ 140737488355328) (hbase : base ≤ w.heap.size)
    (h : ∀ v' w', w'.ownsRow base e 1 v' (n + m) (xs ++ news) → w.grownBy w' v.ownBlock → wpList P ops Q rest (a.put o.dst v') w') : wpList P ops Q (o :: rest) a w :=
  wpList_plain hgd fun _ hK => wp_app s x t ho base e i z bytes ht hi hz hsize hby hzs v n xs hs hown A m c B news hm hx hA hl h1 h63 hbytes hbase fun v' w' h2 h3 => hK _ _ (h v' w' h2 h3)
/-- The same at a step of a region that draws its order. -/
theorem step_app {P : Program} {w : World} {ops : Array Oper} {o : Oper} {a : Act} {K : Act → World → Prop} {Q : Exit → Act → World → Prop} {E : Prop} (hgd : o.guard = none) (s x : Operand) (t : TypeId)
    (ho : o.op = .call { callee := .builtin .append, args := #[s, x], argTypes := #[t, t] })
    (base : Nat) (e : TypeId) (i : TypeInfo) (z : Value) (bytes : Nat) (ht : P.underlying t = some (.slice e)) (hi : P.info? e = some i) (hz : i.zero = some z)
    (hsize : i.size = 1) (hby : i.bytes = bytes) (hzs : z.cells.size = 1)
    (v : Value) (n : Nat) (xs : List Value) (hs : a.eval s = v) (hown : w.ownsRow base e 1 v n xs)
    (A : Option Addr) (m c B : Nat) (news : List Value) (hm : news.length = m) (hx : a.eval x = .slice A m c) (hA : A = none → c = 0) (hl : Lies w B A news) (h1 : ∀ u ∈ news, u.oneCell' = true)
    (h63 : n + m ≤ maxLen) (hbytes : (n + m) * bytes ≤ 140737488355328) (hbase : base ≤ w.heap.size)
    (h : ∀ v' w', w'.ownsRow base e 1 v' (n + m) (xs ++ news) → w.grownBy w' v.ownBlock → K (a.put o.dst v') w') :
    if Region.wanted o (yielded ops a.tmps) = true then Oper.wp P o a w K Q else E := by
  have hw : Region.wanted o (yielded ops a.tmps) = true := by simp [Region.wanted, hgd]
  rw [if_pos hw]
  exact wp_app s x t ho base e i z bytes ht hi hz hsize hby hzs v n xs hs hown A m c B news hm hx hA hl h1 h63 hbytes hbase h
theorem lies_alloc {w : World} {B : Nat} {A : Option Addr} {xs : List Value} (H : Hid (Lies w B A xs)) (HB : Hid (B ≤ w.heap.size)) (o : Obj) : Lies (w.alloc o) B A xs :=
  H.out.keep fun p hp => World.cell?_alloc_lt w o p (Nat.lt_of_lt_of_le hp HB.out)
theorem own_empty (w : World) (T : TypeId) : (w.alloc (.cells #[] T)).ownsRow w.heap.size T 1 (.slice (some ⟨w.heap.size, 0, none⟩) 0 0) 0 [] :=
  ⟨rfl, .inr ⟨w.heap.size, 0, #[], rfl, Nat.le_refl _, heap_alloc_new _ _, Nat.le_refl _, by unfold maxLen; omega, rfl, rfl⟩⟩
/-- What such an append leaves, onto a row just made. -/
theorem app_out {W w1 : World} {e T : TypeId} {m : Nat} {v' : Value} {news : List Value} (hown : w1.ownsRow W.heap.size e 1 v' (0 + m) ([] ++ news)) (hgrow : (W.alloc (.cells #[] T)).grownBy w1 (Value.slice (some ⟨W.heap.size, 0, none⟩) 0 0).ownBlock) :
    w1.ownsRow W.heap.size e 1 v' m news ∧ Below W.heap.size W w1 := by
  refine ⟨by simpa using hown, ((Below.refl _ _).alloc (Nat.le_refl _) _).grown hgrow (by simp) fun k hk => ?_⟩
  have : W.heap.size = k := by simpa [Value.ownBlock] using hk
  omega
theorem u8_one (l : List Int) : ∀ u ∈ l.map (Value.int .u8), u.oneCell' = true := by
  intro u hu
  obtain ⟨n, _, rfl⟩ := List.mem_map.mp hu
  rfl
/-- A type as a value: its kind and its number. -/
abbrev tyV (k n : Int) : Value := .agg #[.int .i64 k, .int .i64 n]
/-- Of a slice of classes: the class above each one, as it stands in memory. -/
def Supers (w : World) (B : Nat) (A : Option Addr) (sup : List Int) : Prop :=
  ∀ i s, sup[i]? = some s → ∃ ad, A = some ad ∧ ad.block < B ∧ w.cell? (ad.add (i * 3)) = some (.int .i64 s)
theorem Supers.below_to {w w' : World} {B C : Nat} {A : Option Addr} {sup : List Int} (h : Supers w B A sup) (hb : Below C w w') (hC : B ≤ C) : Supers w' B A sup := fun i s hs => by
  obtain ⟨ad, e, hlt, hc⟩ := h i s hs
  exact ⟨ad, e, hlt, (hb.cell (by rw [addr_add_block]; omega)).trans hc⟩

/-- A row of the call's own with these bytes, written out. -/
theorem own_bytes {w : World} {B e : Nat} {v : Value} {l : List Int} (h : w.ownsRow B e 1 v l.length (l.map (Value.int .u8))) (hl : 0 < l.length) :
    ∃ g cap, v = .slice (some ⟨g, 0, none⟩) l.length cap ∧ l.length ≤ cap ∧ cap ≤ 9223372036854775807 ∧ B ≤ g ∧ g < w.heap.size ∧ Lies w w.heap.size (some ⟨g, 0, none⟩) (l.map (Value.int .u8)) := by
  have hlt := own_block_lt h
  rcases h.2 with ⟨_, hn⟩ | ⟨g, cap, cur, rfl, hb, _, h1, h2, _⟩
  · omega
  · exact ⟨g, cap, rfl, h1, by unfold maxLen at h2; omega, hb, hlt g rfl, Lies.of_own h⟩
theorem lies_cell {w : World} {B g : Nat} {xs : List Value} (h : Lies w B (some ⟨g, 0, none⟩) xs) (j : Nat) (hj : j < xs.length) : w.cell? ⟨g, j, none⟩ = some xs[j] := by
  obtain ⟨ad, e, _, hc⟩ := h.at_ hj
  injection e with e
  subst e
  have e : (Addr.add ⟨g, 0, none⟩ j) = ⟨g, j, none⟩ := by
    unfold Addr.add; split
    · rename_i h0; subst h0; rfl
    · simp
  rw [← e]
  exact hc
theorem below_drewN' {B : Nat} {a w : World} (h : Below B a w) (n : Nat) : Below B a (w.drewN n) := ⟨h.os, h.tape, h.output, h.size, h.block⟩
/-- What an append leaves, onto a row of the call's own. -/
theorem app_more {B : Nat} {w w1 w2 : World} {e : TypeId} {v v' : Value} {n m : Nat} {xs ys : List Int} (hb : Below B w w1) (hown : w1.ownsRow B e 1 v n (xs.map (Value.int .u8))) (hB : B ≤ w1.heap.size)
    (hown' : w2.ownsRow B e 1 v' (n + m) (xs.map (Value.int .u8) ++ ys.map (Value.int .u8))) (hgrow : w1.grownBy w2 v.ownBlock) : w2.ownsRow B e 1 v' (n + m) ((xs ++ ys).map (Value.int .u8)) ∧ Below B w w2 :=
  ⟨by simpa using hown', hb.grown hgrow hB (fun k hk => (hown.lt k hk).1)⟩
theorem own_slice_nil {w : World} {base e n : Nat} {v : Value} {xs : List Value} (h : w.ownsRow base e 1 v n xs) : ∃ A c, v = .slice A n c ∧ Lies w w.heap.size A xs ∧ (A = none → c = 0) := by
  rcases h.2 with ⟨rfl, rfl⟩ | ⟨g, cap, cur, rfl, _⟩
  · exact ⟨none, 0, rfl, Lies.of_own h, fun _ => rfl⟩
  · exact ⟨_, cap, rfl, Lies.of_own h, fun h => by cases h⟩
end Go.Proofs.Ytefgepppcmhphaa
namespace Go.Proofs.Ytefgepppcmhphaa
set_option maxRecDepth 100000
set_option linter.unusedVariables false
set_option linter.unusedSimpArgs false
open Go.RowKit

/-- An instruction, where it stands. -/
def InsAt (w : World) (p : Addr) (x y z : Int) : Prop := w.cell? p = some (.int .i64 x) ∧ w.cell? ⟨p.block, p.off + 1, none⟩ = some (.int .i64 y) ∧ w.cell? ⟨p.block, p.off + 2, none⟩ = some (.int .i64 z)
theorem InsAt.keep {w w' : World} {p : Addr} {x y z : Int} {B : Nat} (h : InsAt w p x y z) (hb : Below B w w') (hp : p.block < B) : InsAt w' p x y z :=
  ⟨(hb.cell hp).trans h.1, (hb.cell (p := ⟨p.block, p.off + 1, none⟩) hp).trans h.2.1, (hb.cell (p := ⟨p.block, p.off + 2, none⟩) hp).trans h.2.2⟩
/-- A slice of instructions, where they stand. -/
def InsRow (w : World) (B : Nat) (A : Option Addr) (L : List (Int × Int × Int)) : Prop :=
  ∀ i x, L[i]? = some x → ∃ ad, A = some ad ∧ ad.block < B ∧ InsAt w (ad.add (i * 3)) x.1 x.2.1 x.2.2

/-- What stands at an address, below a block number. -/
abbrev AtP (α : Type) := World → Nat → Addr → α → Prop
/-- It stays where the blocks below that number stay. -/
def Keeps {α : Type} (At : AtP α) : Prop := ∀ ⦃w w' : World⦄ ⦃B C : Nat⦄ ⦃p : Addr⦄ ⦃x : α⦄, At w B p x → p.block < B → B ≤ C → (∀ q : Addr, q.block < B → w'.cell? q = w.cell? q) → At w' C p x
/-- Things one behind the other, each of k cells. -/
def RowOf {α : Type} (At : AtP α) (k : Nat) (w : World) (B : Nat) (A : Option Addr) (l : List α) : Prop :=
  ∀ i x, l[i]? = some x → ∃ ad, A = some ad ∧ ad.block < B ∧ At w B (ad.add (i * k)) x

section
variable {α : Type} {At : AtP α} {k : Nat} {w w' : World} {B C : Nat} {A : Option Addr} {l : List α}
theorem RowOf.nil : RowOf At k w B A [] := fun _ _ h => by simp at h
theorem RowOf.keep' (hK : Keeps At) (h : RowOf At k w B A l) (hC : B ≤ C) (hc : ∀ q : Addr, q.block < B → w'.cell? q = w.cell? q) : RowOf At k w' C A l := fun i x hi => by
  obtain ⟨ad, e, hb, ha⟩ := h i x hi
  exact ⟨ad, e, Nat.lt_of_lt_of_le hb hC, hK ha (by rw [addr_add_block]; exact hb) hC hc⟩
theorem RowOf.below (hK : Keeps At) (h : RowOf At k w B A l) (hb : Below B w w') : RowOf At k w' B A l := h.keep' hK (Nat.le_refl _) fun _ hq => hb.cell hq
theorem RowOf.below_to (hK : Keeps At) (h : RowOf At k w B A l) (hb : Below C w w') (hC : B ≤ C) : RowOf At k w' B A l := h.keep' hK (Nat.le_refl _) fun _ hq => hb.cell (Nat.lt_of_lt_of_le hq hC)
theorem RowOf.more (hK : Keeps At) (h : RowOf At k w B A l) (hC : B ≤ C) : RowOf At k w C A l := h.keep' hK hC fun _ _ => rfl
theorem RowOf.at_ {i : Nat} (h : RowOf At k w B A l) (hi : i < l.length) : ∃ ad, A = some ad ∧ ad.block < B ∧ At w B (ad.add (i * k)) l[i] := h i _ (List.getElem?_eq_getElem hi)
theorem RowOf.take_ (h : RowOf At k w B A l) (n : Nat) : RowOf At k w B A (l.take n) := fun i x hi => by
  rw [List.getElem?_take] at hi
  split at hi
  · exact h i x hi
  · cases hi
end

/-- The address so many cells behind one, as the walk spells it. -/
abbrev off_ (p : Addr) (n : Nat) : Addr := ⟨p.block, p.off + n, none⟩

def IntAt : AtP Int := fun w _ p n => w.cell? p = some (.int .i64 n)
theorem IntAt.keeps : Keeps IntAt := fun _ _ _ _ p _ h hp _ hc => (hc _ hp).trans h
/-- A number of 32 bits. -/
def LongAt : AtP Int := fun w _ p n => w.cell? p = some (.int .i32 n) ∧ -2147483648 ≤ n ∧ n ≤ 2147483647
theorem LongAt.keeps : Keeps LongAt := fun _ _ _ _ p _ h hp _ hc => ⟨(hc _ hp).trans h.1, h.2⟩
def TyAt : AtP (Int × Int) := fun w _ p t => w.cell? p = some (.int .i64 t.1) ∧ w.cell? (off_ p 1) = some (.int .i64 t.2)
theorem TyAt.keeps : Keeps TyAt := fun _ _ _ _ p _ h hp _ hc => ⟨(hc _ hp).trans h.1, (hc (off_ p 1) hp).trans h.2⟩
def CodeAt : AtP (Int × Int × Int) := fun w _ p i => w.cell? p = some (.int .i64 i.1) ∧ w.cell? (off_ p 1) = some (.int .i64 i.2.1) ∧ w.cell? (off_ p 2) = some (.int .i64 i.2.2)
theorem CodeAt.keeps : Keeps CodeAt := fun _ _ _ _ p _ h hp _ hc => ⟨(hc _ hp).trans h.1, (hc (off_ p 1) hp).trans h.2.1, (hc (off_ p 2) hp).trans h.2.2⟩

/-- A slice of such things, as a value: its length, its room, what it holds. -/
structure SlcIs {α : Type} (At : AtP α) (k : Nat) (w : World) (B : Nat) (A : Option Addr) (cap : Nat) (l : List α) : Prop where
  le : l.length ≤ cap
  cap : cap ≤ 9223372036854775807
  row : RowOf At k w B A l
/-- A cell that holds such a slice. -/
def SlcAt {α : Type} (At : AtP α) (k : Nat) : AtP (List α) := fun w B p l => ∃ A cap, w.cell? p = some (.slice A l.length cap) ∧ SlcIs At k w B A cap l
theorem SlcIs.keep' {α : Type} {At : AtP α} (hK : Keeps At) {k : Nat} {w w' : World} {B C : Nat} {A : Option Addr} {cap : Nat} {l : List α} (h : SlcIs At k w B A cap l) (hC : B ≤ C) (hc : ∀ q : Addr, q.block < B → w'.cell? q = w.cell? q) : SlcIs At k w' C A cap l :=
  ⟨h.le, h.cap, h.row.keep' hK hC hc⟩
theorem SlcIs.below_to {α : Type} {At : AtP α} (hK : Keeps At) {k : Nat} {w w' : World} {B C : Nat} {A : Option Addr} {cap : Nat} {l : List α} (h : SlcIs At k w B A cap l) (hb : Below C w w') (hC : B ≤ C) : SlcIs At k w' B A cap l :=
  h.keep' hK (Nat.le_refl _) fun _ hq => hb.cell (Nat.lt_of_lt_of_le hq hC)
theorem SlcAt.keeps {α : Type} {At : AtP α} (hK : Keeps At) (k : Nat) : Keeps (SlcAt At k) := fun _ _ _ _ _ _ ⟨A, cap, h, hs⟩ hp hC hc => ⟨A, cap, (hc _ hp).trans h, hs.keep' hK hC hc⟩
end Go.Proofs.Ytefgepppcmhphaa
namespace Go.Proofs.Ytefgepppcmhphaa
set_option maxRecDepth 100000
set_option linter.unusedVariables false
set_option linter.unusedSimpArgs false
open Go.RowKit

structure Cls where
  sup : Int
  fields : List (Int × Int)
  slots : List Int
deriving DecidableEq
structure Mth where
  args : List (Int × Int)
  locals : List (Int × Int)
  ret : Int × Int
  code : List (Int × Int × Int)
  depth : Int
  pot : Int
  phi : List Int
deriving DecidableEq
structure Img where
  classes : List Cls
  statics : List (Int × Int)
  ints : List Int
  methods : List Mth
  entries : List Int
  stack : Int
  heap : Int
deriving DecidableEq

/-- A class, where it stands. -/
structure ClsAt (w : World) (B : Nat) (p : Addr) (c : Cls) : Prop where
  sup : w.cell? p = some (.int .i64 c.sup)
  fields : SlcAt TyAt 2 w B (off_ p 1) c.fields
  slots : SlcAt IntAt 1 w B (off_ p 2) c.slots
  rng : -9223372036854775808 ≤ c.sup ∧ c.sup ≤ 9223372036854775807
theorem ClsAt.keeps : Keeps ClsAt := fun _ _ _ _ _ _ h hp hC hc => ⟨(hc _ hp).trans h.sup, SlcAt.keeps TyAt.keeps 2 h.fields hp hC hc, SlcAt.keeps IntAt.keeps 1 h.slots hp hC hc, h.rng⟩
/-- A method, where it stands. -/
structure MthAt (w : World) (B : Nat) (p : Addr) (x : Mth) : Prop where
  args : SlcAt TyAt 2 w B p x.args
  locals : SlcAt TyAt 2 w B (off_ p 1) x.locals
  ret0 : w.cell? (off_ p 2) = some (.int .i64 x.ret.1)
  ret1 : w.cell? (off_ p 3) = some (.int .i64 x.ret.2)
  code : SlcAt CodeAt 3 w B (off_ p 4) x.code
  depth : w.cell? (off_ p 5) = some (.int .i64 x.depth)
  pot : w.cell? (off_ p 6) = some (.int .i64 x.pot)
  phi : SlcAt IntAt 1 w B (off_ p 7) x.phi
theorem MthAt.keeps : Keeps MthAt := fun _ _ _ _ p _ h hp hC hc =>
  ⟨SlcAt.keeps TyAt.keeps 2 h.args hp hC hc, SlcAt.keeps TyAt.keeps 2 h.locals hp hC hc, (hc (off_ p 2) hp).trans h.ret0, (hc (off_ p 3) hp).trans h.ret1, SlcAt.keeps CodeAt.keeps 3 h.code hp hC hc,
    (hc (off_ p 5) hp).trans h.depth, (hc (off_ p 6) hp).trans h.pot, SlcAt.keeps IntAt.keeps 1 h.phi hp hC hc⟩

/-- An image's slices: where they begin, how much room they have. -/
structure Hnd where
  A0 : Option Addr
  A1 : Option Addr
  A2 : Option Addr
  A3 : Option Addr
  A4 : Option Addr
  c0 : Nat
  c1 : Nat
  c2 : Nat
  c3 : Nat
  c4 : Nat
/-- An image by value. -/
abbrev imgV (h : Hnd) (m : Img) : Value :=
  .agg #[.slice h.A0 m.classes.length h.c0, .slice h.A1 m.statics.length h.c1, .slice h.A2 m.ints.length h.c2, .slice h.A3 m.methods.length h.c3, .slice h.A4 m.entries.length h.c4, .int .i64 m.stack, .int .i64 m.heap]
/-- It stands for an image. -/
structure ImgIn (w : World) (B : Nat) (h : Hnd) (m : Img) : Prop where
  classes : SlcIs ClsAt 3 w B h.A0 h.c0 m.classes
  statics : SlcIs TyAt 2 w B h.A1 h.c1 m.statics
  ints : SlcIs LongAt 1 w B h.A2 h.c2 m.ints
  methods : SlcIs MthAt 8 w B h.A3 h.c3 m.methods
  entries : SlcIs IntAt 1 w B h.A4 h.c4 m.entries
theorem ImgIn.keep' {w w' : World} {B C : Nat} {h : Hnd} {m : Img} (H : ImgIn w B h m) (hC : B ≤ C) (hc : ∀ q : Addr, q.block < B → w'.cell? q = w.cell? q) : ImgIn w' C h m :=
  ⟨H.classes.keep' ClsAt.keeps hC hc, H.statics.keep' TyAt.keeps hC hc, H.ints.keep' LongAt.keeps hC hc, H.methods.keep' MthAt.keeps hC hc, H.entries.keep' IntAt.keeps hC hc⟩
theorem ImgIn.below_to {w w' : World} {B C : Nat} {h : Hnd} {m : Img} (H : ImgIn w B h m) (hb : Below C w w') (hC : B ≤ C) : ImgIn w' B h m := H.keep' (Nat.le_refl _) fun _ hq => hb.cell (Nat.lt_of_lt_of_le hq hC)
theorem ImgIn.more {w : World} {B C : Nat} {h : Hnd} {m : Img} (H : ImgIn w B h m) (hC : B ≤ C) : ImgIn w C h m := H.keep' hC fun _ _ => rfl
end Go.Proofs.Ytefgepppcmhphaa
namespace Go.Proofs.Ytefgepppcmhphaa
set_option maxRecDepth 100000
set_option linter.unusedVariables false
set_option linter.unusedSimpArgs false
set_option linter.unusedVariables false
open Go.ChangeShapes Go.WideShapes Go.ChangeAt Go.RowKit

/-- Is a number one of some? -/
def inB (l : List Int) (n : Int) : Bool := decide (n ∈ l)
theorem inB_nil (n : Int) : inB [] n = false := rfl

theorem rin_any (l : List Int) (n : Int) (A : Option Addr) (cap B : Nat) (w : World) (hl : l.length ≤ 9223372036854775807) (h : Lies w B A (l.map (Value.int .i64))) :
    Calls Try.prog 25 #[.slice A l.length cap, .int .i64 n] w fun e w' => e = .returned (.bool (inB l n)) ∧ w = w' := by
  have HL := Lib.hid h
  clear h
  go_enter Try.func25, Try.ntmps25
  go_wp2
  go_loop [5] (fun i => ∃ k : Nat, k ≤ l.length ∧ i = .int .i64 k ∧ inB l n = inB (l.drop k) n) (fun i => l.length - (intOf i).toNat)
  case atStart => exact ⟨0, by omega, rfl, rfl⟩
  case round =>
    obtain ⟨k, hk, rfl, hn⟩ := hrel
    have HN := Lib.hid hn
    clear hn
    by_cases hlt : k < l.length
    · obtain ⟨ad, rfl, _, hc⟩ := HL.out.at_ (k := k) (by simpa using hlt)
      have E1 := Lib.hid (List.drop_eq_getElem_cons hlt)
      simp only [List.getElem_map] at hc
      generalize l[k] = b at *
      by_cases hb : b = n
      · subst hb
        have R := Lib.hid (show inB l b = true by rw [HN.out, E1.out]; simp [inB])
        clear HN E1
        go_wp2_with fail
        go_ret
        refine ⟨?_, rfl⟩
        rw [R.out]
        rfl
      · have R := Lib.hid (show inB l n = inB (l.drop (k + 1)) n by
          rw [HN.out, E1.out]; unfold inB; simp only [List.mem_cons]; rw [decide_eq_decide]; constructor
          · rintro (h | h)
            · exact absurd h.symm hb
            · exact h
          · exact .inr)
        clear HN E1
        go_wp2_with fail
        go_round
        case rel => exact ⟨k + 1, by omega, by go_num, R.out⟩
        case measure => simp [intOf]; omega
    · have R := Lib.hid (show inB l n = false by rw [HN.out, List.drop_eq_nil_of_le (by omega)]; rfl)
      clear HN
      go_wp2_with fail
      go_ret
      refine ⟨?_, rfl⟩
      rw [R.out]
      rfl
/-- The call leaves the first world's blocks alone, as what went before it did. -/
theorem calls_ctx {P : Program} {f : FuncId} {args : Array Value} {w0 w : World} {r : Ending} (hb : Below w0.heap.size w0 w) (h : Calls P f args w fun e w' => e = r ∧ Below w.heap.size w w') :
    Calls P f args w fun e w' => e = r ∧ Below w0.heap.size w0 w' := h.mono fun _ _ ⟨he, hw⟩ => ⟨he, hb.trans (hw.mono hb.size)⟩
end Go.Proofs.Ytefgepppcmhphaa
namespace Go.Proofs.Ytefgepppcmhphaa
set_option maxRecDepth 100000
set_option linter.unusedVariables false
set_option linter.unusedSimpArgs false
set_option linter.unusedVariables false
open Go.ChangeShapes Go.WideShapes Go.ChangeAt Go.RowKit

def isRefB (k : Int) : Bool := decide (k = 2 ∨ k = 3 ∨ k = 4)
def goodB (k n c : Int) : Bool := decide ((k = 1 ∨ k = 2) ∧ n = 0 ∨ k = 3 ∧ 0 ≤ n ∧ n < c)

theorem risref_any (k n : Int) (w : World) : Calls Try.prog 53 #[tyV k n] w fun e w' => e = .returned (.bool (isRefB k)) ∧ Below w.heap.size w w' := by
  by_cases h : k = 2 ∨ k = 3 ∨ k = 4
  · have E := Lib.hid (show isRefB k = true from decide_eq_true h)
    rcases h with rfl | rfl | rfl
    all_goals
      go_enter Try.func53, Try.ntmps53
      go_wp2
      go_ret
      refine ⟨?_, ?_⟩
      · rw [E.out]; rfl
      · exact (Below.refl _ _).alloc (Nat.le_refl _) _
  · have E := Lib.hid (show isRefB k = false from decide_eq_false h)
    have h2 : ¬ k = 2 := by omega
    have h3 : ¬ k = 3 := by omega
    have h4 : ¬ k = 4 := by omega
    clear h
    go_enter Try.func53, Try.ntmps53
    go_wp2
    go_ret
    refine ⟨?_, ?_⟩
    · rw [E.out]; simp [h2, h3, h4]
    · exact (Below.refl _ _).alloc (Nat.le_refl _) _

/-- A class, and all above it, the nearest one first. -/
def aboveOf (sup : List Int) (c : Nat) : List Int := match sup[c]? with
  | none => []
  | some s => (c : Int) :: (if h : 0 ≤ s ∧ s < c then aboveOf sup s.toNat else [])
termination_by c
decreasing_by omega
def aboveI (sup : List Int) (c : Int) : List Int := if 0 ≤ c then aboveOf sup c.toNat else []
theorem aboveOf_none {sup : List Int} {c : Nat} (h : sup.length ≤ c) : aboveOf sup c = [] := by
  rw [aboveOf, List.getElem?_eq_none h]
theorem aboveOf_some {sup : List Int} {c : Nat} {s : Int} (h : sup[c]? = some s) : aboveOf sup c = (c : Int) :: (if s < c then aboveI sup s else []) := by
  rw [aboveOf, h]
  dsimp only
  unfold aboveI
  by_cases h1 : s < c
  · by_cases h2 : 0 ≤ s
    · rw [dif_pos ⟨h2, h1⟩, if_pos h1, if_pos h2]
    · rw [dif_neg (fun g => h2 g.1), if_pos h1, if_neg h2]
  · rw [dif_neg (fun g => h1 g.2), if_neg h1]
theorem aboveOf_len (sup : List Int) (c : Nat) : (aboveOf sup c).length ≤ c + 1 := by
  induction c using Nat.strongRecOn with
  | ind c ih =>
    rw [aboveOf]
    split
    · simp
    · rename_i s _
      by_cases h : 0 ≤ s ∧ s < c
      · rw [dif_pos h]
        have := ih s.toNat (by omega)
        simp; omega
      · rw [dif_neg h]; simp

theorem info_int : (Try.prog.info? 3).map (fun i => (i.zero, i.size, i.bytes)) = some (some (.int .i64 0), 1, 8) := by kernel_rfl

/-- A slice of the call's own that holds these numbers. -/
def OwnInts (l : List Int) (w : World) (e : Ending) (w' : World) : Prop :=
  ∃ v, e = .returned v ∧ w'.ownsRow w.heap.size 3 1 v l.length (l.map (Value.int .i64)) ∧ Below w.heap.size w w'

theorem own_snoc64 {B : Nat} {w w1 : World} {e : TypeId} {v v' : Value} {pre : List Int} {b : Int} {o : Obj} {wr : World}
    (hown : wr.ownsRow B e 1 v pre.length (pre.map (Value.int .i64))) (hB : B ≤ wr.heap.size) (hnx : Below B w wr)
    (hown' : w1.ownsRow B e 1 v' (pre.length + 1) (pre.map (Value.int .i64) ++ [.int .i64 b])) (hgrow : (wr.alloc o).grownBy w1 v.ownBlock) :
    w1.ownsRow B e 1 v' (pre ++ [b]).length ((pre ++ [b]).map (Value.int .i64)) ∧ Below B w w1 :=
  ⟨by simpa using hown', (hnx.alloc hB o).grown hgrow (by simp; omega) (fun j hj => (hown.lt j hj).1)⟩

set_option maxRecDepth 1000000 in
set_option maxHeartbeats 1600000 in
theorem rabove_any (sup : List Int) (c : Int) (A : Option Addr) (cap B : Nat) (w : World) (hl : sup.length ≤ 1048576) (hB : B ≤ w.heap.size) (h : Supers w B A sup) :
    Calls Try.prog 54 #[.slice A sup.length cap, .int .i64 c] w (OwnInts (aboveI sup c) w) := by
  obtain ⟨i0, hi, hz0, hz1, hz2⟩ := info_parts info_int
  have HL := Lib.hid h
  clear h
  go_enter Try.func54, Try.ntmps54
  go_wp2
  go_loopw [1, 5] (fun a v wr => ∃ (C : Int) (pre : List Int), a = .int .i64 C ∧ pre ++ aboveI sup C = aboveI sup c ∧ pre.length ≤ 1048576 ∧ (0 ≤ C → C < sup.length → pre.length + C + 1 ≤ sup.length) ∧
      wr.ownsRow w.heap.size 3 1 v pre.length (pre.map (Value.int .i64)) ∧ Below w.heap.size w wr) (fun a _ _ => (intOf a + 1).toNat)
  case atStart =>
    refine ⟨c, [], rfl, rfl, by simp, by simp; omega, ⟨rfl, .inr ⟨w.heap.size, 0, #[], rfl, Nat.le_refl _, heap_alloc_new _ _, Nat.le_refl _, by unfold maxLen; omega, rfl, rfl⟩⟩, (Below.refl _ _).alloc (Nat.le_refl _) _⟩
  case round =>
    obtain ⟨C, pre, rfl, hpre, hp1, hp2, hown, hnx⟩ := hrel
    have HP := Lib.hid hpre
    clear hpre
    by_cases h0 : 0 ≤ C
    · by_cases h1 : C < sup.length
      · obtain ⟨K, rfl⟩ := Int.eq_ofNat_of_zero_le h0
        have hlt : K < sup.length := by omega
        have hs0 := List.getElem?_eq_getElem hlt
        obtain ⟨ad, rfl, hab, hc⟩ := HL.out K _ hs0
        have A1 := Lib.hid (aboveOf_some hs0)
        clear hs0
        generalize sup[K] = s at *
        have hp3 : pre.length + K + 1 ≤ sup.length := by have := hp2 h0 h1; omega
        clear hp2
        have hcr := (hnx.cell (p := ad.add (K * 3)) (by rw [addr_add_block]; omega)).trans hc
        clear hc
        go_wp2_with (at_builtin; refine wpList_append_own _ rfl _ _ 26 rfl w.heap.size 3 i0 (.int .i64 0) 1 8 Try.underlying26 hi hz0 hz1 hz2 rfl (by decide) _ _ _ rfl (hown.alloc _) ⟨_, 0, none⟩ 1 1 [.int .i64 (K : Int)] rfl rfl ?c1 ?c2 ?c3 ?c4 ?c5 ?_)
        case c1 =>
          intro j u hj
          match j, hj with
          | 0, hj => simp at hj; subst hj; simp [Addr.add]
        case c2 => intro u hu; simp at hu; subst hu; rfl
        case c3 => unfold maxLen; omega
        case c4 => omega
        case c5 => have := hnx.size; simp; omega
        intro v' w1 hown' hgrow _
        have hb1 := (hnx.alloc hnx.size _).grown hgrow (by simp; have := hnx.size; omega) (fun j hj => (hown.lt j hj).1)
        have R := own_snoc64 hown hnx.size hnx hown' hgrow
        have hc1 : w1.cell? (ad.add (K * 3)) = some (.int .i64 s) := ((R.2.cell (p := ad.add (K * 3)) (by rw [addr_add_block]; omega)).trans (hnx.cell (p := ad.add (K * 3)) (by rw [addr_add_block]; omega)).symm).trans hcr
        clear hown' hgrow hown hcr hb1
        have AK := Lib.hid (show aboveI sup (K : Int) = (K : Int) :: (if s < K then aboveI sup s else []) by unfold aboveI; rw [if_pos (by omega), Int.toNat_natCast]; exact A1.out)
        clear A1
        by_cases hs : s < K
        · have A2 := Lib.hid (show (pre ++ [(K : Int)]) ++ aboveI sup s = aboveI sup c by rw [← HP.out, AK.out, if_pos hs]; simp)
          clear AK HP
          go_wp2_with fail
          go_roundw
          case rel => exact ⟨s, pre ++ [(K : Int)], rfl, A2.out, by simp; omega, by simp; omega, R.1, R.2⟩
          case measure => simp [intOf]; omega
        · have A2 := Lib.hid (show (pre ++ [(K : Int)]) ++ aboveI sup (-1) = aboveI sup c by rw [← HP.out, AK.out, if_neg hs]; simp [aboveI])
          clear AK HP
          go_wp2_with fail
          go_roundw
          case rel => exact ⟨-1, pre ++ [(K : Int)], rfl, A2.out, by simp; omega, by simp, R.1, R.2⟩
          case measure => simp [intOf]
      · have A2 := Lib.hid (show pre = aboveI sup c by rw [← HP.out]; unfold aboveI; rw [if_pos h0, aboveOf_none (by omega)]; simp)
        clear HP
        go_wp2_with fail
        go_ret
        rw [← A2.out]
        exact ⟨_, rfl, hown, hnx⟩
    · have A2 := Lib.hid (show pre = aboveI sup c by rw [← HP.out]; unfold aboveI; rw [if_neg h0]; simp)
      clear HP
      go_wp2_with fail
      go_ret
      rw [← A2.out]
      exact ⟨_, rfl, hown, hnx⟩
end Go.Proofs.Ytefgepppcmhphaa
namespace Go.Proofs.Ytefgepppcmhphaa
set_option maxRecDepth 100000
set_option linter.unusedVariables false
set_option linter.unusedSimpArgs false
open Go.ChangeShapes Go.WideShapes Go.ChangeAt Go.RowKit
set_option linter.unusedVariables false

def subB (sup : List Int) (k n k' n' : Int) : Bool := if k = 4 then isRefB k' else if k = 3 then decide (k' = 3) && inB (aboveI sup n) n' else decide ((k = 1 ∨ k = 2) ∧ k = k' ∧ n = n')

/-- What stood below a block number stands as it did. -/
theorem below_cells {W w1 : World} (hb : Below W.heap.size W w1) : (∀ b o, b < W.heap.size → w1.cell? ⟨b, o, none⟩ = W.cell? ⟨b, o, none⟩) ∧ (∀ b o, b < W.heap.size → w1.frozen? ⟨b, o, none⟩ = W.frozen? ⟨b, o, none⟩) :=
  ⟨fun b o h => hb.cell (p := ⟨b, o, none⟩) h, fun b o h => hb.frozen (p := ⟨b, o, none⟩) h⟩

theorem aboveI_len (sup : List Int) (n : Int) : (aboveI sup n).length ≤ sup.length := by
  unfold aboveI
  split
  · rcases Nat.lt_or_ge n.toNat sup.length with g | g
    · have := aboveOf_len sup n.toNat; omega
    · rw [aboveOf_none g]; simp
  · simp
end Go.Proofs.Ytefgepppcmhphaa
namespace Go.Proofs.Ytefgepppcmhphaa
set_option maxRecDepth 100000
set_option linter.unusedVariables false
set_option linter.unusedSimpArgs false
open Go.ChangeShapes Go.WideShapes Go.ChangeAt Go.RowKit
set_option linter.unusedVariables false

def supsOf (cl : List Cls) : List Int := cl.map (·.sup)
/-- The fields of the classes of these numbers. -/
def fieldsAt (cl : List Cls) (i : Int) : List (Int × Int) := match cl[i.toNat]? with
  | some c => c.fields
  | none => []
/-- All fields of a class, the highest one's first. -/
def fieldsOf (cl : List Cls) (c : Int) : List (Int × Int) := (aboveI (supsOf cl) c).reverse.flatMap (fieldsAt cl)
theorem supers_of {w : World} {B : Nat} {A : Option Addr} {cl : List Cls} (h : RowOf ClsAt 3 w B A cl) : Supers w B A (supsOf cl) := fun i s hs => by
  unfold supsOf at hs
  rw [List.getElem?_map] at hs
  cases hc : cl[i]? with
  | none => rw [hc] at hs; simp at hs
  | some c =>
    rw [hc] at hs
    simp at hs
    subst hs
    obtain ⟨ad, e, hb, hx⟩ := h i c hc
    exact ⟨ad, e, hb, hx.sup⟩
theorem supsOf_len (cl : List Cls) : (supsOf cl).length = cl.length := List.length_map _
theorem aboveOf_lt (sup : List Int) (c : Nat) : ∀ i ∈ aboveOf sup c, 0 ≤ i ∧ i ≤ c ∧ i < sup.length := by
  induction c using Nat.strongRecOn with
  | ind c ih =>
    intro i hi
    rcases Nat.lt_or_ge c sup.length with g | g
    · rw [aboveOf_some (List.getElem?_eq_getElem g)] at hi
      rcases List.mem_cons.mp hi with rfl | hi
      · omega
      · split at hi
        · rename_i hs
          unfold aboveI at hi
          split at hi
          · rename_i h0
            have := ih (sup[c].toNat) (by omega) i hi
            omega
          · simp at hi
        · simp at hi
    · rw [aboveOf_none g] at hi; simp at hi
theorem aboveI_lt {sup : List Int} {c i : Int} (h : i ∈ aboveI sup c) : 0 ≤ i ∧ i < sup.length := by
  unfold aboveI at h
  split at h
  · have := aboveOf_lt sup c.toNat i h
    omega
  · simp at h
def goodsB (l : List (Int × Int)) (n : Int) : Bool := l.all fun t => goodB t.1 t.2 n
end Go.Proofs.Ytefgepppcmhphaa
