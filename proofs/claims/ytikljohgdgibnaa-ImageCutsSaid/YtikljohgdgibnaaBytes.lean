/-
  What the document's own answer for a number as bytes (Bytes) comes to at any integer: a slice of the call's own that holds the number's bytes.
-/
import Derived.Test.YtikljohgdgibnaaMath
import Derived.Test.YtikljohgdgibnaaRows
import Derived.Outline
import Derived.ProofKit
import Derived.OpenShut
import Derived.Below
namespace Go.Proofs.Ytikljohgdgibnaa
set_option maxRecDepth 100000
open Go.ChangeShapes Go.WideShapes Go.ChangeAt Go.RowKit

/-- The bytes of a number: seven bits in each, the lowest ones first. -/
def bytesOf (n : Nat) : List Int := if h : n < 128 then [(n : Int)] else (128 + (n : Int) % 128) :: bytesOf (n / 128)
termination_by n
decreasing_by omega

theorem bytesOf_small {n : Nat} (h : n < 128) : bytesOf n = [(n : Int)] := by rw [bytesOf, dif_pos h]
theorem bytesOf_great {n : Nat} (h : 128 ≤ n) : bytesOf n = (128 + (n : Int) % 128) :: bytesOf (n / 128) := by rw [bytesOf, dif_neg (by omega)]
theorem bytesOf_len (k : Nat) : ∀ n, n < 128 ^ (k + 1) → (bytesOf n).length ≤ k + 1 := by
  induction k with
  | zero => intro n h; rw [bytesOf_small (by simpa using h)]; simp
  | succ k ih =>
    intro n h
    by_cases hs : n < 128
    · rw [bytesOf_small hs]; simp
    · rw [bytesOf_great (by omega)]
      have := ih (n / 128) (by rw [Nat.div_lt_iff_lt_mul (by decide)]; rwa [Nat.pow_succ] at h)
      simp; omega
theorem bytesOf_len9 {n : Nat} (h : n ≤ 9223372036854775807) : (bytesOf n).length ≤ 9 := bytesOf_len 8 n (by omega)
theorem bytesOf_pos (n : Nat) : 0 < (bytesOf n).length := by
  rw [bytesOf]; split <;> simp
theorem bytesOf_range (n : Nat) : ∀ b ∈ bytesOf n, 0 ≤ b ∧ b ≤ 255 := by
  induction n using Nat.strongRecOn with
  | ind n ih =>
    by_cases hs : n < 128
    · rw [bytesOf_small hs]; intro b hb; simp at hb; omega
    · rw [bytesOf_great (by omega)]
      intro b hb
      rcases List.mem_cons.mp hb with rfl | hb
      · omega
      · exact ih (n / 128) (by omega) b hb

theorem info_u8 : (Try.prog.info? 5).map (fun i => (i.zero, i.size, i.bytes)) = some (some (.int .u8 0), 1, 1) := by kernel_rfl

/-- A slice of the call's own that holds these bytes. -/
def OwnBytes (l : List Int) (w : World) (e : Ending) (w' : World) : Prop :=
  ∃ v, e = .returned v ∧ w'.ownsRow w.heap.size 5 1 v l.length (l.map (Value.int .u8)) ∧ Below w.heap.size w w'

/-- The row as one byte more leaves it. -/
theorem own_snoc {B : Nat} {w w1 : World} {e : TypeId} {v v' : Value} {pre : List Int} {b : Int} {o : Obj} {wr : World}
    (hown : wr.ownsRow B e 1 v pre.length (pre.map (Value.int .u8))) (hB : B ≤ wr.heap.size) (hnx : Below B w wr)
    (hown' : w1.ownsRow B e 1 v' (pre.length + 1) (pre.map (Value.int .u8) ++ [.int .u8 b])) (hgrow : (wr.alloc o).grownBy w1 v.ownBlock) :
    w1.ownsRow B e 1 v' (pre ++ [b]).length ((pre ++ [b]).map (Value.int .u8)) ∧ Below B w w1 :=
  ⟨by simpa using hown', (hnx.alloc hB o).grown hgrow (by simp; omega) (fun j hj => (hown.lt j hj).1)⟩

set_option maxRecDepth 1000000 in
set_option maxHeartbeats 1600000 in
theorem rbytes_any (n : Int) (h1 : n ≤ 9223372036854775807) (w : World) : Calls Try.prog 33 #[.int .i64 n] w (OwnBytes (bytesOf n.toNat) w) := by
  obtain ⟨i0, hi, hz0, hz1, hz2⟩ := info_parts info_u8
  by_cases hn : n < 0
  all_goals
    have L := bytesOf_len9 (n := n.toNat) (by omega)
    go_enter Try.func33, Try.ntmps33
    go_wp2
    go_loopw [0, 3] (fun a v wr => ∃ (m : Nat) (pre : List Int), a = .int .i64 m ∧ (m : Int) ≤ 9223372036854775807 ∧ pre ++ bytesOf m = bytesOf n.toNat ∧
        wr.ownsRow w.heap.size 5 1 v pre.length (pre.map (Value.int .u8)) ∧ Below w.heap.size w wr) (fun a _ _ => (intOf a).toNat)
    case atStart =>
      refine ⟨n.toNat, [], ?_, by omega, rfl, ⟨rfl, .inr ⟨w.heap.size, 0, #[], rfl, Nat.le_refl _, heap_alloc_new _ _, Nat.le_refl _, by unfold maxLen; omega, rfl, rfl⟩⟩, (Below.refl _ _).alloc (Nat.le_refl _) _⟩
      first | (show Value.int .i64 0 = _; congr 1; omega) | (show Value.int .i64 n = _; congr 1; omega)
    case round =>
      obtain ⟨m, pre, rfl, hm, hpre, hown, hnx⟩ := hrel
      have HP := Lib.hid hpre
      have hlen : pre.length + (bytesOf m).length ≤ 9 := by rw [← List.length_append, hpre]; exact L
      have hpos := bytesOf_pos m
      clear hpre
      by_cases hlt : 128 ≤ m
      · have G := Lib.hid (bytesOf_great hlt)
        go_wp2_with (at_builtin; refine wpList_append_own _ rfl _ _ 31 rfl w.heap.size 5 i0 (.int .u8 0) 1 1 Try.underlying31 hi hz0 hz1 hz2 rfl (by decide) _ _ _ rfl (hown.alloc _) ⟨_, 0, none⟩ 1 1 [.int .u8 (128 + (m : Int) % 128)] rfl rfl ?c1 ?c2 ?c3 ?c4 ?c5 ?_)
        case c1 =>
          intro j u hj
          match j, hj with
          | 0, hj => simp at hj; subst hj; simp [Addr.add]
        case c2 => intro u hu; simp at hu; subst hu; rfl
        case c3 => unfold maxLen; omega
        case c4 => omega
        case c5 => have := hnx.size; simp; omega
        intro v' w1 hown' hgrow _
        have R := own_snoc hown hnx.size hnx hown' hgrow
        clear hown' hgrow hown
        go_wp2
        go_roundw
        case rel => exact ⟨m / 128, pre ++ [128 + (m : Int) % 128], by simp, by omega, by rw [← HP.out, G.out]; simp, R.1, R.2⟩
        case measure => simp [intOf]; omega
      · have G := Lib.hid (bytesOf_small (n := m) (by omega))
        go_wp2_with (at_builtin; refine wpList_append_own _ rfl _ _ 31 rfl w.heap.size 5 i0 (.int .u8 0) 1 1 Try.underlying31 hi hz0 hz1 hz2 rfl (by decide) _ _ _ rfl (hown.alloc _) ⟨_, 0, none⟩ 1 1 [.int .u8 (m : Int)] rfl rfl ?d1 ?d2 ?d3 ?d4 ?d5 ?_)
        case d1 =>
          intro j u hj
          match j, hj with
          | 0, hj => simp at hj; subst hj; simp [Addr.add]
        case d2 => intro u hu; simp at hu; subst hu; rfl
        case d3 => unfold maxLen; omega
        case d4 => omega
        case d5 => have := hnx.size; simp; omega
        intro v' w1 hown' hgrow _
        have R := own_snoc hown hnx.size hnx hown' hgrow
        clear hown' hgrow hown
        go_wp2
        go_ret
        refine ⟨v', rfl, ?_, R.2⟩
        rw [← HP.out, G.out]
        exact R.1
end Go.Proofs.Ytikljohgdgibnaa
