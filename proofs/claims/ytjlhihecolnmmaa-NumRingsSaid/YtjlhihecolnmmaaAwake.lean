/-
  The fixed fact of the statements on numbers (awake) is true, whatever the world; it makes new memory alone.
-/
import Derived.Test.YtjlhihecolnmmaaRefNum
import Derived.Test.YtjlhihecolnmmaaBytes
namespace Go.Proofs.Ytjlhihecolnmmaa
open Go.ChangeShapes Go.WideShapes Go.ChangeAt Go.RowKit

theorem wrap32_k1 : wrap32 ((-7 : Int).tdiv 2) = -3 := by decide +kernel
theorem wrap32_k2 : wrap32 ((65536 : Int) * 65536) = 0 := by decide +kernel
theorem tmod_k1 : (-7 : Int).tmod 2 = -1 := by decide +kernel
theorem do_k1 (w : World) : Calls Try.prog 8 #[.int .i64 10, .int .i32 (-7), .int .i32 2] w fun e w' => e = .returned (.tuple #[.int .i32 (-3), .bool true]) ∧ w = w' :=
  (do_div (-7) 2 (by decide) w).mono fun _ _ h => by rw [wrap32_k1] at h; exact h
theorem do_k2 (w : World) : Calls Try.prog 8 #[.int .i64 11, .int .i32 (-7), .int .i32 2] w fun e w' => e = .returned (.tuple #[.int .i32 (-1), .bool true]) ∧ w = w' :=
  (do_rem (-7) 2 (by decide) w).mono fun _ _ h => by rw [tmod_k1] at h; exact h
theorem do_k3 (w : World) : Calls Try.prog 8 #[.int .i64 9, .int .i32 65536, .int .i32 65536] w fun e w' => e = .returned (.tuple #[.int .i32 0, .bool true]) ∧ w = w' :=
  (do_mul 65536 65536 w).mono fun _ _ h => by rw [wrap32_k2] at h; exact h

/-- One byte in a slice of the call's own. -/
def OneByte (w : World) (e : Ending) (w' : World) : Prop := ∃ g cap, e = .returned (.slice (some ⟨g, 0, none⟩) 1 cap) ∧ Below w.heap.size w w'
theorem bytes_k (w : World) : Calls Try.prog 18 #[.int .i64 3] w (OneByte w) :=
  (rbytes_any 3 (by decide) w).mono fun _ _ ⟨v, he, ho, hb⟩ => by
    rw [show bytesOf (3 : Int).toNat = [3] from bytesOf_small (by decide)] at ho
    rcases ho.2 with ⟨_, h⟩ | ⟨g, cap, cur, hv, _⟩
    · exact absurd h (by decide)
    · exact ⟨g, cap, by rw [he, hv]; rfl, hb⟩

theorem awake_any (w : World) : Calls Try.prog 10 #[] w fun e w' => e = .returned (.bool true) ∧ Below w.heap.size w w' := by
  go_enter Try.func10, Try.ntmps10
  go_wp2_with (first
    | (go_at_call 8; (with_reducible refine (do_k1 _).mono ?_); rintro e w' ⟨rfl, rfl⟩)
    | (go_at_call 8; (with_reducible refine (do_k2 _).mono ?_); rintro e w' ⟨rfl, rfl⟩)
    | (go_at_call 8; (with_reducible refine (do_k3 _).mono ?_); rintro e w' ⟨rfl, rfl⟩)
    | (go_at_call 8; (with_reducible refine (do_div0 _ _).mono ?_); rintro e w' ⟨rfl, rfl⟩)
    | (go_at_call 11; (with_reducible refine (is_yes _ (by decide) (by decide) _).mono ?_); rintro e w' ⟨rfl, rfl⟩)
    | (go_at_call 11; (with_reducible refine (is_no _ (by decide) _).mono ?_); rintro e w' ⟨rfl, rfl⟩)
    | (go_at_call 18; (with_reducible refine (bytes_k _).mono ?_); rintro e w' ⟨g, cap, rfl, hb⟩))
  go_ret
  exact ⟨rfl, hb⟩
end Go.Proofs.Ytjlhihecolnmmaa
