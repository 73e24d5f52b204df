/-
  What the document's own answer for a number with its sign, as bytes (Signed), comes to.
-/
import Derived.Test.YtikljohgdgibnaaBitsDefs
namespace Go.Proofs.Ytikljohgdgibnaa
set_option maxRecDepth 100000
open Go.ChangeShapes Go.WideShapes Go.ChangeAt Go.RowKit

theorem rsigned_any (n : Int) (h0 : -2147483648 ≤ n) (h1 : n ≤ 2147483647) (w : World) : Calls Try.prog 36 #[.int .i32 n] w (OwnBytes (bytesOf (zig n).toNat) w) := by
  by_cases hn : n < 0
  · have Z := Lib.hid (show zig n = -2 * n - 1 by unfold zig; rw [if_pos hn])
    go_enter Try.func36, Try.ntmps36
    go_wp2_with (go_at_call 33; (with_reducible refine (rbytes_any _ (by omega) _).mono ?_); rintro e w' ⟨v, rfl, ho, hb⟩)
    go_ret
    rw [Z.out]
    exact ⟨v, rfl, ho, hb⟩
  · have Z := Lib.hid (show zig n = 2 * n by unfold zig; rw [if_neg hn])
    go_enter Try.func36, Try.ntmps36
    go_wp2_with (go_at_call 33; (with_reducible refine (rbytes_any _ (by omega) _).mono ?_); rintro e w' ⟨v, rfl, ho, hb⟩)
    go_ret
    rw [Z.out]
    exact ⟨v, rfl, ho, hb⟩
end Go.Proofs.Ytikljohgdgibnaa
