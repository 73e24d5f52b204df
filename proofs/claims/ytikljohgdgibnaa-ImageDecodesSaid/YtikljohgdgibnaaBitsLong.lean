/-
  What the program's own bits.Long, and its reader's Long, come to.
-/
import Derived.Test.YtikljohgdgibnaaBits
namespace Go.Proofs.Ytikljohgdgibnaa
set_option maxRecDepth 100000
open Go.ChangeShapes Go.WideShapes Go.ChangeAt Go.RowKit
set_option linter.unusedVariables false

theorem blong_any (l : List Int) (v : Value) (n : Int) (B : Nat) (w : World) (h0 : -2147483648 ≤ n) (h1 : n ≤ 2147483647) (hl : l.length ≤ 1048576) (hB : B ≤ w.heap.size)
    (ho : w.ownsRow B 5 1 v l.length (l.map (Value.int .u8))) :
    Calls Try.prog 63 #[v, .int .i32 n] w (PutOut B (l ++ bytesOf (zig n).toNat) w) := by
  have HO := Lib.hid ho
  clear ho
  by_cases hn : n < 0
  · have Z := Lib.hid (show zig n = -2 * n - 1 by unfold zig; rw [if_pos hn])
    go_enter Try.func63, Try.ntmps63
    go_wp2_with (go_at_call 67; (with_reducible refine (bput_any _ _ _ _ _ (by omega) hl hB HO.out).mono ?_); rintro e w' ⟨v, rfl, ho, hb⟩)
    go_ret
    rw [Z.out]
    exact ⟨v, rfl, ho, hb⟩
  · have Z := Lib.hid (show zig n = 2 * n by unfold zig; rw [if_neg hn])
    go_enter Try.func63, Try.ntmps63
    go_wp2_with (go_at_call 67; (with_reducible refine (bput_any _ _ _ _ _ (by omega) hl hB HO.out).mono ?_); rintro e w' ⟨v, rfl, ho, hb⟩)
    go_ret
    rw [Z.out]
    exact ⟨v, rfl, ho, hb⟩

theorem getR_range (rest : List Int) (bad : Bool) (most : Int) (hm : 0 ≤ most) : 0 ≤ (getR rest bad most).1 ∧ (getR rest bad most).1 ≤ most := by
  unfold getR
  split
  · rename_i h; exact ⟨by omega, h.2.2⟩
  · exact ⟨Int.le_refl 0, hm⟩

theorem breadlong_side (N B : Nat) (rest : List Int) (bad : Bool) (w : World) (hl : rest.length ≤ 1048576) (hr : ∀ b ∈ rest, 0 ≤ b ∧ b ≤ 255) (hBN : B ≤ N) (h : Rd w N rest bad) :
    Calls Try.prog 92 #[.pointer (some ⟨N, 0, none⟩)] w fun e w' => GetOut .i32 N B (zag (getR rest bad 4294967295).1) (getR rest bad 4294967295).2.1 (getR rest bad 4294967295).2.2 w e w' ∧ Side N w w' := by
  obtain ⟨r0, r1⟩ := getR_range rest bad 4294967295 (by decide)
  obtain ⟨g, hg⟩ : ∃ g, getR rest bad 4294967295 = g := ⟨_, rfl⟩
  obtain ⟨n, rest', bad'⟩ := g
  have HC := Lib.hid (bget_side N B rest bad 4294967295 w hl hr hBN h)
  rw [hg] at HC r0 r1
  rw [hg]
  dsimp only at HC r0 r1 ⊢
  clear h hr hg
  by_cases hn : n % 2 = 0
  · have Z := Lib.hid (show zag n = n / 2 by unfold zag; rw [if_pos hn])
    have hn' : ¬ n % 2 = 1 := by omega
    clear hn
    go_enter Try.func92, Try.ntmps92
    go_wp2_with (go_at_call 83; (with_reducible refine HC.out.mono ?_); rintro e w' ⟨⟨rfl, hrd, hb⟩, hs⟩; have H1 := Lib.hid hrd; have H2 := Lib.hid hb; have H3 := Lib.hid hs; clear hrd hb hs)
    go_ret
    exact ⟨⟨ret_int (by rw [Z.out]), H1.out, H2.out⟩, H3.out⟩
  · have Z := Lib.hid (show zag n = -((n + 1) / 2) by unfold zag; rw [if_neg hn])
    have hn' : n % 2 = 1 := by omega
    have hn'' : (n % 2 == 1) = true := by rw [hn']; rfl
    clear hn hn'
    go_enter Try.func92, Try.ntmps92
    go_wp2_with (go_at_call 83; (with_reducible refine HC.out.mono ?_); rintro e w' ⟨⟨rfl, hrd, hb⟩, hs⟩; have H1 := Lib.hid hrd; have H2 := Lib.hid hb; have H3 := Lib.hid hs; clear hrd hb hs)
    go_ret
    exact ⟨⟨ret_int (by rw [Z.out]; have e := Int.tdiv_eq_ediv_of_nonneg (a := n + 1) (b := 2) (by omega); rw [e]; unfold wrap64 wrap32; omega), H1.out, H2.out⟩, H3.out⟩
theorem breadlong_any (N B : Nat) (rest : List Int) (bad : Bool) (w : World) (hl : rest.length ≤ 1048576) (hr : ∀ b ∈ rest, 0 ≤ b ∧ b ≤ 255) (hBN : B ≤ N) (h : Rd w N rest bad) :
    Calls Try.prog 92 #[.pointer (some ⟨N, 0, none⟩)] w (GetOut .i32 N B (zag (getR rest bad 4294967295).1) (getR rest bad 4294967295).2.1 (getR rest bad 4294967295).2.2 w) := (breadlong_side N B rest bad w hl hr hBN h).mono fun _ _ h => h.1
theorem blong_nil (w : World) : Calls Try.prog 92 #[.pointer none] w fun e w' => e = .returned (.int .i32 0) ∧ Below w.heap.size w w' := by
  go_enter Try.func92, Try.ntmps92
  go_wp2_with (go_at_call 83; (with_reducible refine (bget_nil _ _).mono ?_); rintro e w' ⟨rfl, hb⟩; have H2 := Lib.hid hb; clear hb)
  go_ret
  exact ⟨rfl, H2.out⟩
end Go.Proofs.Ytikljohgdgibnaa
