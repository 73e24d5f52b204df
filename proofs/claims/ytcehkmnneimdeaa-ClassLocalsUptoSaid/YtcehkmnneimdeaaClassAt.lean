/-
  What the program's own word for what a list has at a place (at) comes to: of classes, numbers and types; whether there is a class of a number (isClass).
-/
import Derived.Test.YtcehkmnneimdeaaKindOwn
import Derived.Test.YtcehkmnneimdeaaBoxed
import Derived.Test.YtcehkmnneimdeaaSaneDefs
namespace Go.Proofs.Ytcehkmnneimdeaa
set_option maxRecDepth 100000
set_option linter.unusedVariables false
set_option linter.unusedSimpArgs false
open Go.ChangeShapes Go.WideShapes Go.ChangeAt Go.RowKit

theorem atcls_yes (k n cap : Nat) (ad : Addr) (s : Int) (A1 A2 : Option Addr) (n1 c1 n2 c2 : Nat) (w : World) (hk : k < n) (hn : n ≤ 9223372036854775807) (hab : ad.block < w.heap.size)
    (r0 : w.cell? (ad.add (k * 3)) = some (.int .i64 s)) (r1 : w.cell? (off_ (ad.add (k * 3)) 1) = some (.slice A1 n1 c1)) (r2 : w.cell? (off_ (ad.add (k * 3)) 2) = some (.slice A2 n2 c2)) :
    Calls Try.prog 22 #[.slice (some ad) n cap, .int .i64 k] w fun e w' => e = .returned (.tuple #[.agg #[.int .i64 s, .slice A1 n1 c1, .slice A2 n2 c2], .bool true]) ∧ Below w.heap.size w w' := by
  have HW := Lib.hid ((Below.refl w.heap.size w).alloc (Nat.le_refl _) (.cells #[.int .i64 0, .slice none 0 0, .slice none 0 0] 50))
  have r0 := (HW.out.cell (p := ad.add (k * 3)) (by rw [addr_add_block]; exact hab)).trans r0
  have r1 := (HW.out.cell (p := off_ (ad.add (k * 3)) 1) (by show (ad.add _).block < _; rw [addr_add_block]; exact hab)).trans r1
  have r2 := (HW.out.cell (p := off_ (ad.add (k * 3)) 2) (by show (ad.add _).block < _; rw [addr_add_block]; exact hab)).trans r2
  go_enter Try.func22, Try.ntmps22
  go_wp2
  exact bodyPost_ret (v := .tuple #[.agg #[.int .i64 s, .slice A1 n1 c1, .slice A2 n2 c2], .bool true]) (by simp [results, Try.results22, go_sem]) rfl ⟨rfl, (Below.refl _ _).alloc (Nat.le_refl _) _⟩
theorem atcls_no (k : Int) (n cap : Nat) (A : Option Addr) (w : World) (hn : n ≤ 9223372036854775807) (hk : k < 0 ∨ (n : Int) ≤ k) :
    Calls Try.prog 22 #[.slice A n cap, .int .i64 k] w fun e w' => e = .returned (.tuple #[.agg #[.int .i64 0, .slice none 0 0, .slice none 0 0], .bool false]) ∧ Below w.heap.size w w' := by
  by_cases h0 : k < 0
  · clear hk
    go_enter Try.func22, Try.ntmps22
    go_wp2
    exact bodyPost_ret (v := .tuple #[.agg #[.int .i64 0, .slice none 0 0, .slice none 0 0], .bool false]) (by simp [results, Try.results22, go_sem]) rfl ⟨rfl, ((Below.refl _ _).alloc (Nat.le_refl _) _).alloc (by simp) _⟩
  · have h1 : (n : Int) ≤ k := by omega
    have h2 : 0 ≤ k := by omega
    clear hk h0
    go_enter Try.func22, Try.ntmps22
    go_wp2
    exact bodyPost_ret (v := .tuple #[.agg #[.int .i64 0, .slice none 0 0, .slice none 0 0], .bool false]) (by simp [results, Try.results22, go_sem]) rfl ⟨rfl, ((Below.refl _ _).alloc (Nat.le_refl _) _).alloc (by simp) _⟩

theorem atint_yes (k n cap : Nat) (ad : Addr) (z : Int) (w : World) (hk : k < n) (hn : n ≤ 9223372036854775807) (r0 : w.cell? (ad.add k) = some (.int .i64 z)) :
    Calls Try.prog 23 #[.slice (some ad) n cap, .int .i64 k] w fun e w' => e = .returned (.tuple #[.int .i64 z, .bool true]) ∧ w = w' := by
  go_enter Try.func23, Try.ntmps23
  go_wp2
  go_ret2
  exact ⟨rfl, rfl⟩
theorem atint_no (k : Int) (n cap : Nat) (A : Option Addr) (w : World) (hn : n ≤ 9223372036854775807) (hk : k < 0 ∨ (n : Int) ≤ k) :
    Calls Try.prog 23 #[.slice A n cap, .int .i64 k] w fun e w' => e = .returned (.tuple #[.int .i64 0, .bool false]) ∧ Below w.heap.size w w' := by
  by_cases h0 : k < 0
  · clear hk
    go_enter Try.func23, Try.ntmps23
    go_wp2
    go_ret2
    exact ⟨rfl, by first | exact Below.refl _ _ | exact (Below.refl _ _).alloc (Nat.le_refl _) _⟩
  · have h1 : (n : Int) ≤ k := by omega
    have h2 : 0 ≤ k := by omega
    clear hk h0
    go_enter Try.func23, Try.ntmps23
    go_wp2
    go_ret2
    exact ⟨rfl, by first | exact Below.refl _ _ | exact (Below.refl _ _).alloc (Nat.le_refl _) _⟩

theorem attyp_yes (k n cap : Nat) (ad : Addr) (x y : Int) (w : World) (hk : k < n) (hn : n ≤ 9223372036854775807) (hab : ad.block < w.heap.size)
    (r0 : w.cell? (ad.add (k * 2)) = some (.int .i64 x)) (r1 : w.cell? (off_ (ad.add (k * 2)) 1) = some (.int .i64 y)) :
    Calls Try.prog 30 #[.slice (some ad) n cap, .int .i64 k] w fun e w' => e = .returned (.tuple #[tyV x y, .bool true]) ∧ Below w.heap.size w w' := by
  have HW := Lib.hid ((Below.refl w.heap.size w).alloc (Nat.le_refl _) (.cells #[.int .i64 0, .int .i64 0] 40))
  have r0 := (HW.out.cell (p := ad.add (k * 2)) (by rw [addr_add_block]; exact hab)).trans r0
  have r1 := (HW.out.cell (p := off_ (ad.add (k * 2)) 1) (by show (ad.add _).block < _; rw [addr_add_block]; exact hab)).trans r1
  go_enter Try.func30, Try.ntmps30
  go_wp2
  exact bodyPost_ret (v := .tuple #[tyV x y, .bool true]) (by simp [results, Try.results30, go_sem]) rfl ⟨rfl, (Below.refl _ _).alloc (Nat.le_refl _) _⟩
theorem attyp_no (k : Int) (n cap : Nat) (A : Option Addr) (w : World) (hn : n ≤ 9223372036854775807) (hk : k < 0 ∨ (n : Int) ≤ k) :
    Calls Try.prog 30 #[.slice A n cap, .int .i64 k] w fun e w' => e = .returned (.tuple #[tyV 0 0, .bool false]) ∧ Below w.heap.size w w' := by
  by_cases h0 : k < 0
  · clear hk
    go_enter Try.func30, Try.ntmps30
    go_wp2
    exact bodyPost_ret (v := .tuple #[tyV 0 0, .bool false]) (by simp [results, Try.results30, go_sem]) rfl ⟨rfl, ((Below.refl _ _).alloc (Nat.le_refl _) _).alloc (by simp) _⟩
  · have h1 : (n : Int) ≤ k := by omega
    have h2 : 0 ≤ k := by omega
    clear hk h0
    go_enter Try.func30, Try.ntmps30
    go_wp2
    exact bodyPost_ret (v := .tuple #[tyV 0 0, .bool false]) (by simp [results, Try.results30, go_sem]) rfl ⟨rfl, ((Below.refl _ _).alloc (Nat.le_refl _) _).alloc (by simp) _⟩

theorem isclass_yes (cl : List Cls) (k : Nat) (hk : k < cl.length) (A : Option Addr) (cap : Nat) (w : World) (h : SlcIs ClsAt 3 w w.heap.size A cap cl) :
    Calls Try.prog 27 #[.slice A cl.length cap, .int .i64 k] w fun e w' => e = .returned (.bool true) ∧ Below w.heap.size w w' := by
  have h1 := h.le
  have h2 := h.cap
  obtain ⟨ad, rfl, hab, r0, ⟨A1, k1, r1, _⟩, ⟨A2, k2, r2, _⟩, _⟩ := h.row.at_ hk
  clear h
  have hn : cl.length ≤ 9223372036854775807 := by omega
  generalize cl[k] = x at *
  generalize cl.length = n at *
  go_enter Try.func27, Try.ntmps27
  go_wp2_with (go_at_call 22; (with_reducible refine (atcls_yes k n cap ad _ _ _ _ _ _ _ w hk hn hab r0 r1 r2).mono ?_); rintro e w' ⟨rfl, hb⟩; have HB := Lib.hid hb; clear hb)
  go_ret
  exact ⟨rfl, by first | exact HB.out | exact HB.out.alloc HB.out.size _⟩
theorem isclass_no (cl : List Cls) (k : Int) (hk : k < 0 ∨ (cl.length : Int) ≤ k) (A : Option Addr) (cap : Nat) (w : World) (h : SlcIs ClsAt 3 w w.heap.size A cap cl) :
    Calls Try.prog 27 #[.slice A cl.length cap, .int .i64 k] w fun e w' => e = .returned (.bool false) ∧ Below w.heap.size w w' := by
  have h1 := h.le
  have h2 := h.cap
  have hn : cl.length ≤ 9223372036854775807 := by omega
  clear h
  generalize cl.length = n at *
  go_enter Try.func27, Try.ntmps27
  go_wp2_with (go_at_call 22; (with_reducible refine (atcls_no k n cap A w hn hk).mono ?_); rintro e w' ⟨rfl, hb⟩; have HB := Lib.hid hb; clear hb)
  go_ret
  exact ⟨rfl, by first | exact HB.out | exact HB.out.alloc HB.out.size _⟩

end Go.Proofs.Ytcehkmnneimdeaa
