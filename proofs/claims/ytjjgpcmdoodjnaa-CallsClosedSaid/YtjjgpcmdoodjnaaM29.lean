/-
  What the program's own word for what a list has at a place (at) comes to: of classes, numbers and types; whether there is a class of a number (isClass).
  What stands above a class, by the program's own words (above, wayUp): the nearest one, and all of them.
-/
import Derived.Test.YtjjgpcmdoodjnaaM28
import Derived.Test.YtjjgpcmdoodjnaaM05
import Derived.Test.YtjjgpcmdoodjnaaM04
import Derived.Test.YtjjgpcmdoodjnaaM02
namespace Go.Proofs.Ytjjgpcmdoodjnaa
set_option maxRecDepth 100000
set_option linter.unusedVariables false
set_option linter.unusedSimpArgs false
open Go.ChangeShapes Go.WideShapes Go.ChangeAt Go.RowKit

theorem atcls_yes (k n cap : Nat) (ad : Addr) (s : Int) (A1 A2 : Option Addr) (n1 c1 n2 c2 : Nat) (w : World) (hk : k < n) (hn : n ≤ 9223372036854775807) (hab : ad.block < w.heap.size)
    (r0 : w.cell? (ad.add (k * 3)) = some (.int .i64 s)) (r1 : w.cell? (off_ (ad.add (k * 3)) 1) = some (.slice A1 n1 c1)) (r2 : w.cell? (off_ (ad.add (k * 3)) 2) = some (.slice A2 n2 c2)) :
    Calls Try.prog 48 #[.slice (some ad) n cap, .int .i64 k] w fun e w' => e = .returned (.tuple #[.agg #[.int .i64 s, .slice A1 n1 c1, .slice A2 n2 c2], .bool true]) ∧ Below w.heap.size w w' := by
  have HW := Lib.hid ((Below.refl w.heap.size w).alloc (Nat.le_refl _) (.cells #[.int .i64 0, .slice none 0 0, .slice none 0 0] 64))
  have r0 := (HW.out.cell (p := ad.add (k * 3)) (by rw [addr_add_block]; exact hab)).trans r0
  have r1 := (HW.out.cell (p := off_ (ad.add (k * 3)) 1) (by show (ad.add _).block < _; rw [addr_add_block]; exact hab)).trans r1
  have r2 := (HW.out.cell (p := off_ (ad.add (k * 3)) 2) (by show (ad.add _).block < _; rw [addr_add_block]; exact hab)).trans r2
  go_enter Try.func48, Try.ntmps48
  go_wp2
  exact bodyPost_ret (v := .tuple #[.agg #[.int .i64 s, .slice A1 n1 c1, .slice A2 n2 c2], .bool true]) (by simp [results, Try.results48, go_sem]) rfl ⟨rfl, (Below.refl _ _).alloc (Nat.le_refl _) _⟩
theorem atcls_no (k : Int) (n cap : Nat) (A : Option Addr) (w : World) (hn : n ≤ 9223372036854775807) (hk : k < 0 ∨ (n : Int) ≤ k) :
    Calls Try.prog 48 #[.slice A n cap, .int .i64 k] w fun e w' => e = .returned (.tuple #[.agg #[.int .i64 0, .slice none 0 0, .slice none 0 0], .bool false]) ∧ Below w.heap.size w w' := by
  by_cases h0 : k < 0
  · clear hk
    go_enter Try.func48, Try.ntmps48
    go_wp2
    exact bodyPost_ret (v := .tuple #[.agg #[.int .i64 0, .slice none 0 0, .slice none 0 0], .bool false]) (by simp [results, Try.results48, go_sem]) rfl ⟨rfl, ((Below.refl _ _).alloc (Nat.le_refl _) _).alloc (by simp) _⟩
  · have h1 : (n : Int) ≤ k := by omega
    have h2 : 0 ≤ k := by omega
    clear hk h0
    go_enter Try.func48, Try.ntmps48
    go_wp2
    exact bodyPost_ret (v := .tuple #[.agg #[.int .i64 0, .slice none 0 0, .slice none 0 0], .bool false]) (by simp [results, Try.results48, go_sem]) rfl ⟨rfl, ((Below.refl _ _).alloc (Nat.le_refl _) _).alloc (by simp) _⟩

theorem atint_yes (k n cap : Nat) (ad : Addr) (z : Int) (w : World) (hk : k < n) (hn : n ≤ 9223372036854775807) (r0 : w.cell? (ad.add k) = some (.int .i64 z)) :
    Calls Try.prog 49 #[.slice (some ad) n cap, .int .i64 k] w fun e w' => e = .returned (.tuple #[.int .i64 z, .bool true]) ∧ w = w' := by
  go_enter Try.func49, Try.ntmps49
  go_wp2
  go_ret2
  exact ⟨rfl, rfl⟩
theorem atint_no (k : Int) (n cap : Nat) (A : Option Addr) (w : World) (hn : n ≤ 9223372036854775807) (hk : k < 0 ∨ (n : Int) ≤ k) :
    Calls Try.prog 49 #[.slice A n cap, .int .i64 k] w fun e w' => e = .returned (.tuple #[.int .i64 0, .bool false]) ∧ Below w.heap.size w w' := by
  by_cases h0 : k < 0
  · clear hk
    go_enter Try.func49, Try.ntmps49
    go_wp2
    go_ret2
    exact ⟨rfl, by first | exact Below.refl _ _ | exact (Below.refl _ _).alloc (Nat.le_refl _) _⟩
  · have h1 : (n : Int) ≤ k := by omega
    have h2 : 0 ≤ k := by omega
    clear hk h0
    go_enter Try.func49, Try.ntmps49
    go_wp2
    go_ret2
    exact ⟨rfl, by first | exact Below.refl _ _ | exact (Below.refl _ _).alloc (Nat.le_refl _) _⟩

theorem isclass_yes (cl : List Cls) (k : Nat) (hk : k < cl.length) (A : Option Addr) (cap : Nat) (w : World) (h : SlcIs ClsAt 3 w w.heap.size A cap cl) :
    Calls Try.prog 45 #[.slice A cl.length cap, .int .i64 k] w fun e w' => e = .returned (.bool true) ∧ Below w.heap.size w w' := by
  have h1 := h.le
  have h2 := h.cap
  obtain ⟨ad, rfl, hab, r0, ⟨A1, k1, r1, _⟩, ⟨A2, k2, r2, _⟩, _⟩ := h.row.at_ hk
  clear h
  have hn : cl.length ≤ 9223372036854775807 := by omega
  generalize cl[k] = x at *
  generalize cl.length = n at *
  go_enter Try.func45, Try.ntmps45
  go_wp2_with (go_at_call 48; (with_reducible refine (atcls_yes k n cap ad _ _ _ _ _ _ _ w hk hn hab r0 r1 r2).mono ?_); rintro e w' ⟨rfl, hb⟩; have HB := Lib.hid hb; clear hb)
  go_ret
  exact ⟨rfl, by first | exact HB.out | exact HB.out.alloc HB.out.size _⟩
theorem isclass_no (cl : List Cls) (k : Int) (hk : k < 0 ∨ (cl.length : Int) ≤ k) (A : Option Addr) (cap : Nat) (w : World) (h : SlcIs ClsAt 3 w w.heap.size A cap cl) :
    Calls Try.prog 45 #[.slice A cl.length cap, .int .i64 k] w fun e w' => e = .returned (.bool false) ∧ Below w.heap.size w w' := by
  have h1 := h.le
  have h2 := h.cap
  have hn : cl.length ≤ 9223372036854775807 := by omega
  clear h
  generalize cl.length = n at *
  go_enter Try.func45, Try.ntmps45
  go_wp2_with (go_at_call 48; (with_reducible refine (atcls_no k n cap A w hn hk).mono ?_); rintro e w' ⟨rfl, hb⟩; have HB := Lib.hid hb; clear hb)
  go_ret
  exact ⟨rfl, by first | exact HB.out | exact HB.out.alloc HB.out.size _⟩

end Go.Proofs.Ytjjgpcmdoodjnaa
namespace Go.Proofs.Ytjjgpcmdoodjnaa
set_option maxRecDepth 100000
set_option linter.unusedVariables false
set_option linter.unusedSimpArgs false
open Go.ChangeShapes Go.WideShapes Go.ChangeAt Go.RowKit

theorem sup_in {sup : List Int} {c s : Int} (h0 : 0 ≤ c) (hs : sup[c.toNat]? = some s) : (¬ s = c ∧ inB (aboveI sup c) s = true) ↔ (0 ≤ s ∧ s < c) := by
  have h1 : c < sup.length := by
    rcases Nat.lt_or_ge c.toNat sup.length with g | g
    · omega
    · rw [List.getElem?_eq_none g] at hs; cases hs
  rw [inB_iff]
  constructor
  · rintro ⟨hn, hm⟩
    have := above_range hm
    omega
  · rintro ⟨g0, g1⟩
    refine ⟨by omega, ?_⟩
    rw [aboveI_step h0 hs, if_pos g1]
    exact List.mem_cons_of_mem _ (above_self g0 (by omega))
theorem supI_eq {sup : List Int} {c s : Int} (hs : sup[c.toNat]? = some s) : supI sup c = if 0 ≤ s ∧ s < c then s else -1 := by
  unfold supI; rw [hs]

theorem cabove_any (sup : List Int) (c : Int) (h0 : 0 ≤ c) (h1 : c < sup.length) (A : Option Addr) (cap B : Nat) (w : World) (hl : sup.length ≤ 1048576) (hB : B ≤ w.heap.size) (h : Supers w B A sup) :
    Calls Try.prog 47 #[.slice A sup.length cap, .int .i64 c] w fun e w' => e = .returned (.int .i64 (supI sup c)) ∧ Below w.heap.size w w' := by
  obtain ⟨K, rfl⟩ := Int.eq_ofNat_of_zero_le h0
  have hlt : K < sup.length := by omega
  have hs0 := List.getElem?_eq_getElem hlt
  have HS := Lib.hid h
  obtain ⟨ad, rfl, hab, hc⟩ := h K _ hs0
  have E1 := Lib.hid (supI_eq (sup := sup) (c := (K : Int)) (s := sup[K]) (by rw [Int.toNat_natCast]; exact hs0))
  have E2 := Lib.hid (sup_in (sup := sup) (c := (K : Int)) (s := sup[K]) h0 (by rw [Int.toNat_natCast]; exact hs0))
  clear hs0 h
  generalize sup[K] = s at *
  by_cases g : s = (K : Int)
  · have E := Lib.hid (show supI sup (K : Int) = -1 by rw [E1.out, if_neg (by omega)])
    clear E1 E2
    subst g
    go_enter Try.func47, Try.ntmps47
    go_wp2_with fail
    go_ret
    rw [E.out]
    exact ⟨rfl, Below.refl _ _⟩
  · have hne : ((s : Int) != (K : Int)) = true := by simpa using g
    obtain ⟨r, hr⟩ : ∃ r, inB (aboveI sup (K : Int)) s = r := ⟨_, rfl⟩
    have R := Lib.hid hr
    have E := Lib.hid (show supI sup (K : Int) = if r = true then s else -1 by
      rw [E1.out, ← hr]
      by_cases q : 0 ≤ s ∧ s < (K : Int)
      · rw [if_pos q, if_pos (E2.out.mpr q).2]
      · rw [if_neg q, if_neg (fun x => q (E2.out.mp ⟨g, x⟩))])
    clear E1 E2 hr g
    cases r
    all_goals
      go_enter Try.func47, Try.ntmps47
      go_wp2_with (go_at_call 62; (with_reducible refine (kbelow_any sup (K : Int) s (some ad) cap B w hl hB HS.out).mono ?_); rintro e w' ⟨he, hb⟩; rw [R.out] at he; subst he)
      go_ret
      rw [E.out]
      exact ⟨by simp, hb⟩

theorem cabove_is {sup : List Int} {c : Int} {n : Nat} (HN : Hid (sup.length = n)) (h0 : 0 ≤ c) (h1 : c < sup.length) (A : Option Addr) (cap B : Nat) (w : World) (hl : sup.length ≤ 1048576) (hB : B ≤ w.heap.size) (h : Supers w B A sup) :
    Calls Try.prog 47 #[.slice A n cap, .int .i64 c] w fun e w' => e = .returned (.int .i64 (supI sup c)) ∧ Below w.heap.size w w' := by
  obtain rfl := HN.out
  exact cabove_any sup c h0 h1 A cap B w hl hB h

end Go.Proofs.Ytjjgpcmdoodjnaa
