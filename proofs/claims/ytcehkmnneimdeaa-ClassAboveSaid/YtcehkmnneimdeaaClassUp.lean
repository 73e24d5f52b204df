/-
  What stands above a class, by the program's own words (above, wayUp): the nearest one, and all of them.
-/
import Derived.Test.YtcehkmnneimdeaaClassAt
import Derived.Test.YtcehkmnneimdeaaAppK
namespace Go.Proofs.Ytcehkmnneimdeaa
set_option maxRecDepth 100000
set_option linter.unusedVariables false
set_option linter.unusedSimpArgs false
open Go.ChangeShapes Go.WideShapes Go.ChangeAt Go.RowKit

theorem sup_in {sup : List Int} {c s : Int} (h0 : 0 ≤ c) (hs : sup[c.toNat]? = some s) : (¬ s = c ∧ inB (aboveI sup c) s = true) ↔ (0 ≤ s ∧ s < c) := by
  have h1 : c < sup.length := by
    rcases Nat.lt_or_ge c.toNat sup.length with g | g
    · omega
    · rw [List.getElem?_eq_none g] at hs; cases hs
  rw [inB_iff]
  constructor
  · rintro ⟨hn, hm⟩
    have := above_range hm
    omega
  · rintro ⟨g0, g1⟩
    refine ⟨by omega, ?_⟩
    rw [aboveI_step h0 hs, if_pos g1]
    exact List.mem_cons_of_mem _ (above_self g0 (by omega))
theorem supI_eq {sup : List Int} {c s : Int} (hs : sup[c.toNat]? = some s) : supI sup c = if 0 ≤ s ∧ s < c then s else -1 := by
  unfold supI; rw [hs]

theorem cabove_any (sup : List Int) (c : Int) (h0 : 0 ≤ c) (h1 : c < sup.length) (A : Option Addr) (cap B : Nat) (w : World) (hl : sup.length ≤ 1048576) (hB : B ≤ w.heap.size) (h : Supers w B A sup) :
    Calls Try.prog 29 #[.slice A sup.length cap, .int .i64 c] w fun e w' => e = .returned (.int .i64 (supI sup c)) ∧ Below w.heap.size w w' := by
  obtain ⟨K, rfl⟩ := Int.eq_ofNat_of_zero_le h0
  have hlt : K < sup.length := by omega
  have hs0 := List.getElem?_eq_getElem hlt
  have HS := Lib.hid h
  obtain ⟨ad, rfl, hab, hc⟩ := h K _ hs0
  have E1 := Lib.hid (supI_eq (sup := sup) (c := (K : Int)) (s := sup[K]) (by rw [Int.toNat_natCast]; exact hs0))
  have E2 := Lib.hid (sup_in (sup := sup) (c := (K : Int)) (s := sup[K]) h0 (by rw [Int.toNat_natCast]; exact hs0))
  clear hs0 h
  generalize sup[K] = s at *
  by_cases g : s = (K : Int)
  · have E := Lib.hid (show supI sup (K : Int) = -1 by rw [E1.out, if_neg (by omega)])
    clear E1 E2
    subst g
    go_enter Try.func29, Try.ntmps29
    go_wp2_with fail
    go_ret
    rw [E.out]
    exact ⟨rfl, Below.refl _ _⟩
  · have hne : ((s : Int) != (K : Int)) = true := by simpa using g
    obtain ⟨r, hr⟩ : ∃ r, inB (aboveI sup (K : Int)) s = r := ⟨_, rfl⟩
    have R := Lib.hid hr
    have E := Lib.hid (show supI sup (K : Int) = if r = true then s else -1 by
      rw [E1.out, ← hr]
      by_cases q : 0 ≤ s ∧ s < (K : Int)
      · rw [if_pos q, if_pos (E2.out.mpr q).2]
      · rw [if_neg q, if_neg (fun x => q (E2.out.mp ⟨g, x⟩))])
    clear E1 E2 hr g
    cases r
    all_goals
      go_enter Try.func29, Try.ntmps29
      go_wp2_with (go_at_call 34; (with_reducible refine (kbelow_any sup (K : Int) s (some ad) cap B w hl hB HS.out).mono ?_); rintro e w' ⟨he, hb⟩; rw [R.out] at he; subst he)
      go_ret
      rw [E.out]
      exact ⟨by simp, hb⟩

theorem cabove_is {sup : List Int} {c : Int} {n : Nat} (HN : Hid (sup.length = n)) (h0 : 0 ≤ c) (h1 : c < sup.length) (A : Option Addr) (cap B : Nat) (w : World) (hl : sup.length ≤ 1048576) (hB : B ≤ w.heap.size) (h : Supers w B A sup) :
    Calls Try.prog 29 #[.slice A n cap, .int .i64 c] w fun e w' => e = .returned (.int .i64 (supI sup c)) ∧ Below w.heap.size w w' := by
  obtain rfl := HN.out
  exact cabove_any sup c h0 h1 A cap B w hl hB h

set_option maxHeartbeats 1600000 in
theorem wayup_any (cl : List Cls) (c : Int) (A : Option Addr) (cap : Nat) (w : World) (hn : cl.length ≤ 1048576) (h : SlcIs ClsAt 3 w w.heap.size A cap cl) :
    Calls Try.prog 26 #[.slice A cl.length cap, .int .i64 c] w (OwnInts (aboveI (supsOf cl) c) w) := by
  obtain ⟨i0, hi, hz0, hz1, hz2⟩ := info_parts info_int
  have HC := Lib.hid h
  have HS := Lib.hid (supers_of h.row)
  clear h
  by_cases hk : 0 ≤ c ∧ c < cl.length
  · obtain ⟨k0, k1⟩ := hk
    obtain ⟨K, rfl⟩ := Int.eq_ofNat_of_zero_le k0
    have k1' : K < cl.length := by omega
    have hlen : (supsOf cl).length = cl.length := supsOf_len cl
    obtain ⟨sup, hsup⟩ : ∃ sup, supsOf cl = sup := ⟨_, rfl⟩
    rw [hsup] at hlen HS ⊢
    have HLN := Lib.hid hlen
    have hsl : sup.length ≤ 1048576 := by omega
    have hkl : (K : Int) < sup.length := by omega
    clear hsup
    go_enter Try.func26, Try.ntmps26
    clear hlen
    go_wp2_with (go_at_call 27; (with_reducible refine (isclass_yes cl K k1' A cap w HC.out).mono ?_); rintro e w1 ⟨rfl, hb⟩; have HB1 := Lib.hid hb; clear hb)
    go_loopw [1, 5] (fun a v wr => ∃ (C : Int) (pre : List Int), a = .int .i64 C ∧ -1 ≤ C ∧ C < sup.length ∧ Hid (pre ++ aboveI sup C = aboveI sup (K : Int)) ∧ pre.length + C + 1 ≤ sup.length ∧
        Hid (wr.ownsRow w.heap.size 3 1 v pre.length (pre.map (Value.int .i64))) ∧ Hid (Below w.heap.size w wr)) (fun a _ _ => (intOf a + 1).toNat)
    case atStart => exact ⟨K, [], rfl, by omega, hkl, Lib.hid rfl, by simp; omega, Lib.hid (World.ownsRow_nil _ _ _ _), HB1⟩
    case round =>
      obtain ⟨C, pre, rfl, c0, c1, HP, hp, HO, HX⟩ := hrel
      by_cases hC : C = -1
      · subst hC
        go_wp2_with fail
        go_ret
        refine ⟨_, rfl, ?_, HX.out⟩
        have e : pre = aboveI sup (K : Int) := by rw [← HP.out, aboveI_bad (.inl (by omega))]; simp
        rw [← e]
        exact HO.out
      · have hC0 : 0 ≤ C := by omega
        have hCn : (C != -1) = true := by simpa using hC
        have HST := Lib.hid (above_sup hC0 c1)
        have HBD := Lib.hid (supI_bounds sup C)
        have hsz := HX.out.size
        go_wp2_with (at_builtin; refine wpList_append_own _ rfl _ _ 26 rfl w.heap.size 3 i0 (.int .i64 0) 1 8 Try.underlying26 hi hz0 hz1 hz2 rfl (by decide) _ _ _ rfl (HO.out.alloc _) ⟨_, 0, none⟩ 1 1 [.int .i64 C] rfl rfl ?c1 ?c2 ?c3 ?c4 ?c5 ?_)
        case c1 =>
          intro j u hj
          match j, hj with
          | 0, hj => simp at hj; subst hj; simp [Addr.add]
        case c2 => intro u hu; simp at hu; subst hu; rfl
        case c3 => unfold maxLen; omega
        case c4 => omega
        case c5 => simp; omega
        intro v' w2 hown' hgrow _
        have hR := own_snoc64 HO.out hsz HX.out hown' hgrow
        have HO2 := Lib.hid hR.1
        have HX2 := Lib.hid hR.2
        clear hown' hgrow hR
        go_wp2_with (go_at_call 29; (with_reducible refine (cabove_is HLN hC0 c1 A cap w.heap.size _ hsl HX2.out.size (HS.out.below_to HX2.out (Nat.le_refl _))).mono ?_); rintro e w3 ⟨rfl, hb⟩; have HB3 := Lib.hid hb; clear hb)
        go_roundw
        case rel =>
          have hbd := HBD.out
          have := hbd.2 hC0
          exact ⟨supI sup C, pre ++ [C], rfl, hbd.1, by omega, Lib.hid (by rw [← HP.out, HST.out]; simp), by simp; omega, Lib.hid (own_below HO2.out HB3.out (own_block_lt HO2.out)), Lib.hid (HX2.out.trans (HB3.out.mono HX2.out.size))⟩
        case measure => have := HBD.out.2 hC0; have := HBD.out.1; simp [intOf]; omega
  · have hk' : c < 0 ∨ (cl.length : Int) ≤ c := by omega
    have E := Lib.hid (show aboveI (supsOf cl) c = [] from aboveI_bad (by rw [supsOf_len]; exact hk'))
    clear hk
    rw [E.out]
    go_enter Try.func26, Try.ntmps26
    go_wp2_with (go_at_call 27; (with_reducible refine (isclass_no cl c hk' A cap w HC.out).mono ?_); rintro e w1 ⟨rfl, hb⟩; have HB1 := Lib.hid hb; clear hb)
    go_ret
    exact ⟨_, rfl, World.ownsRow_nil _ _ _ _, HB1.out⟩
end Go.Proofs.Ytcehkmnneimdeaa
