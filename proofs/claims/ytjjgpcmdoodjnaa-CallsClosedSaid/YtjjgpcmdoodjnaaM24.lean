/-
  What the document's own answer for whether a method may call another (Calls) comes to.
-/
import Derived.Test.YtjjgpcmdoodjnaaM23
namespace Go.Proofs.Ytjjgpcmdoodjnaa
set_option maxRecDepth 100000
set_option linter.unusedVariables false
set_option linter.unusedSimpArgs false
open Go.ChangeShapes Go.WideShapes Go.ChangeAt Go.RowKit

theorem rtargets_any (m : Img) (op a b : Int) (h : Hnd) (w : World) (H : ImgIn w w.heap.size h m) (hn : m.classes.length ≤ 1000) :
    Calls Try.prog 23 #[imgV h m, insV op a b] w (OwnInts (targetsOf m op a b) w) := by
  by_cases h31 : op = 31
  · subst h31; exact rtargets_call m a b h w
  by_cases h32 : op = 32
  · subst h32; exact rtargets_virt m a b h w H hn
  exact rtargets_none m op a b h31 h32 h w
theorem rtargets_is {m : Img} {op a b : Int} {h : Hnd} {w0 w : World} {L : List Int} (HI : Hid (ImgIn w0 w0.heap.size h m)) (HX : Hid (Below w0.heap.size w0 w)) (HN : Hid (m.classes.length ≤ 1000)) (HL : Hid (targetsOf m op a b = L)) :
    Calls Try.prog 23 #[imgV h m, insV op a b] w (OwnInts L w) := by
  have H := rtargets_any m op a b h w (HI.out.now HX.out) HN.out
  rw [HL.out] at H
  exact H
/-- May these instructions not call that method? -/
def callsB (m : Img) (x : Mth) (g : Int) : Bool := !(x.code.all fun i => !inB (targetsOf m i.1 i.2.1 i.2.2) g)
theorem targets_len (m : Img) (op a b : Int) (hn : m.classes.length ≤ 1000) : (targetsOf m op a b).length ≤ 1000 := by
  unfold targetsOf
  by_cases h1 : op = 31
  · rw [if_pos h1]; exact (show 1 ≤ 1000 by decide)
  rw [if_neg h1]
  by_cases h2 : op = 32
  · rw [if_pos h2]; exact Nat.le_trans (slotsIn_len _ _ _) (Nat.le_trans (belowTo_len _ _ _) hn)
  · rw [if_neg h2]; exact Nat.zero_le _

set_option maxHeartbeats 3200000 in
theorem rcalls_any (m : Img) (x : Mth) (f : Nat) (g : Int) (h : Hnd) (w : World) (H : ImgIn w w.heap.size h m) (hg : m.methods[f]? = some x) (hn : m.classes.length ≤ 1000) (ha : x.code.length ≤ 1048576) :
    Calls Try.prog 15 #[imgV h m, .int .i64 f, .int .i64 g] w fun e w' => e = .returned (.bool (callsB m x g)) ∧ Below w.heap.size w w' := by
  have hk : f < m.methods.length := (List.getElem?_eq_some_iff.mp hg).1
  have hx : m.methods[f] = x := (List.getElem?_eq_some_iff.mp hg).2
  have hle := H.methods.le
  have hcap := H.methods.cap
  obtain ⟨ad, hx', eA, hab, hin, hc⟩ := img_mth H hk
  rw [hx] at hin hc
  obtain ⟨A0, A1, A2, A3, A4, k0, k1, k2, k3, k4⟩ := h
  dsimp only at eA hcap hle
  subst eA
  have HN := Lib.hid hn
  have HW := Lib.hid ((Below.refl w.heap.size w).alloc (Nat.le_refl _) (imgO ⟨A0, A1, A2, some ad, A4, k0, k1, k2, k3, k4⟩ m))
  have HIM := Lib.hid (H.now HW.out)
  have HBX := Lib.hid (img_box w ⟨A0, A1, A2, some ad, A4, k0, k1, k2, k3, k4⟩ m)
  have HZ : Hid (w.heap.size < (w.alloc (imgO ⟨A0, A1, A2, some ad, A4, k0, k1, k2, k3, k4⟩ m)).heap.size) := Lib.hid (by simp)
  have HAB : Hid ((ad.add (f * 8)).block < (w.alloc (imgO ⟨A0, A1, A2, some ad, A4, k0, k1, k2, k3, k4⟩ m)).heap.size) := Lib.hid (by rw [addr_add_block]; simp; omega)
  have HMC := Lib.hid (hc.keep HW.out (by rw [addr_add_block]; exact hab))
  have HIN := Lib.hid (hin.now HW.out)
  have ccap := hin.code.cap
  have cle := hin.code.le
  have HCE := Lib.hid (show callsB m x g = !(x.code.all fun i => !inB (targetsOf m i.1 i.2.1 i.2.2) g) from rfl)
  clear H hg hin hc hn hab hx
  go_enter Try.func15, Try.ntmps15
  go_upto_region 1 with fail
  generalize w.alloc (imgO ⟨A0, A1, A2, some ad, A4, k0, k1, k2, k3, k4⟩ m) = w1 at *
  go_wp2_with fail
  go_loopw [7] (fun i wr => ∃ k : Nat, k ≤ x.code.length ∧ i = .int .i64 k ∧ Hid (∀ i ∈ x.code.take k, (!inB (targetsOf m i.1 i.2.1 i.2.2) g) = true) ∧ Hid (Below w1.heap.size w1 wr)) (fun i _ => x.code.length - (intOf i).toNat)
  case atStart => exact ⟨0, Nat.zero_le _, rfl, Lib.hid (by simp), Lib.hid (Below.refl _ _)⟩
  case round =>
    obtain ⟨k, hkl, rfl, HNO, HX⟩ := hrel
    obtain ⟨q0, q1, q2, q3, q4, q5, q6⟩ := HBX.out.keep HX.out HZ.out
    dsimp only at q0 q1 q2 q3 q4 q5 q6
    have c4 := (HMC.out.keep HX.out HAB.out).c4
    by_cases hlt : k < x.code.length
    · obtain ⟨ac, eC, hac, i0, i1, i2⟩ := HIN.out.code.row.at_ hlt
      have HBA := Lib.hid (fun q => all_not (f := fun i : Int × Int × Int => !inB (targetsOf m i.1 i.2.1 i.2.2) g) hlt q)
      have HYE := Lib.hid (fun q => all_take (f := fun i : Int × Int × Int => !inB (targetsOf m i.1 i.2.1 i.2.2) g) hlt HNO.out q)
      generalize x.code[k] = ins at *
      obtain ⟨op, a, b⟩ := ins
      dsimp only at i0 i1 i2 HBA HYE
      rw [eC] at c4
      have HR : Hid (∀ W, Below w1.heap.size w1 W → W.cell? (ac.add (k * 3)) = some (.int .i64 op) ∧ W.cell? (off_ (ac.add (k * 3)) 1) = some (.int .i64 a) ∧ W.cell? (off_ (ac.add (k * 3)) 2) = some (.int .i64 b)) := Lib.hid (fun W hW => ⟨(hW.cell (p := ac.add (k * 3)) (by rw [addr_add_block]; exact hac)).trans i0, (hW.cell (p := off_ (ac.add (k * 3)) 1) (by show (ac.add (k * 3)).block < _; rw [addr_add_block]; exact hac)).trans i1, (hW.cell (p := off_ (ac.add (k * 3)) 2) (by show (ac.add (k * 3)).block < _; rw [addr_add_block]; exact hac)).trans i2⟩)
      have HC4 : Hid (∀ W, Below w1.heap.size w1 W → W.cell? ⟨(ad.add (f * 8)).block, (ad.add (f * 8)).off + 4, none⟩ = some (.slice (some ac) x.code.length hx'.k4)) := Lib.hid (fun W hW => by have q := (HMC.out.keep hW HAB.out).c4; rw [eC] at q; exact q)
      obtain ⟨j0, j1, j2⟩ := HR.out _ HX.out
      clear i0 i1 i2 eC
      obtain ⟨L, hL⟩ : ∃ L, targetsOf m op a b = L := ⟨_, rfl⟩
      have hLl : L.length ≤ 9223372036854775807 := by have := targets_len m op a b HN.out; rw [hL] at this; omega
      have HL := Lib.hid hL
      rw [hL] at HBA HYE
      clear hL
      have HXd := Lib.hid HX.out.drew
      obtain ⟨r, hr⟩ : ∃ r, inB L g = r := ⟨_, rfl⟩
      have HIR := Lib.hid hr
      cases r
      · have HR2 := Lib.hid (HYE.out (by rw [hr]; rfl))
        clear hr
        go_wp2_with fail
        go_region_held3 (fun w' => w'.cell? ⟨w.heap.size, 0, none⟩ = some (.slice A0 m.classes.length k0) ∧ w'.cell? ⟨w.heap.size, 1, none⟩ = some (.slice A1 m.statics.length k1) ∧ w'.cell? ⟨w.heap.size, 2, none⟩ = some (.slice A2 m.ints.length k2) ∧ w'.cell? ⟨w.heap.size, 3, none⟩ = some (.slice (some ad) m.methods.length k3) ∧ w'.cell? ⟨w.heap.size, 4, none⟩ = some (.slice A4 m.entries.length k4) ∧ w'.cell? ⟨w.heap.size, 5, none⟩ = some (.int .i64 m.stack) ∧ w'.cell? ⟨w.heap.size, 6, none⟩ = some (.int .i64 m.heap) ∧ w'.cell? ⟨(ad.add (f * 8)).block, (ad.add (f * 8)).off + 4, none⟩ = some (.slice (some ac) x.code.length hx'.k4) ∧ w'.cell? (ac.add (k * 3)) = some (.int .i64 op) ∧ w'.cell? (off_ (ac.add (k * 3)) 1) = some (.int .i64 a) ∧ w'.cell? (off_ (ac.add (k * 3)) 2) = some (.int .i64 b)) (first | exact ⟨q0, q1, q2, q3, q4, q5, q6, c4, j0, j1, j2⟩) (first | (go_at_call 23; (with_reducible refine (rtargets_is HIM HXd HN HL).mono ?_); rintro e w2 ⟨v2, rfl, ho, hb⟩; have HX2 := Lib.hid (HXd.out.trans (hb.mono HXd.out.size)); obtain ⟨A9, c9, rfl, hl9, _, _⟩ := own_ints ho; have HL9 := Lib.hid hl9; obtain ⟨q0, q1, q2, q3, q4, q5, q6⟩ := HBX.out.keep HX2.out HZ.out; dsimp only at q0 q1 q2 q3 q4 q5 q6; have c4 := HC4.out _ HX2.out; obtain ⟨j0, j1, j2⟩ := HR.out _ HX2.out; clear ho hb hl9) | (go_at_call 13; (with_reducible refine (rin_any _ _ _ _ _ _ hLl HL9.out).mono ?_); rintro e w' ⟨he, rfl⟩; rw [HIR.out] at he; subst he))
        go_wp2_with fail
        go_roundw
        case rel => exact ⟨k + 1, by omega, by go_num, HR2, HX2⟩
        case measure => simp [intOf]; omega
      · have HE := Lib.hid (HCE.out.trans (by rw [HBA.out (by rw [hr]; rfl)]; rfl : _ = true))
        clear hr
        go_wp2_with fail
        go_region_held3 (fun w' => w'.cell? ⟨w.heap.size, 0, none⟩ = some (.slice A0 m.classes.length k0) ∧ w'.cell? ⟨w.heap.size, 1, none⟩ = some (.slice A1 m.statics.length k1) ∧ w'.cell? ⟨w.heap.size, 2, none⟩ = some (.slice A2 m.ints.length k2) ∧ w'.cell? ⟨w.heap.size, 3, none⟩ = some (.slice (some ad) m.methods.length k3) ∧ w'.cell? ⟨w.heap.size, 4, none⟩ = some (.slice A4 m.entries.length k4) ∧ w'.cell? ⟨w.heap.size, 5, none⟩ = some (.int .i64 m.stack) ∧ w'.cell? ⟨w.heap.size, 6, none⟩ = some (.int .i64 m.heap) ∧ w'.cell? ⟨(ad.add (f * 8)).block, (ad.add (f * 8)).off + 4, none⟩ = some (.slice (some ac) x.code.length hx'.k4) ∧ w'.cell? (ac.add (k * 3)) = some (.int .i64 op) ∧ w'.cell? (off_ (ac.add (k * 3)) 1) = some (.int .i64 a) ∧ w'.cell? (off_ (ac.add (k * 3)) 2) = some (.int .i64 b)) (first | exact ⟨q0, q1, q2, q3, q4, q5, q6, c4, j0, j1, j2⟩) (first | (go_at_call 23; (with_reducible refine (rtargets_is HIM HXd HN HL).mono ?_); rintro e w2 ⟨v2, rfl, ho, hb⟩; have HX2 := Lib.hid (HXd.out.trans (hb.mono HXd.out.size)); obtain ⟨A9, c9, rfl, hl9, _, _⟩ := own_ints ho; have HL9 := Lib.hid hl9; obtain ⟨q0, q1, q2, q3, q4, q5, q6⟩ := HBX.out.keep HX2.out HZ.out; dsimp only at q0 q1 q2 q3 q4 q5 q6; have c4 := HC4.out _ HX2.out; obtain ⟨j0, j1, j2⟩ := HR.out _ HX2.out; clear ho hb hl9) | (go_at_call 13; (with_reducible refine (rin_any _ _ _ _ _ _ hLl HL9.out).mono ?_); rintro e w' ⟨he, rfl⟩; rw [HIR.out] at he; subst he))
        go_wp2_with fail
        go_ret
        exact ⟨by rw [HE.out]; rfl, HW.out.trans (HX2.out.mono HW.out.size)⟩
    · obtain rfl : k = x.code.length := by omega
      have HE := Lib.hid (HCE.out.trans (by rw [all_end HNO.out (Nat.le_refl _)]; rfl : _ = false))
      go_wp2_with fail
      go_ret
      exact ⟨by rw [HE.out]; rfl, HW.out.trans (HX.out.mono HW.out.size)⟩
end Go.Proofs.Ytjjgpcmdoodjnaa
