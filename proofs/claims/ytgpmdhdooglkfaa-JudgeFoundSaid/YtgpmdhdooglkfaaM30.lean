/-
  What the document's own step (Step) comes to, at any place of a sane image.
  What the document's own word for operands that fit where others are (under) comes to.
-/
import Derived.Test.YtgpmdhdooglkfaaM24
import Derived.Test.YtgpmdhdooglkfaaM25
import Derived.Test.YtgpmdhdooglkfaaM26
import Derived.Test.YtgpmdhdooglkfaaM27
import Derived.Test.YtgpmdhdooglkfaaM28
import Derived.Test.YtgpmdhdooglkfaaM29
import Derived.Test.YtgpmdhdooglkfaaM23
import Derived.IntWalk
import Derived.RegionTactic
import Derived.ChangeAlike
import Derived.Deep.RegionHeld3
import Derived.Deep.QuietTactic
import Derived.BigQuiet
namespace Go.Proofs.Ytgpmdhdooglkfaa
set_option maxRecDepth 100000
set_option linter.unusedVariables false
set_option linter.unusedSimpArgs false
open Go.ChangeShapes Go.WideShapes Go.ChangeAt Go.RowKit

theorem rstep_any (m : Img) (f pc : Int) (st : List (Int × Int)) (A : Option Addr) (cap : Nat) (h : Hnd) (w : World) (H : ImgIn w w.heap.size h m) (hm : SaneI m) (hst : SlcIs TyAt 2 w w.heap.size A cap st) (hs : st.length ≤ 4000) :
    Calls Try.prog 24 #[imgV h m, .int .i64 f, .int .i64 pc, .slice A st.length cap] w (StepIs (stepOf m f pc st) w) := by
  by_cases f0 : f < 0
  · exact rstep_out1 m f pc st A cap h w H f0
  by_cases f1 : (m.methods.length : Int) ≤ f
  · exact rstep_out2 m f pc st A cap h w H (by omega) f1
  by_cases p0 : pc < 0
  · exact rstep_out3 m f pc st A cap h w H (by omega) (by omega) p0
  obtain ⟨F, rfl⟩ := Int.eq_ofNat_of_zero_le (show 0 ≤ f by omega)
  obtain ⟨P, rfl⟩ := Int.eq_ofNat_of_zero_le (show 0 ≤ pc by omega)
  have hF : F < m.methods.length := by omega
  obtain ⟨x, hx⟩ : ∃ x, m.methods[F]? = some x := ⟨_, List.getElem?_eq_getElem hF⟩
  by_cases p1 : (x.code.length : Int) ≤ P
  · exact rstep_out4 m x F P st A cap h w H hx (by omega) p1
  have hP : P < x.code.length := by omega
  obtain ⟨⟨op, a, b⟩, hi⟩ : ∃ i, x.code[P]? = some i := ⟨_, List.getElem?_eq_getElem hP⟩
  have e : stepOf m (F : Int) (P : Int) st = stepIn m x P op a b st := by
    unfold stepOf mthN
    rw [Int.toNat_natCast, hx, Option.getD_some, if_pos ⟨by omega, by omega, by omega, by omega⟩, Int.toNat_natCast, hi]
  rw [e]
  have hxm := hm.method (List.mem_of_getElem? hx)
  have him := List.mem_of_getElem? hi
  have hin : instrB op a b = true := hxm.fits.ct _ him
  have hna : namedB m x op a b = true := hxm.co _ him
  by_cases n18 : op = 18
  · exact rstep_J m x F P op a b st A cap h w H hm hx hin hna hi hst hs (Lib.hid n18)
  by_cases n19 : op = 19
  · exact rstep_Z m x F P op a b st A cap h w H hm hx hin hna hi hst hs (Lib.hid n19)
  by_cases n33 : op = 33
  · exact rstep_R m x F P op a b st A cap h w H hm hx hin hna hi hst hs (Lib.hid n33)
  by_cases n6 : op = 6
  · exact rstep_D m x F P op a b st A cap h w H hm hx hin hna hi hst hs (Lib.hid n6)
  exact rstep_A m x F P op a b st A cap h w H hm hx hin hna hi hst hs n18 n19 n33 n6
end Go.Proofs.Ytgpmdhdooglkfaa
namespace Go.Proofs.Ytgpmdhdooglkfaa
set_option maxRecDepth 100000
set_option linter.unusedVariables false
set_option linter.unusedSimpArgs false
open Go.ChangeShapes Go.WideShapes Go.ChangeAt Go.RowKit
set_option linter.unusedVariables false
set_option linter.unusedSimpArgs false

theorem slcUp {α : Type} {At : AtP α} (hK : Keeps At) {k : Nat} {w w' : World} {A : Option Addr} {c : Nat} {l : List α} (h : SlcIs At k w w.heap.size A c l) (hb : Below w.heap.size w w') : SlcIs At k w' w'.heap.size A c l :=
  (h.below_to hK hb (Nat.le_refl _)).keep' hK hb.size (fun _ _ => rfl)
set_option maxHeartbeats 3200000 in
theorem runder_any (m : Img) (la lb : List (Int × Int)) (A B : Option Addr) (cap capb : Nat) (h : Hnd) (w : World) (H : ImgIn w w.heap.size h m) (hcl : m.classes.length ≤ 1000) (hla : SlcIs TyAt 2 w w.heap.size A cap la) (hlb : SlcIs TyAt 2 w w.heap.size B capb lb) :
    Calls Try.prog 25 #[imgV h m, .slice A la.length cap, .slice B lb.length capb] w fun e w' => e = .returned (.bool (underB (supsOf m.classes) la lb)) ∧ Below w.heap.size w w' := by
  have HW := Lib.hid (below_box (w := w) (h := h) (m := m))
  have HBX := Lib.hid (img_box w h m)
  have HZ : Hid (w.heap.size < (w.alloc (imgO h m)).heap.size) := Lib.hid (by simp)
  have HI := Lib.hid (H.now HW.out)
  have hl1 := hla.le
  have hl2 := hla.cap
  have hl3 := hlb.le
  have hl4 := hlb.cap
  have HS0 := Lib.hid (slcUp TyAt.keeps hla HW.out)
  have HT0 := Lib.hid (slcUp TyAt.keeps hlb HW.out)
  obtain ⟨b, hb⟩ : ∃ b, underB (supsOf m.classes) la lb = b := ⟨_, rfl⟩
  rw [hb]
  have HE := Lib.hid hb.symm
  clear H hla hlb hb
  by_cases hlen : la.length = lb.length
  rotate_left
  · have hnl : ((la.length : Int) != (lb.length : Int)) = true := bne_iff_ne.mpr (by omega)
    have HF : Hid (b = false) := Lib.hid (by rw [HE.out]; unfold underB; rw [decide_eq_false hlen, Bool.false_and])
    clear hlen
    go_enter Try.func25, Try.ntmps25
    go_upto_region 1 with fail
    generalize w.alloc (imgO h m) = w1 at *
    go_wp2_with fail
    go_ret
    exact ⟨by rw [HF.out]; first | rfl | simp, HW.out⟩
  have HLN := Lib.hid hlen
  have HE2 : Hid (b = (la.zip lb).all fun p => subB (supsOf m.classes) p.1.1 p.1.2 p.2.1 p.2.2) := Lib.hid (by rw [HE.out]; unfold underB; rw [decide_eq_true hlen, Bool.true_and])
  replace hlen : lb.length = la.length := hlen.symm
  rw [hlen]
  go_enter Try.func25, Try.ntmps25
  go_upto_region 1 with fail
  generalize w.alloc (imgO h m) = w1 at *
  go_wp2_with fail
  go_loopw [7] (fun i wr => ∃ k : Nat, k ≤ la.length ∧ i = .int .i64 k ∧ Hid (∀ p ∈ (la.zip lb).take k, subB (supsOf m.classes) p.1.1 p.1.2 p.2.1 p.2.2 = true) ∧ Hid (Below w1.heap.size w1 wr)) (fun i _ => la.length - (intOf i).toNat)
  case atStart => exact ⟨0, Nat.zero_le _, rfl, Lib.hid (by simp), Lib.hid (Below.refl _ _)⟩
  case round =>
    obtain ⟨k, hk, rfl, HA, HX⟩ := hrel
    by_cases hlt : k < la.length
    · have hltm : k < lb.length := by omega
      obtain ⟨ad3, rfl, hab3, s0, s1⟩ := HS0.out.row.at_ hlt
      obtain ⟨ad4, rfl, hab4, t0, t1⟩ := HT0.out.row.at_ hltm
      have hz : k < (la.zip lb).length := by rw [List.length_zip]; omega
      have hze : (la.zip lb)[k] = (la[k], lb[k]) := by simp
      obtain ⟨v, hv⟩ : ∃ v, subB (supsOf m.classes) la[k].1 la[k].2 lb[k].1 lb[k].2 = v := ⟨_, rfl⟩
      have HV := Lib.hid hv
      have HNX : Hid (v = true → ∀ p ∈ (la.zip lb).take (k + 1), subB (supsOf m.classes) p.1.1 p.1.2 p.2.1 p.2.2 = true) := Lib.hid (fun g => all_take (f := fun p : (Int × Int) × (Int × Int) => subB (supsOf m.classes) p.1.1 p.1.2 p.2.1 p.2.2) hz HA.out (by rw [hze]; show subB _ _ _ _ _ = true; rw [hv, g]))
      have HNO : Hid (v = false → b = false) := Lib.hid (fun g => by rw [HE2.out]; exact all_not (f := fun p : (Int × Int) × (Int × Int) => subB (supsOf m.classes) p.1.1 p.1.2 p.2.1 p.2.2) hz (by rw [hze]; show subB _ _ _ _ _ = false; rw [hv, g]))
      clear hv hz hze
      generalize la[k] = t at *
      generalize lb[k] = u at *
      have HK5 : Hid (∀ W, Below w1.heap.size w1 W → (fun w' => w'.cell? ⟨w.heap.size, 0, none⟩ = some (.slice h.A0 m.classes.length h.c0) ∧ w'.cell? (ad3.add (k * 2)) = some (.int .i64 t.1) ∧ w'.cell? (off_ (ad3.add (k * 2)) 1) = some (.int .i64 t.2) ∧ w'.cell? (ad4.add (k * 2)) = some (.int .i64 u.1) ∧ w'.cell? (off_ (ad4.add (k * 2)) 1) = some (.int .i64 u.2)) W) := Lib.hid (fun W hW => by
        obtain ⟨d0, _⟩ := HBX.out.keep hW HZ.out
        exact ⟨d0, (hW.cell (p := ad3.add (k * 2)) (by rw [addr_add_block]; exact hab3)).trans s0, (hW.cell (p := off_ (ad3.add (k * 2)) 1) (by show (ad3.add _).block < _; rw [addr_add_block]; exact hab3)).trans s1,
          (hW.cell (p := ad4.add (k * 2)) (by rw [addr_add_block]; exact hab4)).trans t0, (hW.cell (p := off_ (ad4.add (k * 2)) 1) (by show (ad4.add _).block < _; rw [addr_add_block]; exact hab4)).trans t1⟩)
      clear s0 s1 t0 t1
      have HXD : Hid (Below w1.heap.size w1 wr.drew) := Lib.hid HX.out.drew
      cases v
      · go_wp2_with fail
        go_region_held3 (fun w' => w'.cell? ⟨w.heap.size, 0, none⟩ = some (.slice h.A0 m.classes.length h.c0) ∧ w'.cell? (ad3.add (k * 2)) = some (.int .i64 t.1) ∧ w'.cell? (off_ (ad3.add (k * 2)) 1) = some (.int .i64 t.2) ∧ w'.cell? (ad4.add (k * 2)) = some (.int .i64 u.1) ∧ w'.cell? (off_ (ad4.add (k * 2)) 1) = some (.int .i64 u.2)) (first | exact HK5.out _ HXD.out | exact HK5.out _ HX6.out) (first | (go_at_call 42; (with_reducible refine (sub_any_is HI HXD (Lib.hid hcl) HV).mono ?_); rintro e w6 ⟨rfl, hb⟩; have HX6 := Lib.hid (HXD.out.trans (hb.mono HXD.out.size)); clear hb))
        rename_i hHeld
        clear hHeld
        go_wp2_with fail
        go_ret
        exact ⟨by rw [HNO.out (by simp)]; first | rfl | simp, HW.out.trans (HX6.out.mono (Nat.le_of_lt HZ.out))⟩
      · go_wp2_with fail
        go_region_held3 (fun w' => w'.cell? ⟨w.heap.size, 0, none⟩ = some (.slice h.A0 m.classes.length h.c0) ∧ w'.cell? (ad3.add (k * 2)) = some (.int .i64 t.1) ∧ w'.cell? (off_ (ad3.add (k * 2)) 1) = some (.int .i64 t.2) ∧ w'.cell? (ad4.add (k * 2)) = some (.int .i64 u.1) ∧ w'.cell? (off_ (ad4.add (k * 2)) 1) = some (.int .i64 u.2)) (first | exact HK5.out _ HXD.out | exact HK5.out _ HX6.out) (first | (go_at_call 42; (with_reducible refine (sub_any_is HI HXD (Lib.hid hcl) HV).mono ?_); rintro e w6 ⟨rfl, hb⟩; have HX6 := Lib.hid (HXD.out.trans (hb.mono HXD.out.size)); clear hb))
        rename_i hHeld
        clear hHeld
        go_wp2_with fail
        go_roundw
        case rel => exact ⟨k + 1, by omega, by go_num, Lib.hid (HNX.out (by simp)), HX6⟩
        case measure => simp [intOf]; omega
    · have HB : Hid (b = true) := Lib.hid (by rw [HE2.out]; exact all_end (f := fun p : (Int × Int) × (Int × Int) => subB (supsOf m.classes) p.1.1 p.1.2 p.2.1 p.2.2) HA.out (by rw [List.length_zip]; omega))
      go_wp2_with fail
      go_ret
      exact ⟨by rw [HB.out]; first | rfl | simp, HW.out.trans (HX.out.mono (Nat.le_of_lt HZ.out))⟩
theorem runder_is {m : Img} {la lb : List (Int × Int)} {A B : Option Addr} {cap capb : Nat} {h : Hnd} {w0 w : World} {r : Bool} (HI : Hid (ImgIn w0 w0.heap.size h m)) (HX : Hid (Below w0.heap.size w0 w)) (hcl : m.classes.length ≤ 1000) (HA : SlcIs TyAt 2 w w.heap.size A cap la) (HB : SlcIs TyAt 2 w w.heap.size B capb lb) (HR : Hid (underB (supsOf m.classes) la lb = r)) :
    Calls Try.prog 25 #[imgV h m, .slice A la.length cap, .slice B lb.length capb] w fun e w' => e = .returned (.bool r) ∧ Below w.heap.size w w' := by
  have H := runder_any m la lb A B cap capb h w (HI.out.now HX.out) hcl HA HB
  rw [HR.out] at H
  exact H
end Go.Proofs.Ytgpmdhdooglkfaa
