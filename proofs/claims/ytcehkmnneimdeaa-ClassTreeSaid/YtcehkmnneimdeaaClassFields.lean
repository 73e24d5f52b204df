/-
  The program's own class.Fields: it answers all fields of a class, those of the highest one above it first.
-/
import Derived.Test.YtcehkmnneimdeaaClassBack
import Derived.Test.YtcehkmnneimdeaaRound
import Derived.Test.YtcehkmnneimdeaaRefFields
namespace Go.Proofs.Ytcehkmnneimdeaa
set_option maxRecDepth 100000
set_option linter.unusedVariables false
set_option linter.unusedSimpArgs false
open Go.ChangeShapes Go.WideShapes Go.ChangeAt Go.RowKit Go.Shelf

attribute [local go_sem] Oper.semAt_some

theorem own_liesin {w : World} {base e n c : Nat} {A : Option Addr} {xs : List Value} (h : w.ownsRow base e 1 (.slice A n c) n xs) : LiesIn w base w.heap.size A xs := fun j u hu => by
  obtain ⟨ad, e, hb, hc⟩ := Lies.of_own h j u hu
  refine ⟨ad, e, ?_, hb, hc⟩
  rcases h.2 with ⟨h0, _⟩ | ⟨g, cap, cur, hv, hg, _⟩
  · injection h0 with h0; rw [h0] at e; cases e
  · injection hv with hv; rw [hv] at e; injection e with e; rw [← e]; exact hg

theorem wayup_is {cl : List Cls} {c : Int} {U : List Int} {A : Option Addr} {cap : Nat} {w : World} (hn : cl.length ≤ 1048576) (HU : Hid (aboveI (supsOf cl) c = U)) (h : SlcIs ClsAt 3 w w.heap.size A cap cl) :
    Calls Try.prog 26 #[.slice A cl.length cap, .int .i64 c] w (OwnInts U w) := by
  have H := wayup_any cl c A cap w hn h
  rw [HU.out] at H
  exact H
/-- All blocks below one stand as they stood, but for one. -/
def KeptBut (N g : Nat) (A B : World) : Prop := A.heap.size ≤ B.heap.size ∧ ∀ b, b < N → b ≠ g → B.heap[b]? = A.heap[b]?
theorem KeptBut.refl (N g : Nat) (A : World) : KeptBut N g A A := ⟨Nat.le_refl _, fun _ _ _ => rfl⟩
theorem KeptBut.trans {N g : Nat} {A B C : World} (h : KeptBut N g A B) (h' : KeptBut N g B C) : KeptBut N g A C := ⟨Nat.le_trans h.1 h'.1, fun b b0 b1 => (h'.2 b b0 b1).trans (h.2 b b0 b1)⟩
theorem KeptBut.cell {N g : Nat} {A B : World} (h : KeptBut N g A B) {p : Addr} (h0 : p.block < N) (h1 : p.block ≠ g) : B.cell? p = A.cell? p := by
  unfold World.cell?
  rw [h.2 _ h0 h1]
theorem KeptBut.kept {N g : Nat} {A B : World} (h : KeptBut N g A B) : Kept (g + 1) N A B := fun q q0 q1 => h.cell q1 (by omega)
theorem KeptBut.putObj {N g : Nat} {A : World} {l : Nat} {o : Obj} (hl : N ≤ l) : KeptBut N g A (A.putObj l o) :=
  ⟨by simp, fun b b0 _ => World.putObj_heap_other (by omega)⟩
theorem KeptBut.grown {N g : Nat} {A B C : World} {row : Option Nat} (h : KeptBut N g A B) (hg : B.grownBy C row) (hN : N ≤ B.heap.size) (hr : ∀ r, row = some r → N ≤ r ∨ r = g) : KeptBut N g A C :=
  ⟨Nat.le_trans h.1 hg.size, fun b b0 b1 => (hg.block b (by omega) (fun e => by rcases hr b e.symm with x | x <;> omega)).trans (h.2 b b0 b1)⟩
theorem KeptBut.box {N g : Nat} {A B : World} (h : KeptBut N g A B) {k : Nat} {hd : Hnd} {m : Img} (H : ImgBox A k hd m) (h0 : k < N) (h1 : k ≠ g) : ImgBox B k hd m := by
  obtain ⟨q0, q1, q2, q3, q4, q5, q6⟩ := H
  have c : ∀ i, B.cell? ⟨k, i, none⟩ = A.cell? ⟨k, i, none⟩ := fun i => h.cell (p := ⟨k, i, none⟩) h0 h1
  exact ⟨(c 0).trans q0, (c 1).trans q1, (c 2).trans q2, (c 3).trans q3, (c 4).trans q4, (c 5).trans q5, (c 6).trans q6⟩
theorem ownFrom_kept {β : Type} {B N g : Nat} {A : World} (hN : N ≤ B) (hA : N ≤ A.heap.size) : OwnFrom B (fun (_ : β) W => KeptBut N g A W) := fun s X Y row hs hg hr =>
  hs.grown hg (Nat.le_trans hA hs.1) (fun r e => .inl (Nat.le_trans hN (hr r e).1))
/-- The fields of the classes at these places of a list. -/
def fieldsUp (cl : List Cls) (U : List Int) (pre : List (Fin U.length)) : List (Int × Int) := (pre.map (fun x => U[x])).flatMap (fieldsAt cl)
theorem fieldsUp_snoc (cl : List Cls) (U : List Int) (pre : List (Fin U.length)) (x : Fin U.length) : fieldsUp cl U (pre ++ [x]) = fieldsUp cl U pre ++ fieldsAt cl U[x] := by simp [fieldsUp]
theorem fieldsUp_all (cl : List Cls) (U : List Int) : fieldsUp cl U (downs U) = U.reverse.flatMap (fieldsAt cl) := by unfold fieldsUp; rw [downs_map]

theorem own_far {w : World} {B e size n : Nat} {v : Value} {xs : List Value} (h : w.ownsRow B e size v n xs) : ∀ r, v.ownBlock = some r → B ≤ r := fun r hr => by
  rcases h.2 with ⟨rfl, _⟩ | ⟨g, cap, cur, rfl, hg, _⟩
  · simp [Value.ownBlock] at hr
  · have : g = r := by simpa [Value.ownBlock] using hr
    omega
theorem kept_store {N g : Nat} {A B : World} (h : KeptBut N g A B) (v : Value) : KeptBut N g A (B.setCell ⟨g, 0, none⟩ v) :=
  ⟨by have := (KeepsWalks.setCell B ⟨g, 0, none⟩ v).size; exact Nat.le_trans h.1 this, fun b b0 b1 => (Below.heap_setCell _ _ _ b b1).trans (h.2 b b0 b1)⟩
theorem own_cells {w : World} {B e size n : Nat} {v : Value} {xs : List Value} (h : w.ownsRow B e size v n xs) : ∀ j o, v.ownBlock = some j → w.heap[j]? = some o → o.isCells = true := fun j o hj ho => by
  rcases h.2 with ⟨rfl, _⟩ | ⟨g, cap, cur, rfl, hg, hh, _⟩
  · simp [Value.ownBlock] at hj
  · obtain rfl : g = j := by simpa [Value.ownBlock] using hj
    rw [hh] at ho; cases ho; rfl
theorem own_slc {w : World} {B e size n : Nat} {v : Value} {xs : List Value} (h : w.ownsRow B e size v n xs) : ∃ A c, v = .slice A n c := by
  rcases ownK_slice h with ⟨rfl, rfl⟩ | ⟨g, c, rfl, _⟩
  · exact ⟨_, _, rfl⟩
  · exact ⟨_, _, rfl⟩

set_option maxHeartbeats 3200000 in
theorem cfields_any (m : Img) (c : Int) (h : Hnd) (w : World) (H : ImgIn w w.heap.size h m) (hn : m.classes.length ≤ 1000) (hf : ∀ x ∈ m.classes, x.fields.length ≤ 1000) :
    Calls Try.prog 13 #[imgV h m, .int .i64 c] w (OwnTypes (fieldsOf m.classes c) w) := by
  obtain ⟨i0, hi, hz0, hz1, hz2⟩ := info_partsK info_type
  have HW := Lib.hid (((Below.refl w.heap.size w).alloc (Nat.le_refl _) (imgO h m)).alloc (by simp) (.cells #[.slice none 0 0] 23))
  have HSZ := Lib.hid (show ((w.alloc (imgO h m)).alloc (.cells #[.slice none 0 0] 23)).heap.size = w.heap.size + 1 + 1 by simp)
  have HIM := Lib.hid (H.now HW.out)
  have HBX := Lib.hid ((img_box w h m).keep ((Below.refl _ (w.alloc (imgO h m))).alloc (Nat.le_refl _) (.cells #[.slice none 0 0] 23)) (by simp))
  have HAL := Lib.hid (show Go.Boxed ((w.alloc (imgO h m)).alloc (.cells #[.slice none 0 0] 23)) (w.heap.size + 1) 23 (.slice none 0 0) from by
    have := Go.Boxed.new (w.alloc (imgO h m)) 23 (.slice none 0 0)
    rw [World.size_alloc] at this
    exact this)
  have HI0 := Lib.hid H
  have HI0 := Lib.hid H
  have HI0 := Lib.hid H
  have HF := Lib.hid hf
  have HFO := Lib.hid (show fieldsOf m.classes c = (aboveI (supsOf m.classes) c).reverse.flatMap (fieldsAt m.classes) from rfl)
  have hsl : (supsOf m.classes).length = m.classes.length := supsOf_len _
  obtain ⟨U, hU⟩ : ∃ U, aboveI (supsOf m.classes) c = U := ⟨_, rfl⟩
  have hUl : U.length ≤ 1000 := by rw [← hU]; have := aboveI_len (supsOf m.classes) c; omega
  have HUm : Hid (∀ i ∈ U, 0 ≤ i ∧ i < m.classes.length) := Lib.hid (by rw [← hU]; intro i hi; have := aboveI_lt hi; omega)
  have HU := Lib.hid hU
  rw [hU] at HFO
  clear hsl hU H hf
  refine (callsIn_wide (n := 4)).1 ?_
  refine callsIn_of_wp_marks Try.func13 rfl trivial ?_ rfl
  simp only [Try.ntmps13, List.size_toArray, List.length_cons, List.length_nil, Nat.reduceAdd, Nat.reduceSub, Array.replicate_succ, Array.replicate_zero, List.push_toArray, List.append_toArray, List.nil_append, List.cons_append]
  gi_wp2_with (first
    | (refine ⟨trivial, ?_⟩; gi_at_call 26; refine (callsIn_wide.2 (wayup_is (by omega) HU HIM.out.classes)).mono ?_; rintro e w3 ⟨v3, rfl, ho, hb⟩; obtain ⟨A3, c3, rfl, hl3, g1, g2⟩ := own_ints ho; have HB3 := Lib.hid hb; have HO3 := Lib.hid (own_liesin ho); clear hb ho hl3)
    | (refine ⟨trivial, ?_⟩; gi_at_call 25; refine (back_in Fence.wide _ trivial rfl _ _ _ _).mono ?_; rintro e w' ⟨rfl, rfl⟩))
  generalize (w.alloc (imgO h m)).alloc (.cells #[.slice none 0 0] 23) = w2 at *
  obtain ⟨N, hN⟩ : ∃ N, N = w3.heap.size := ⟨_, rfl⟩
  have hs3 := HB3.out.size
  have hs2 := HSZ.out
  rw [← hN] at HO3 hs3
  rw [hs2] at HO3
  have hbB : Below w2.heap.size w2 (w3.alloc (.cells #[.slice A3 U.length c3] 26)) := HB3.out.trans ((Below.refl _ w3).alloc (by omega) _)
  have HBB := Lib.hid hbB
  have hbox := HBX.out.keep hbB (by omega)
  have hall := (hbB.block (w.heap.size + 1) (by omega)).trans HAL.out
  have hcl := HIM.out.now hbB
  refine wpIn_rangeFunc_ownG rfl (by omega) (gf := 31) (lb := #[.pointer (some ⟨w3.heap.size, 0, none⟩)]) rfl trivial (enters_of Try.func31 (by kernel_rfl) rfl)
    (back_stops Fence.wide 3 trivial rfl (by omega) w3.heap.size (w.heap.size + 1 + 1) (N + 1) A3 c3 U (by omega) (Kp := KeptBut (N + 1) (w.heap.size + 1)) (fun _ _ hk => hk.kept) (w3.alloc (.cells #[.slice A3 U.length c3] 26)) (by omega) (by omega) (by simp; omega)
      (by rw [World.cell?_alloc_at _ _ _ _ rfl]; rfl) (fun j u hu => by
        obtain ⟨ad, e, a0, a1, hc⟩ := HO3.out j u hu
        exact ⟨ad, e, a0, by omega, (World.cell?_alloc_lt w3 _ _ (by rw [addr_add_block]; omega)).trans hc⟩))
    (fun a b => a.trans b) (fun W l o o' hl _ _ _ => KeptBut.putObj (by simp at hl; omega)) (Below.refl _ _) (fun _ => rfl)
    (fun pre W => (∃ v, Go.Boxed W (w.heap.size + 1) 23 v ∧ W.ownsRow (N + 1) 40 2 v (fieldsUp m.classes U pre).length (tysV (fieldsUp m.classes U pre)) ∧ True) ∧ KeptBut (N + 1) (w.heap.size + 1) (w3.alloc (.cells #[.slice A3 U.length c3] 26)) W ∧ Below w.heap.size w W)
    (fun _ _ _ => False)
    (OwnFrom.and (Own.from (holdsRow_own (N + 1) (w.heap.size + 1) 23 40 2 (fun pre => (fieldsUp m.classes U pre).length) (fun pre => tysV (fieldsUp m.classes U pre)) (fun _ _ => True)) _) (OwnFrom.and (ownFrom_kept (by simp; omega) (by simp; omega)) (ownFrom_below (Nat.le_refl _) (by simp; omega))))
    (fun _ _ _ _ _ hs _ _ => hs)
    ⟨⟨_, hall, World.ownsRow_nil _ _ _ _, trivial⟩, KeptBut.refl _ _ _, HW.out.trans (hbB.mono (by omega))⟩
    (fun x => { tmps := #[imgV h m, .int .i64 c, .pointer (some ⟨w.heap.size, 0, none⟩), undef, .slice none 0 0, .pointer (some ⟨w.heap.size + 1, 0, none⟩), undef, .int .i64 U[x],
      .pointer (some ⟨w.heap.size, 0, none⟩), .slice h.A0 m.classes.length h.c0, .int .i64 c, .slice A3 U.length c3, .func (.func 31) #[] #[.pointer (some ⟨w3.heap.size, 0, none⟩)],
      .int .i64 (x.1 : Int), .int .i64 U[x], undef, undef, undef, undef, undef, undef, undef, undef, undef], defers := [] }) ?assign ?body ?done ?stop
  case assign =>
    intro l x W K hK
    unfold encU
    gi_wp2
    exact hK
  case body =>
    rintro l pre x W ⟨⟨v, hv, hrow, -⟩, hkb, hB⟩ hlt
    have HSN := Lib.hid (fieldsUp_snoc m.classes U pre x)
    have hsum := fields_sum HF.out (pre.map (fun x => U[x]))
    rw [List.length_map] at hsum
    obtain ⟨u0, u1⟩ := HUm.out U[x] (List.getElem_mem x.2)
    generalize U[x] = u at *
    obtain ⟨j, rfl⟩ := Int.eq_ofNat_of_zero_le u0
    have hjl : j < m.classes.length := by omega
    have hfx := HF.out _ (List.getElem_mem hjl)
    have HFA := Lib.hid (fieldsAt_get hjl)
    obtain ⟨ad, e0, hab, hcx⟩ := (HI0.out.below_to hB (Nat.le_refl _)).classes.row.at_ hjl
    generalize m.classes[j] = y at *
    obtain ⟨s0, ⟨A1, k1, s1, hs1⟩, _⟩ := hcx
    have hmx : Try.prog.follows .mixedOrders = true := by kernel_rfl
    obtain ⟨q0, q1, q2, q3, q4, q5, q6⟩ := hkb.box hbox (by omega) (by omega)
    clear q1 q2 q3 q4 q5 q6 s0
    rw [e0] at q0
    obtain ⟨L, hL⟩ : ∃ L, fieldsUp m.classes U pre = L := ⟨_, rfl⟩
    rw [hL] at hrow HSN
    have hLl : L.length ≤ 1000000 := by rw [← hL]; unfold fieldsUp; omega
    have HO := Lib.hid hrow
    obtain ⟨Av, cv, rfl, _, _⟩ := own_types hrow
    clear hrow hL hsum
    have hc := hv.cell
    have hfr := hv.frozen
    have HV := Lib.hid hv
    have HKB := Lib.hid hkb
    have HB := Lib.hid hB
    have HS1 : Hid (∀ W', Below w.heap.size W W' → W'.cell? (off_ (ad.add (j * 3)) 1) = some (.slice A1 y.fields.length k1)) := Lib.hid (fun W' hW => (hW.cell (p := off_ (ad.add (j * 3)) 1) (by show (ad.add _).block < _; rw [addr_add_block]; exact hab)).trans s1)
    have HTL := Lib.hid (tys_lie hs1.row)
    have hs2' := hs1.le
    have hs3' := hs1.cap
    have hNW : N + 1 ≤ W.heap.size := by have := hkb.1; simp at this; omega
    clear hv hkb hB hs1
    gi_wp2
    have HTLd : Hid (Lies W.drew w.heap.size A1 (tysV y.fields)) := HTL
    have HOd : Hid (W.drew.ownsRow (N + 1) 40 2 (.slice Av L.length cv) L.length (tysV L)) := HO
    have HVd : Hid (Go.Boxed W.drew (w.heap.size + 1) 23 (.slice Av L.length cv)) := HV
    have HKd : Hid (KeptBut (N + 1) (w.heap.size + 1) W W.drew) := Lib.hid ⟨Nat.le_refl _, fun _ _ _ => rfl⟩
    have HBd : Hid (Below w.heap.size W W.drew) := Lib.hid (Below.refl w.heap.size W).drew
    refine wpIn_round_held hmx (by kernel_rfl) (S := fun w' => w'.cell? ⟨w.heap.size, 0, none⟩ = some (.slice (some ad) m.classes.length h.c0) ∧ w'.cell? (off_ (ad.add (j * 3)) 1) = some (.slice A1 y.fields.length k1)) ⟨q0, s1⟩ (fun hHeld => ?_)
    refine wpAnyH_take (i := 1) (oi := _) (v := ?_) rfl (by kernel_rfl) (by kernel_rfl) (by kernel_rfl) (fun _ _ _ h => h) (Or.inl ⟨by rfl, ?_⟩) (by assumption) ?_
    rotate_left
    · (intro w hSw; (try dsimp only at hSw); go_simp <;> with_reducible rfl)
    try simp only [List.getElem_toArray, List.getElem_cons_succ, List.getElem_cons_zero, Act.put, List.setIfInBounds_toArray, List.set_cons_zero, List.set_cons_succ]
    refine wpAnyH_take (i := 3) (oi := _) (v := ?_) rfl (by kernel_rfl) (by kernel_rfl) (by kernel_rfl) (fun _ _ _ h => h) (Or.inl ⟨by rfl, ?_⟩) (by assumption) ?_
    rotate_left
    · (intro w hSw; (try dsimp only at hSw); go_simp <;> with_reducible rfl)
    try simp only [List.getElem_toArray, List.getElem_cons_succ, List.getElem_cons_zero, Act.put, List.setIfInBounds_toArray, List.set_cons_zero, List.set_cons_succ]
    refine wpAnyH_take (i := 2) (oi := _) (v := ?_) rfl (by kernel_rfl) (by kernel_rfl) (by kernel_rfl) (fun _ _ _ h => h) (Or.inl ⟨by rfl, ?_⟩) (by assumption) ?_
    rotate_left
    · (intro w hSw; (try dsimp only at hSw); go_simp <;> with_reducible rfl)
    try simp only [List.getElem_toArray, List.getElem_cons_succ, List.getElem_cons_zero, Act.put, List.setIfInBounds_toArray, List.set_cons_zero, List.set_cons_succ]
    refine wpAnyH_take (i := 4) (oi := _) (v := ?_) rfl (by kernel_rfl) (by kernel_rfl) (by kernel_rfl) (fun _ _ _ h => h) (Or.inl ⟨by rfl, ?_⟩) (by assumption) ?_
    rotate_left
    · (intro w hSw; (try dsimp only at hSw); go_simp <;> with_reducible rfl)
    try simp only [List.getElem_toArray, List.getElem_cons_succ, List.getElem_cons_zero, Act.put, List.setIfInBounds_toArray, List.set_cons_zero, List.set_cons_succ]
    refine wpAnyH_take (i := 5) (oi := _) (v := ?_) rfl (by kernel_rfl) (by kernel_rfl) (by kernel_rfl) (fun _ _ _ h => h) (Or.inl ⟨by rfl, ?_⟩) (by assumption) ?_
    rotate_left
    · (intro w hSw; (try dsimp only at hSw); go_simp <;> with_reducible rfl)
    try simp only [List.getElem_toArray, List.getElem_cons_succ, List.getElem_cons_zero, Act.put, List.setIfInBounds_toArray, List.set_cons_zero, List.set_cons_succ]
    refine wpAnyH_take (i := 6) (oi := _) (v := ?_) rfl (by kernel_rfl) (by kernel_rfl) (by kernel_rfl) (fun _ _ _ h => h) (Or.inl ⟨by rfl, ?_⟩) (by assumption) ?_
    rotate_left
    · (intro w hSw; (try dsimp only at hSw); go_simp <;> with_reducible rfl)
    try simp only [List.getElem_toArray, List.getElem_cons_succ, List.getElem_cons_zero, Act.put, List.setIfInBounds_toArray, List.set_cons_zero, List.set_cons_succ]
    refine wpAnyH_ready (rs := [0]) (by kernel_rfl) (by simp) ?_
    refine AllReadyH.cons (o := _) rfl (fun K hK => ?_) AllReadyH.nil
    go_simp
    refine hK.out _ _ ⟨q0, s1⟩ (fun hHeld => ?_)
    clear hK K
    try simp only [List.getElem_toArray, List.getElem_cons_succ, List.getElem_cons_zero, Act.put, List.setIfInBounds_toArray, List.set_cons_zero, List.set_cons_succ]
    refine wpAnyH_ready (rs := [7]) (by kernel_rfl) (by simp) ?_
    refine AllReadyH.cons (o := _) rfl (fun K hK => ?_) AllReadyH.nil
    (refine step_appK rfl _ _ 23 rfl (N + 1) 40 i0 (.agg #[.int .i64 0, .int .i64 0]) 2 16 Try.underlying23 hi hz0 hz1 hz2 rfl (by decide) _ L.length (tysV L) rfl HOd.out A1 y.fields.length k1 _ (tysV y.fields) (tysV_len _) rfl HTLd.out (tysV_one _) (by unfold maxLen; omega) (by omega) hNW ?_; intro v6 w6 hown hgrow; have hrw := own_far HOd.out; have hV6 := HVd.out.kept hgrow (HVd.out.not_row (by decide) HOd.out); have HK6 := Lib.hid (HKd.out.grown hgrow hNW (fun r e => .inl (hrw r e))); have HB6 := Lib.hid (HBd.out.grown hgrow (by show w.heap.size ≤ W.heap.size; omega) (fun r e => by have := hrw r e; omega)); obtain ⟨A6, c6, rfl⟩ := own_slc hown; have HO6 := Lib.hid hown; have HV6 := Lib.hid hV6; have HN6 := Lib.hid (KeepsOthers.of_grownBy hgrow (own_cells HOd.out)); clear hown hgrow hV6 hrw; have hc6 := HV6.out.cell; have hf6 := HV6.out.frozen; have HK8 := Lib.hid (kept_store HK6.out (.slice A6 (L.length + y.fields.length) c6)); have HB8 := Lib.hid (HB6.out.setCell (p := ⟨w.heap.size + 1, 0, none⟩) (by show w.heap.size ≤ w.heap.size + 1; omega) (.slice A6 (L.length + y.fields.length) c6)))
    refine hK.out _ _ ⟨(HK6.out.cell (p := ⟨w.heap.size, 0, none⟩) (by show w.heap.size < N + 1; omega) (by show w.heap.size ≠ w.heap.size + 1; omega)).trans q0, HS1.out _ HB6.out⟩ (fun hHeld => ?_)
    clear hK K
    try simp only [List.getElem_toArray, List.getElem_cons_succ, List.getElem_cons_zero, Act.put, List.setIfInBounds_toArray, List.set_cons_zero, List.set_cons_succ]
    refine wpAnyH_ready (rs := [8]) (by kernel_rfl) (by simp) ?_
    refine AllReadyH.cons (o := _) rfl (fun K hK => ?_) AllReadyH.nil
    go_simp
    refine hK.out _ _ ⟨(HK8.out.cell (p := ⟨w.heap.size, 0, none⟩) (by show w.heap.size < N + 1; omega) (by show w.heap.size ≠ w.heap.size + 1; omega)).trans q0, HS1.out _ HB8.out⟩ (fun hHeld => ?_)
    clear hK K
    try simp only [List.getElem_toArray, List.getElem_cons_succ, List.getElem_cons_zero, Act.put, List.setIfInBounds_toArray, List.set_cons_zero, List.set_cons_succ]
    refine wpAnyH_done (by kernel_rfl) ?_ _
    refine Calmly.normal ?_
    gi_wp2
    have hrow9 := HO6.out.kept (grownBy_setCell' w6 (w.heap.size + 1) (.slice A6 (L.length + y.fields.length) c6)) (.inr (HV6.out.not_row (by decide) HO6.out).symm)
    refine ⟨(((KeepsOthers.drew W).trans HN6.out).trans (KeepsOthers.setCell _ _ _)).from _, HK8.out, ⟨_, HV6.out.set _, ?_, trivial⟩, HKB.out.trans HK8.out, HB.out.trans HB8.out⟩
    rw [HSN.out, HFA.out]
    unfold tysV at hrow9 ⊢
    rw [List.flatMap_append, List.length_append]
    exact hrow9
  case done =>
    rintro D ys W hD rfl ⟨⟨v, hv, hrow, -⟩, hkb, hB⟩ hK
    have hc := hv.cell
    gi_wp2
    refine ⟨by simp, .inl ⟨_, _, rfl, run_takeDeferred hK, ?_⟩⟩
    rw [fieldsUp_all, ← HFO.out] at hrow
    exact ⟨_, results_tmp rfl _ _ _, v, rfl, own_lower (ownsRow_putObj hrow _ hK rfl) (by omega), hB.trans (belowK_b (w := w) (Nat.le_refl _) W D _ _ (by simp at hD; omega) hK rfl rfl)⟩
  case stop =>
    rintro D c pre W _ _ h _
    exact h.elim
end Go.Proofs.Ytcehkmnneimdeaa
