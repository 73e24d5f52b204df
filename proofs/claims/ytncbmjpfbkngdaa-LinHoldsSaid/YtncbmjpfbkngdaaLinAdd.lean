/-
  What adding an inequality, so many times, to a sum comes to.
-/
import Derived.Test.YtncbmjpfbkngdaaLinOf
import Derived.Test.YtncbmjpfbkngdaaLinWant
import Derived.Test.YtncbmjpfbkngdaaMixO
namespace Go.Proofs.Ytncbmjpfbkngdaa
set_option maxRecDepth 100000
set_option linter.unusedVariables false
set_option linter.unusedSimpArgs false
open Go.ChangeShapes Go.WideShapes Go.ChangeAt Go.RowKit
set_option linter.unusedVariables false
set_option linter.unusedSimpArgs false

/-- A row of sums, each with its product more. -/
def addRow (X : List (Option Int)) (L : List Int) (o : Option Int) : List (Option Int) := X.zipWith (fun x n => addO x (mulO (ofO n) o)) L
theorem addRow_len {X : List (Option Int)} {L : List Int} {o : Option Int} {n : Nat} (h1 : X.length = n) (h2 : L.length = n) : (addRow X L o).length = n := by simp [addRow, h1, h2]
theorem addRow_at {X : List (Option Int)} {L : List Int} {o x : Option Int} {v : Nat} {y : Int} (h1 : X[v]? = some x) (h2 : L[v]? = some y) : (addRow X L o)[v]? = some (addO x (mulO (ofO y) o)) := by
  unfold addRow
  rw [List.getElem?_zipWith, h1, h2]
theorem addRow_fine {X : List (Option Int)} {L : List Int} {o : Option Int} : ∀ x ∈ addRow X L o, FineO x := fun x hx => by
  obtain ⟨i, hi, rfl⟩ := List.getElem_of_mem hx
  simp only [addRow, List.getElem_zipWith]
  exact addO_fine _ _
theorem Whole.offR {w : World} {g : Nat} {vs : List Value} {T : TypeId} (h : Whole w g vs T) {a : Addr} (ha : g ≠ a.block) (v : Value) : Whole (w.setCell a v) g vs T := (Below.heap_setCell w a v g ha).trans h
/-- A sum, its row, and what is added, in memory. -/
structure AddIn (w : World) (g r bq : Nat) (G Q O : List Value) (X : List (Option Int)) : Prop where
  tot : Whole w g G 51
  row : Whole w r (numsV X) 49
  ine : Whole w bq Q 27
  oft : Whole w (bq + 1) O 49
theorem AddIn.keep {w w' : World} {g r bq : Nat} {G Q O : List Value} {X : List (Option Int)} (h : AddIn w g r bq G Q O X) (hb : Below w.heap.size w w') : AddIn w' g r bq G Q O X :=
  ⟨h.tot.keep hb h.tot.lt, h.row.keep hb h.row.lt, h.ine.keep hb h.ine.lt, h.oft.keep hb h.oft.lt⟩
theorem AddIn.drew {w : World} {g r bq : Nat} {G Q O : List Value} {X : List (Option Int)} (h : AddIn w g r bq G Q O X) : AddIn w.drew g r bq G Q O X := ⟨h.tot, h.row, h.ine, h.oft⟩
theorem AddIn.put {w : World} {g r bq v : Nat} {G Q O : List Value} {X : List (Option Int)} {y : Option Int} (h : AddIn w g r bq G Q O X) (h1 : g ≠ r) (h2 : r < bq) (hv : v < X.length) : AddIn ((w.setCell ⟨r, v * 2, none⟩ (.int .i64 (y.getD 0))).setCell ⟨r, v * 2 + 1, none⟩ (.bool y.isNone)) g r bq G Q O (X.set v y) :=
  ⟨(h.tot.offR h1 _).offR h1 _, nums_put h.row hv, (h.ine.offR (by show bq ≠ r; omega) _).offR (by show bq ≠ r; omega) _, (h.oft.offR (by show bq + 1 ≠ r; omega) _).offR (by show bq + 1 ≠ r; omega) _⟩
theorem AddIn.most {w : World} {g r bq : Nat} {sl a b : Value} {Q O : List Value} {X : List (Option Int)} {y : Option Int} (h : AddIn w g r bq [sl, a, b] Q O X) (h1 : g ≠ r) (h2 : g < bq) : AddIn ((w.setCell ⟨g, 1, none⟩ (.int .i64 (y.getD 0))).setCell ⟨g, 2, none⟩ (.bool y.isNone)) g r bq [sl, .int .i64 (y.getD 0), .bool y.isNone] Q O X :=
  ⟨(h.tot.set 1 _).set 2 _, (h.row.offR (Ne.symm h1) _).offR (Ne.symm h1) _, (h.ine.offR (by show bq ≠ g; omega) _).offR (by show bq ≠ g; omega) _, (h.oft.offR (by show bq + 1 ≠ g; omega) _).offR (by show bq + 1 ≠ g; omega) _⟩
/-- What add comes to. -/
def AddOut (B g r n : Nat) (s : Option Int) (X : List (Option Int)) (w : World) (e : Ending) (w' : World) : Prop :=
  e = .returned (.tuple #[]) ∧ Below B w w' ∧ Whole w' g [.slice (some ⟨r, 0, none⟩) n n, .int .i64 (s.getD 0), .bool s.isNone] 51 ∧ Whole w' r (numsV X) 49
set_option maxHeartbeats 6400000 in
theorem ladd_any (q : Inq) (o s : Option Int) (X : List (Option Int)) (A : Option Addr) (c g r n B : Nat) (w : World) (hq : SlcIs IntAt 1 w B A c q.1) (hqn : q.1.length = n) (hXn : X.length = n) (hg : Whole w g [.slice (some ⟨r, 0, none⟩) n n, .int .i64 (s.getD 0), .bool s.isNone] 51) (hr : Whole w r (numsV X) 49)
    (hgr : g ≠ r) (hBg : B ≤ g) (hBr : B ≤ r) (ho : FineO o) (hs : FineO s) (hX : ∀ x ∈ X, FineO x) (hn : n ≤ 64) :
    Calls Try.prog 18 #[.pointer (some ⟨g, 0, none⟩), .agg #[.slice A n c, .int .i64 q.2], .agg #[.int .i64 (o.getD 0), .bool o.isNone]] w (AddOut B g r n (addO s (mulO (ofO q.2) o)) (addRow X q.1 o) w) := by
  have HQ := Lib.hid hq
  have hc1 := hq.le
  have hc2 := hq.cap
  rw [hqn] at hc1
  have HQN := Lib.hid hqn
  have HXN := Lib.hid hXn
  have HFO := Lib.hid ho
  have HFS := Lib.hid hs
  have HFXA := Lib.hid hX
  obtain ⟨bq, hbq⟩ : ∃ bq, w.heap.size = bq := ⟨_, rfl⟩
  have hgq : g < bq := by rw [← hbq]; exact hg.lt
  have hrq : r < bq := by rw [← hbq]; exact hr.lt
  have HI : Hid (AddIn ((w.alloc (.cells #[.slice A n c, .int .i64 q.2] 27)).alloc (.cells #[.int .i64 (o.getD 0), .bool o.isNone] 49)) g r bq [.slice (some ⟨r, 0, none⟩) n n, .int .i64 (s.getD 0), .bool s.isNone] [.slice A n c, .int .i64 q.2] [.int .i64 (o.getD 0), .bool o.isNone] (mixO (addRow X q.1 o) X 0)) := Lib.hid (by
    have hb2 := (((Below.refl bq w).alloc (by omega) (.cells #[.slice A n c, .int .i64 q.2] 27)).alloc (by simp; omega) (.cells #[.int .i64 (o.getD 0), .bool o.isNone] 49))
    exact ⟨hg.keep hb2 hgq, hr.keep hb2 hrq, (Whole.at_ hbq [.slice A n c, .int .i64 q.2] 27).keep ((Below.refl (bq + 1) _).alloc (by simp; omega) _) (by omega), Whole.at_ (by simp; omega) [.int .i64 (o.getD 0), .bool o.isNone] 49⟩)
  have HX : Hid (Below B w ((w.alloc (.cells #[.slice A n c, .int .i64 q.2] 27)).alloc (.cells #[.int .i64 (o.getD 0), .bool o.isNone] 49))) := Lib.hid (((Below.refl B w).alloc (by omega) _).alloc (by simp; omega) _)
  clear hq hqn hXn hg hr ho hs hX
  go_enter Try.func18, Try.ntmps18
  go_upto_region 1 with fail
  generalize (w.alloc (.cells #[.slice A n c, .int .i64 q.2] 27)).alloc (.cells #[.int .i64 (o.getD 0), .bool o.isNone] 49) = w1 at *
  clear hbq
  have a0 := HI.out.ine.cells 0 _ rfl
  go_wp2_with fail
  clear a0
  go_loopw [11] (fun i wr => ∃ v : Nat, v ≤ n ∧ i = .int .i64 v ∧ Hid (AddIn wr g r bq [.slice (some ⟨r, 0, none⟩) n n, .int .i64 (s.getD 0), .bool s.isNone] [.slice A n c, .int .i64 q.2] [.int .i64 (o.getD 0), .bool o.isNone] (mixO (addRow X q.1 o) X v)) ∧ Hid (Below B w wr)) (fun i _ => n - (intOf i).toNat)
  case atStart => exact ⟨0, Nat.zero_le _, rfl, HI, HX⟩
  case round =>
    clear HI HX
    obtain ⟨v, hv, rfl, HI, HX⟩ := hrel
    by_cases hvn : v < n
    · have hvq : v < q.1.length := by rw [HQN.out]; exact hvn
      have hvX : v < X.length := by rw [HXN.out]; exact hvn
      obtain ⟨ad, rfl, hab, s0⟩ := HQ.out.row.at_ hvq
      replace s0 : w.cell? (ad.add v) = some (.int .i64 q.1[v]) := by have := s0; rw [Nat.mul_one] at this; exact this
      have hyv : q.1[v]? = some q.1[v] := List.getElem?_eq_getElem hvq
      have hxv : X[v]? = some X[v] := List.getElem?_eq_getElem hvX
      have hfx := HFXA.out X[v] (List.getElem_mem hvX)
      obtain ⟨y, hy⟩ : ∃ y, q.1[v] = y := ⟨_, rfl⟩
      obtain ⟨x, hx⟩ : ∃ x, X[v] = x := ⟨_, rfl⟩
      rw [hy] at hyv s0
      rw [hx] at hxv hfx
      have HFX := Lib.hid hfx
      have HXV : Hid ((mixO (addRow X q.1 o) X v)[v]? = some x) := Lib.hid ((mix_at (addRow_len HXN.out HQN.out) HXN.out hvn).trans hxv)
      have HML : Hid ((mixO (addRow X q.1 o) X v).length = n) := Lib.hid (mix_len (addRow_len HXN.out HQN.out) HXN.out hv)
      have HPS : Hid ((mixO (addRow X q.1 o) X v).set v (addO x (mulO (ofO y) o)) = mixO (addRow X q.1 o) X (v + 1)) := Lib.hid (mix_set (addRow_len HXN.out HQN.out) HXN.out hvn (addRow_at hxv hyv))
      have s1 := (HX.out.cell (p := ad.add v) (by rw [addr_add_block]; exact hab)).trans s0
      obtain ⟨ry, hry⟩ : ∃ r, ofO y = r := ⟨_, rfl⟩
      have HRY := Lib.hid hry
      have HFY : Hid (FineO ry) := Lib.hid (hry ▸ ofO_fine y)
      rw [hry] at HPS
      obtain ⟨rp, hrp⟩ : ∃ r, mulO ry o = r := ⟨_, rfl⟩
      have HRP := Lib.hid hrp
      have HFP : Hid (FineO rp) := Lib.hid (hrp ▸ mulO_fine _ _)
      rw [hrp] at HPS
      obtain ⟨rs, hrs⟩ : ∃ r, addO x rp = r := ⟨_, rfl⟩
      have HRS := Lib.hid hrs
      rw [hrs] at HPS
      generalize mixO (addRow X q.1 o) X v = Z at *
      clear hyv hxv hfx hy hx s0 hry hrp hrs
      go_upto_region 4 with fail
      clear s1
      refine wp_region_noPanic ?_
      refine wp_region_held_drew (S := fun w' => w'.cell? ⟨g, 0, none⟩ = some (.slice (some ⟨r, 0, none⟩) n n) ∧ w'.cell? ⟨bq + 1, 0, none⟩ = some (.int .i64 (o.getD 0)) ∧ w'.cell? ⟨bq + 1, 1, none⟩ = some (.bool o.isNone)) (by kernel_rfl) ⟨HI.out.tot.cells 0 _ rfl, HI.out.oft.cells 0 _ rfl, HI.out.oft.cells 1 _ rfl⟩ (fun hHeld => ?_)
      replace HX := Lib.hid HX.out.drew
      replace HI := Lib.hid HI.out.drew
      generalize wr.drew = wd at *
      have q0 := (nums_at HI.out.row HXV.out).1
      have q1 := (nums_at HI.out.row HXV.out).2
      have f0 := HI.out.row.free (v * 2)
      have f1 := HI.out.row.free (v * 2 + 1)
      refine wpAnyH_take (i := 0) (oi := _) (v := ?_) rfl (by kernel_rfl) (by kernel_rfl) (by kernel_rfl) (fun _ _ _ h => h) (Or.inl ⟨by rfl, ?_⟩) (by assumption) ?_
      rotate_left
      · (intro w hSw; (try dsimp only at hSw); go_simp <;> with_reducible rfl)
      try simp only [List.getElem_toArray, List.getElem_cons_succ, List.getElem_cons_zero, Act.put, List.setIfInBounds_toArray, List.set_cons_zero, List.set_cons_succ]
      refine wpAnyH_take (i := 1) (oi := _) (v := ?_) rfl (by kernel_rfl) (by kernel_rfl) (by kernel_rfl) (fun _ _ _ h => h) (Or.inl ⟨by rfl, ?_⟩) (by assumption) ?_
      rotate_left
      · (intro w hSw; (try dsimp only at hSw); go_simp <;> with_reducible rfl)
      try simp only [List.getElem_toArray, List.getElem_cons_succ, List.getElem_cons_zero, Act.put, List.setIfInBounds_toArray, List.set_cons_zero, List.set_cons_succ]
      refine wpAnyH_take (i := 2) (oi := _) (v := ?_) rfl (by kernel_rfl) (by kernel_rfl) (by kernel_rfl) (fun _ _ _ h => h) (Or.inl ⟨by rfl, ?_⟩) (by assumption) ?_
      rotate_left
      · (intro w hSw; (try dsimp only at hSw); go_simp <;> with_reducible rfl)
      try simp only [List.getElem_toArray, List.getElem_cons_succ, List.getElem_cons_zero, Act.put, List.setIfInBounds_toArray, List.set_cons_zero, List.set_cons_succ]
      refine wpAnyH_take (i := 3) (oi := _) (v := ?_) rfl (by kernel_rfl) (by kernel_rfl) (by kernel_rfl) (fun _ _ _ h => h) (Or.inl ⟨by rfl, ?_⟩) (by assumption) ?_
      rotate_left
      · (intro w hSw; (try dsimp only at hSw); go_simp <;> with_reducible rfl)
      try simp only [List.getElem_toArray, List.getElem_cons_succ, List.getElem_cons_zero, Act.put, List.setIfInBounds_toArray, List.set_cons_zero, List.set_cons_succ]
      refine wpAnyH_take (i := 4) (oi := _) (v := ?_) rfl (by kernel_rfl) (by kernel_rfl) (by kernel_rfl) (fun _ _ _ h => h) (Or.inl ⟨by rfl, ?_⟩) (by assumption) ?_
      rotate_left
      · (intro w hSw; (try dsimp only at hSw); go_simp <;> with_reducible rfl)
      try simp only [List.getElem_toArray, List.getElem_cons_succ, List.getElem_cons_zero, Act.put, List.setIfInBounds_toArray, List.set_cons_zero, List.set_cons_succ]
      refine wpAnyH_take (i := 5) (oi := _) (v := ?_) rfl (by kernel_rfl) (by kernel_rfl) (by kernel_rfl) (fun _ _ _ h => h) (Or.inl ⟨by rfl, ?_⟩) (by assumption) ?_
      rotate_left
      · (intro w hSw; (try dsimp only at hSw); go_simp <;> with_reducible rfl)
      try simp only [List.getElem_toArray, List.getElem_cons_succ, List.getElem_cons_zero, Act.put, List.setIfInBounds_toArray, List.set_cons_zero, List.set_cons_succ]
      refine wpAnyH_take (i := 6) (oi := _) (v := ?_) rfl (by kernel_rfl) (by kernel_rfl) (by kernel_rfl) (fun _ _ _ h => h) (Or.inl ⟨by rfl, ?_⟩) (by assumption) ?_
      rotate_left
      · (intro w hSw; (try dsimp only at hSw); go_simp <;> with_reducible rfl)
      try simp only [List.getElem_toArray, List.getElem_cons_succ, List.getElem_cons_zero, Act.put, List.setIfInBounds_toArray, List.set_cons_zero, List.set_cons_succ]
      refine wpAnyH_take (i := 7) (oi := _) (v := ?_) rfl (by kernel_rfl) (by kernel_rfl) (by kernel_rfl) (fun _ _ _ h => h) (Or.inl ⟨by rfl, ?_⟩) (by assumption) ?_
      rotate_left
      · (intro w hSw; (try dsimp only at hSw); go_simp <;> with_reducible rfl)
      try simp only [List.getElem_toArray, List.getElem_cons_succ, List.getElem_cons_zero, Act.put, List.setIfInBounds_toArray, List.set_cons_zero, List.set_cons_succ]
      refine wpAnyH_take (i := 8) (oi := _) (v := ?_) rfl (by kernel_rfl) (by kernel_rfl) (by kernel_rfl) (fun _ _ _ h => h) (Or.inl ⟨by rfl, ?_⟩) (by assumption) ?_
      rotate_left
      · (intro w hSw; (try dsimp only at hSw); go_simp <;> with_reducible rfl)
      try simp only [List.getElem_toArray, List.getElem_cons_succ, List.getElem_cons_zero, Act.put, List.setIfInBounds_toArray, List.set_cons_zero, List.set_cons_succ]
      refine wpAnyH_take (i := 9) (oi := _) (v := ?_) rfl (by kernel_rfl) (by kernel_rfl) (by kernel_rfl) (fun _ _ _ h => h) (Or.inl ⟨by rfl, ?_⟩) (by assumption) ?_
      rotate_left
      · (intro w hSw; (try dsimp only at hSw); go_simp <;> with_reducible rfl)
      try simp only [List.getElem_toArray, List.getElem_cons_succ, List.getElem_cons_zero, Act.put, List.setIfInBounds_toArray, List.set_cons_zero, List.set_cons_succ]
      refine wpAnyH_take (i := 10) (oi := _) (v := ?_) rfl (by kernel_rfl) (by kernel_rfl) (by kernel_rfl) (fun _ _ _ h => h) (Or.inl ⟨by rfl, ?_⟩) (by assumption) ?_
      rotate_left
      · (intro w hSw; (try dsimp only at hSw); go_simp <;> with_reducible rfl)
      try simp only [List.getElem_toArray, List.getElem_cons_succ, List.getElem_cons_zero, Act.put, List.setIfInBounds_toArray, List.set_cons_zero, List.set_cons_succ]
      refine wpAnyH_take (i := 12) (oi := _) (v := ?_) rfl (by kernel_rfl) (by kernel_rfl) (by kernel_rfl) (fun _ _ _ h => h) (Or.inl ⟨by rfl, ?_⟩) (by assumption) ?_
      rotate_left
      · (intro w hSw; (try dsimp only at hSw); go_simp <;> with_reducible rfl)
      try simp only [List.getElem_toArray, List.getElem_cons_succ, List.getElem_cons_zero, Act.put, List.setIfInBounds_toArray, List.set_cons_zero, List.set_cons_succ]
      refine wpAnyH_take (i := 14) (oi := _) (v := ?_) rfl (by kernel_rfl) (by kernel_rfl) (by kernel_rfl) (fun _ _ _ h => h) (Or.inl ⟨by rfl, ?_⟩) (by assumption) ?_
      rotate_left
      · (intro w hSw; (try dsimp only at hSw); go_simp <;> with_reducible rfl)
      try simp only [List.getElem_toArray, List.getElem_cons_succ, List.getElem_cons_zero, Act.put, List.setIfInBounds_toArray, List.set_cons_zero, List.set_cons_succ]
      refine wpAnyH_ready (rs := [11, 13]) (by kernel_rfl) (by simp) ?_
      refine (AllReadyH.cons (o := _) rfl (fun K hK => ?_) (AllReadyH.cons (o := _) rfl (fun K hK => ?_) AllReadyH.nil))
      · go_simp
        refine hK.out _ _ hHeld (fun hHeld => ?_)
        clear hK K
        try simp only [List.getElem_toArray, List.getElem_cons_succ, List.getElem_cons_zero, Act.put, List.setIfInBounds_toArray, List.set_cons_zero, List.set_cons_succ]
        refine wpAnyH_ready (rs := [13]) (by kernel_rfl) (by simp) ?_
        refine AllReadyH.cons (o := _) rfl (fun K hK => ?_) AllReadyH.nil
        go_simp
        (go_at_call 19; (with_reducible refine (of_is HRY).mono ?_); rintro e w6 ⟨rfl, hb⟩; replace HX := Lib.hid (HX.out.trans (hb.mono (Nat.le_of_lt (Nat.lt_of_le_of_lt hBg HI.out.tot.lt)))); replace HI := Lib.hid (HI.out.keep hb); have q0 := (nums_at HI.out.row HXV.out).1; have q1 := (nums_at HI.out.row HXV.out).2; have f0 := HI.out.row.free (v * 2); have f1 := HI.out.row.free (v * 2 + 1); clear hb)
        refine hK.out _ _ ⟨HI.out.tot.cells 0 _ rfl, HI.out.oft.cells 0 _ rfl, HI.out.oft.cells 1 _ rfl⟩ (fun hHeld => ?_)
        clear hK K
        try simp only [List.getElem_toArray, List.getElem_cons_succ, List.getElem_cons_zero, Act.put, List.setIfInBounds_toArray, List.set_cons_zero, List.set_cons_succ]
        refine wpAnyH_ready (rs := [15]) (by kernel_rfl) (by simp) ?_
        refine AllReadyH.cons (o := _) rfl (fun K hK => ?_) AllReadyH.nil
        go_simp
        (go_at_call 23; (with_reducible refine (times_is HFY HFO HRP).mono ?_); rintro e w6 ⟨rfl, hb⟩; replace HX := Lib.hid (HX.out.trans (hb.mono (Nat.le_of_lt (Nat.lt_of_le_of_lt hBg HI.out.tot.lt)))); replace HI := Lib.hid (HI.out.keep hb); have q0 := (nums_at HI.out.row HXV.out).1; have q1 := (nums_at HI.out.row HXV.out).2; have f0 := HI.out.row.free (v * 2); have f1 := HI.out.row.free (v * 2 + 1); clear hb)
        refine hK.out _ _ ⟨HI.out.tot.cells 0 _ rfl, HI.out.oft.cells 0 _ rfl, HI.out.oft.cells 1 _ rfl⟩ (fun hHeld => ?_)
        clear hK K
        try simp only [List.getElem_toArray, List.getElem_cons_succ, List.getElem_cons_zero, Act.put, List.setIfInBounds_toArray, List.set_cons_zero, List.set_cons_succ]
        refine wpAnyH_ready (rs := [16]) (by kernel_rfl) (by simp) ?_
        refine AllReadyH.cons (o := _) rfl (fun K hK => ?_) AllReadyH.nil
        go_simp
        (go_at_call 22; (with_reducible refine (plus_is HFX HFP HRS).mono ?_); rintro e w6 ⟨rfl, hb⟩; replace HX := Lib.hid (HX.out.trans (hb.mono (Nat.le_of_lt (Nat.lt_of_le_of_lt hBg HI.out.tot.lt)))); replace HI := Lib.hid (HI.out.keep hb); have q0 := (nums_at HI.out.row HXV.out).1; have q1 := (nums_at HI.out.row HXV.out).2; have f0 := HI.out.row.free (v * 2); have f1 := HI.out.row.free (v * 2 + 1); clear hb)
        refine hK.out _ _ ⟨HI.out.tot.cells 0 _ rfl, HI.out.oft.cells 0 _ rfl, HI.out.oft.cells 1 _ rfl⟩ (fun hHeld => ?_)
        clear hK K
        try simp only [List.getElem_toArray, List.getElem_cons_succ, List.getElem_cons_zero, Act.put, List.setIfInBounds_toArray, List.set_cons_zero, List.set_cons_succ]
        refine wpAnyH_take (i := 17) (oi := _) (v := ?_) rfl (by kernel_rfl) (by kernel_rfl) (by kernel_rfl) (fun _ _ _ h => h) (Or.inl ⟨by rfl, ?_⟩) (by assumption) ?_
        rotate_left
        · (intro w hSw; (try dsimp only at hSw); go_simp <;> with_reducible rfl)
        try simp only [List.getElem_toArray, List.getElem_cons_succ, List.getElem_cons_zero, Act.put, List.setIfInBounds_toArray, List.set_cons_zero, List.set_cons_succ]
        refine wpAnyH_ready (rs := [18]) (by kernel_rfl) (by simp) ?_
        refine AllReadyH.cons (o := _) rfl (fun K hK => ?_) AllReadyH.nil
        go_simp
        refine hK.out _ _ ⟨(HI.out.put (y := rs) hgr hrq (by rw [HML.out]; exact hvn)).tot.cells 0 _ rfl, (HI.out.put (y := rs) hgr hrq (by rw [HML.out]; exact hvn)).oft.cells 0 _ rfl, (HI.out.put (y := rs) hgr hrq (by rw [HML.out]; exact hvn)).oft.cells 1 _ rfl⟩ (fun hHeld => ?_)
        clear hK K
        try simp only [List.getElem_toArray, List.getElem_cons_succ, List.getElem_cons_zero, Act.put, List.setIfInBounds_toArray, List.set_cons_zero, List.set_cons_succ]
        refine wpAnyH_done (by kernel_rfl) ?_ _
        refine NoPanic.normal ?_
        have HI2 := Lib.hid (HI.out.put (y := rs) hgr hrq (by rw [HML.out]; exact hvn))
        have HX2 := Lib.hid ((HX.out.setCell (p := ⟨r, v * 2, none⟩) hBr (.int .i64 (rs.getD 0))).setCell (p := ⟨r, v * 2 + 1, none⟩) hBr (.bool rs.isNone))
        go_wp2_with fail
        go_roundw
        case rel => exact ⟨v + 1, by omega, by go_num, HPS.out ▸ HI2, HX2⟩
        case measure => simp [intOf]; omega
      · go_simp
        (go_at_call 19; (with_reducible refine (of_is HRY).mono ?_); rintro e w6 ⟨rfl, hb⟩; replace HX := Lib.hid (HX.out.trans (hb.mono (Nat.le_of_lt (Nat.lt_of_le_of_lt hBg HI.out.tot.lt)))); replace HI := Lib.hid (HI.out.keep hb); have q0 := (nums_at HI.out.row HXV.out).1; have q1 := (nums_at HI.out.row HXV.out).2; have f0 := HI.out.row.free (v * 2); have f1 := HI.out.row.free (v * 2 + 1); clear hb)
        refine hK.out _ _ ⟨HI.out.tot.cells 0 _ rfl, HI.out.oft.cells 0 _ rfl, HI.out.oft.cells 1 _ rfl⟩ (fun hHeld => ?_)
        clear hK K
        try simp only [List.getElem_toArray, List.getElem_cons_succ, List.getElem_cons_zero, Act.put, List.setIfInBounds_toArray, List.set_cons_zero, List.set_cons_succ]
        refine wpAnyH_ready (rs := [11, 15]) (by kernel_rfl) (by simp) ?_
        refine (AllReadyH.cons (o := _) rfl (fun K hK => ?_) (AllReadyH.cons (o := _) rfl (fun K hK => ?_) AllReadyH.nil))
        · go_simp
          refine hK.out _ _ hHeld (fun hHeld => ?_)
          clear hK K
          try simp only [List.getElem_toArray, List.getElem_cons_succ, List.getElem_cons_zero, Act.put, List.setIfInBounds_toArray, List.set_cons_zero, List.set_cons_succ]
          refine wpAnyH_ready (rs := [15]) (by kernel_rfl) (by simp) ?_
          refine AllReadyH.cons (o := _) rfl (fun K hK => ?_) AllReadyH.nil
          go_simp
          (go_at_call 23; (with_reducible refine (times_is HFY HFO HRP).mono ?_); rintro e w6 ⟨rfl, hb⟩; replace HX := Lib.hid (HX.out.trans (hb.mono (Nat.le_of_lt (Nat.lt_of_le_of_lt hBg HI.out.tot.lt)))); replace HI := Lib.hid (HI.out.keep hb); have q0 := (nums_at HI.out.row HXV.out).1; have q1 := (nums_at HI.out.row HXV.out).2; have f0 := HI.out.row.free (v * 2); have f1 := HI.out.row.free (v * 2 + 1); clear hb)
          refine hK.out _ _ ⟨HI.out.tot.cells 0 _ rfl, HI.out.oft.cells 0 _ rfl, HI.out.oft.cells 1 _ rfl⟩ (fun hHeld => ?_)
          clear hK K
          try simp only [List.getElem_toArray, List.getElem_cons_succ, List.getElem_cons_zero, Act.put, List.setIfInBounds_toArray, List.set_cons_zero, List.set_cons_succ]
          refine wpAnyH_ready (rs := [16]) (by kernel_rfl) (by simp) ?_
          refine AllReadyH.cons (o := _) rfl (fun K hK => ?_) AllReadyH.nil
          go_simp
          (go_at_call 22; (with_reducible refine (plus_is HFX HFP HRS).mono ?_); rintro e w6 ⟨rfl, hb⟩; replace HX := Lib.hid (HX.out.trans (hb.mono (Nat.le_of_lt (Nat.lt_of_le_of_lt hBg HI.out.tot.lt)))); replace HI := Lib.hid (HI.out.keep hb); have q0 := (nums_at HI.out.row HXV.out).1; have q1 := (nums_at HI.out.row HXV.out).2; have f0 := HI.out.row.free (v * 2); have f1 := HI.out.row.free (v * 2 + 1); clear hb)
          refine hK.out _ _ ⟨HI.out.tot.cells 0 _ rfl, HI.out.oft.cells 0 _ rfl, HI.out.oft.cells 1 _ rfl⟩ (fun hHeld => ?_)
          clear hK K
          try simp only [List.getElem_toArray, List.getElem_cons_succ, List.getElem_cons_zero, Act.put, List.setIfInBounds_toArray, List.set_cons_zero, List.set_cons_succ]
          refine wpAnyH_take (i := 17) (oi := _) (v := ?_) rfl (by kernel_rfl) (by kernel_rfl) (by kernel_rfl) (fun _ _ _ h => h) (Or.inl ⟨by rfl, ?_⟩) (by assumption) ?_
          rotate_left
          · (intro w hSw; (try dsimp only at hSw); go_simp <;> with_reducible rfl)
          try simp only [List.getElem_toArray, List.getElem_cons_succ, List.getElem_cons_zero, Act.put, List.setIfInBounds_toArray, List.set_cons_zero, List.set_cons_succ]
          refine wpAnyH_ready (rs := [18]) (by kernel_rfl) (by simp) ?_
          refine AllReadyH.cons (o := _) rfl (fun K hK => ?_) AllReadyH.nil
          go_simp
          refine hK.out _ _ ⟨(HI.out.put (y := rs) hgr hrq (by rw [HML.out]; exact hvn)).tot.cells 0 _ rfl, (HI.out.put (y := rs) hgr hrq (by rw [HML.out]; exact hvn)).oft.cells 0 _ rfl, (HI.out.put (y := rs) hgr hrq (by rw [HML.out]; exact hvn)).oft.cells 1 _ rfl⟩ (fun hHeld => ?_)
          clear hK K
          try simp only [List.getElem_toArray, List.getElem_cons_succ, List.getElem_cons_zero, Act.put, List.setIfInBounds_toArray, List.set_cons_zero, List.set_cons_succ]
          refine wpAnyH_done (by kernel_rfl) ?_ _
          refine NoPanic.normal ?_
          have HI2 := Lib.hid (HI.out.put (y := rs) hgr hrq (by rw [HML.out]; exact hvn))
          have HX2 := Lib.hid ((HX.out.setCell (p := ⟨r, v * 2, none⟩) hBr (.int .i64 (rs.getD 0))).setCell (p := ⟨r, v * 2 + 1, none⟩) hBr (.bool rs.isNone))
          go_wp2_with fail
          go_roundw
          case rel => exact ⟨v + 1, by omega, by go_num, HPS.out ▸ HI2, HX2⟩
          case measure => simp [intOf]; omega
        · go_simp
          (go_at_call 23; (with_reducible refine (times_is HFY HFO HRP).mono ?_); rintro e w6 ⟨rfl, hb⟩; replace HX := Lib.hid (HX.out.trans (hb.mono (Nat.le_of_lt (Nat.lt_of_le_of_lt hBg HI.out.tot.lt)))); replace HI := Lib.hid (HI.out.keep hb); have q0 := (nums_at HI.out.row HXV.out).1; have q1 := (nums_at HI.out.row HXV.out).2; have f0 := HI.out.row.free (v * 2); have f1 := HI.out.row.free (v * 2 + 1); clear hb)
          refine hK.out _ _ ⟨HI.out.tot.cells 0 _ rfl, HI.out.oft.cells 0 _ rfl, HI.out.oft.cells 1 _ rfl⟩ (fun hHeld => ?_)
          clear hK K
          try simp only [List.getElem_toArray, List.getElem_cons_succ, List.getElem_cons_zero, Act.put, List.setIfInBounds_toArray, List.set_cons_zero, List.set_cons_succ]
          refine wpAnyH_ready (rs := [11]) (by kernel_rfl) (by simp) ?_
          refine AllReadyH.cons (o := _) rfl (fun K hK => ?_) AllReadyH.nil
          go_simp
          refine hK.out _ _ hHeld (fun hHeld => ?_)
          clear hK K
          try simp only [List.getElem_toArray, List.getElem_cons_succ, List.getElem_cons_zero, Act.put, List.setIfInBounds_toArray, List.set_cons_zero, List.set_cons_succ]
          refine wpAnyH_ready (rs := [16]) (by kernel_rfl) (by simp) ?_
          refine AllReadyH.cons (o := _) rfl (fun K hK => ?_) AllReadyH.nil
          go_simp
          (go_at_call 22; (with_reducible refine (plus_is HFX HFP HRS).mono ?_); rintro e w6 ⟨rfl, hb⟩; replace HX := Lib.hid (HX.out.trans (hb.mono (Nat.le_of_lt (Nat.lt_of_le_of_lt hBg HI.out.tot.lt)))); replace HI := Lib.hid (HI.out.keep hb); have q0 := (nums_at HI.out.row HXV.out).1; have q1 := (nums_at HI.out.row HXV.out).2; have f0 := HI.out.row.free (v * 2); have f1 := HI.out.row.free (v * 2 + 1); clear hb)
          refine hK.out _ _ ⟨HI.out.tot.cells 0 _ rfl, HI.out.oft.cells 0 _ rfl, HI.out.oft.cells 1 _ rfl⟩ (fun hHeld => ?_)
          clear hK K
          try simp only [List.getElem_toArray, List.getElem_cons_succ, List.getElem_cons_zero, Act.put, List.setIfInBounds_toArray, List.set_cons_zero, List.set_cons_succ]
          refine wpAnyH_take (i := 17) (oi := _) (v := ?_) rfl (by kernel_rfl) (by kernel_rfl) (by kernel_rfl) (fun _ _ _ h => h) (Or.inl ⟨by rfl, ?_⟩) (by assumption) ?_
          rotate_left
          · (intro w hSw; (try dsimp only at hSw); go_simp <;> with_reducible rfl)
          try simp only [List.getElem_toArray, List.getElem_cons_succ, List.getElem_cons_zero, Act.put, List.setIfInBounds_toArray, List.set_cons_zero, List.set_cons_succ]
          refine wpAnyH_ready (rs := [18]) (by kernel_rfl) (by simp) ?_
          refine AllReadyH.cons (o := _) rfl (fun K hK => ?_) AllReadyH.nil
          go_simp
          refine hK.out _ _ ⟨(HI.out.put (y := rs) hgr hrq (by rw [HML.out]; exact hvn)).tot.cells 0 _ rfl, (HI.out.put (y := rs) hgr hrq (by rw [HML.out]; exact hvn)).oft.cells 0 _ rfl, (HI.out.put (y := rs) hgr hrq (by rw [HML.out]; exact hvn)).oft.cells 1 _ rfl⟩ (fun hHeld => ?_)
          clear hK K
          try simp only [List.getElem_toArray, List.getElem_cons_succ, List.getElem_cons_zero, Act.put, List.setIfInBounds_toArray, List.set_cons_zero, List.set_cons_succ]
          refine wpAnyH_done (by kernel_rfl) ?_ _
          refine NoPanic.normal ?_
          have HI2 := Lib.hid (HI.out.put (y := rs) hgr hrq (by rw [HML.out]; exact hvn))
          have HX2 := Lib.hid ((HX.out.setCell (p := ⟨r, v * 2, none⟩) hBr (.int .i64 (rs.getD 0))).setCell (p := ⟨r, v * 2 + 1, none⟩) hBr (.bool rs.isNone))
          go_wp2_with fail
          go_roundw
          case rel => exact ⟨v + 1, by omega, by go_num, HPS.out ▸ HI2, HX2⟩
          case measure => simp [intOf]; omega
    · obtain rfl : v = n := by omega
      have hvi : ¬ (v : Int) < (v : Int) := by omega
      have HMA := Lib.hid (mix_all (addRow_len (o := o) HXN.out HQN.out) HXN.out)
      obtain ⟨Z, hZ⟩ : ∃ Z, addRow X q.1 o = Z := ⟨_, rfl⟩
      rw [HMA.out] at HI
      obtain ⟨ry, hry⟩ : ∃ r, ofO q.2 = r := ⟨_, rfl⟩
      have HRY := Lib.hid hry
      have HFY : Hid (FineO ry) := Lib.hid (hry ▸ ofO_fine q.2)
      obtain ⟨rp, hrp⟩ : ∃ r, mulO ry o = r := ⟨_, rfl⟩
      have HRP := Lib.hid hrp
      have HFP : Hid (FineO rp) := Lib.hid (hrp ▸ mulO_fine _ _)
      obtain ⟨rs, hrs⟩ : ∃ r, addO s rp = r := ⟨_, rfl⟩
      have HRS := Lib.hid hrs
      have HFX := HFS
      have HZ := Lib.hid hZ
      have HE : Hid (addO s (mulO (ofO q.2) o) = rs) := Lib.hid (by rw [hry, hrp, hrs])
      rw [hZ] at HI
      clear HMA hZ hry hrp hrs
      go_upto_region 6 with fail
      refine wp_region_noPanic ?_
      refine wp_region_held_drew (S := fun w' => w'.cell? ⟨bq, 1, none⟩ = some (.int .i64 q.2) ∧ w'.cell? ⟨bq + 1, 0, none⟩ = some (.int .i64 (o.getD 0)) ∧ w'.cell? ⟨bq + 1, 1, none⟩ = some (.bool o.isNone)) (by kernel_rfl) ⟨HI.out.ine.cells 1 _ rfl, HI.out.oft.cells 0 _ rfl, HI.out.oft.cells 1 _ rfl⟩ (fun hHeld => ?_)
      replace HX := Lib.hid HX.out.drew
      replace HI := Lib.hid HI.out.drew
      generalize wr.drew = wd at *
      have q0 := HI.out.tot.cells 1 _ rfl
      have q1 := HI.out.tot.cells 2 _ rfl
      have f0 := HI.out.tot.free 1
      have f1 := HI.out.tot.free 2
      refine wpAnyH_take (i := 0) (oi := _) (v := ?_) rfl (by kernel_rfl) (by kernel_rfl) (by kernel_rfl) (fun _ _ _ h => h) (Or.inl ⟨by rfl, ?_⟩) (by assumption) ?_
      rotate_left
      · (intro w hSw; (try dsimp only at hSw); go_simp <;> with_reducible rfl)
      try simp only [List.getElem_toArray, List.getElem_cons_succ, List.getElem_cons_zero, Act.put, List.setIfInBounds_toArray, List.set_cons_zero, List.set_cons_succ]
      refine wpAnyH_take (i := 1) (oi := _) (v := ?_) rfl (by kernel_rfl) (by kernel_rfl) (by kernel_rfl) (fun _ _ _ h => h) (Or.inl ⟨by rfl, ?_⟩) (by assumption) ?_
      rotate_left
      · (intro w hSw; (try dsimp only at hSw); go_simp <;> with_reducible rfl)
      try simp only [List.getElem_toArray, List.getElem_cons_succ, List.getElem_cons_zero, Act.put, List.setIfInBounds_toArray, List.set_cons_zero, List.set_cons_succ]
      refine wpAnyH_take (i := 2) (oi := _) (v := ?_) rfl (by kernel_rfl) (by kernel_rfl) (by kernel_rfl) (fun _ _ _ h => h) (Or.inl ⟨by rfl, ?_⟩) (by assumption) ?_
      rotate_left
      · (intro w hSw; (try dsimp only at hSw); go_simp <;> with_reducible rfl)
      try simp only [List.getElem_toArray, List.getElem_cons_succ, List.getElem_cons_zero, Act.put, List.setIfInBounds_toArray, List.set_cons_zero, List.set_cons_succ]
      refine wpAnyH_take (i := 3) (oi := _) (v := ?_) rfl (by kernel_rfl) (by kernel_rfl) (by kernel_rfl) (fun _ _ _ h => h) (Or.inl ⟨by rfl, ?_⟩) (by assumption) ?_
      rotate_left
      · (intro w hSw; (try dsimp only at hSw); go_simp <;> with_reducible rfl)
      try simp only [List.getElem_toArray, List.getElem_cons_succ, List.getElem_cons_zero, Act.put, List.setIfInBounds_toArray, List.set_cons_zero, List.set_cons_succ]
      refine wpAnyH_take (i := 5) (oi := _) (v := ?_) rfl (by kernel_rfl) (by kernel_rfl) (by kernel_rfl) (fun _ _ _ h => h) (Or.inl ⟨by rfl, ?_⟩) (by assumption) ?_
      rotate_left
      · (intro w hSw; (try dsimp only at hSw); go_simp <;> with_reducible rfl)
      try simp only [List.getElem_toArray, List.getElem_cons_succ, List.getElem_cons_zero, Act.put, List.setIfInBounds_toArray, List.set_cons_zero, List.set_cons_succ]
      refine wpAnyH_take (i := 6) (oi := _) (v := ?_) rfl (by kernel_rfl) (by kernel_rfl) (by kernel_rfl) (fun _ _ _ h => h) (Or.inl ⟨by rfl, ?_⟩) (by assumption) ?_
      rotate_left
      · (intro w hSw; (try dsimp only at hSw); go_simp <;> with_reducible rfl)
      try simp only [List.getElem_toArray, List.getElem_cons_succ, List.getElem_cons_zero, Act.put, List.setIfInBounds_toArray, List.set_cons_zero, List.set_cons_succ]
      refine wpAnyH_take (i := 8) (oi := _) (v := ?_) rfl (by kernel_rfl) (by kernel_rfl) (by kernel_rfl) (fun _ _ _ h => h) (Or.inl ⟨by rfl, ?_⟩) (by assumption) ?_
      rotate_left
      · (intro w hSw; (try dsimp only at hSw); go_simp <;> with_reducible rfl)
      try simp only [List.getElem_toArray, List.getElem_cons_succ, List.getElem_cons_zero, Act.put, List.setIfInBounds_toArray, List.set_cons_zero, List.set_cons_succ]
      refine wpAnyH_ready (rs := [4, 7]) (by kernel_rfl) (by simp) ?_
      refine (AllReadyH.cons (o := _) rfl (fun K hK => ?_) (AllReadyH.cons (o := _) rfl (fun K hK => ?_) AllReadyH.nil))
      · go_simp
        refine hK.out _ _ hHeld (fun hHeld => ?_)
        clear hK K
        try simp only [List.getElem_toArray, List.getElem_cons_succ, List.getElem_cons_zero, Act.put, List.setIfInBounds_toArray, List.set_cons_zero, List.set_cons_succ]
        refine wpAnyH_ready (rs := [7]) (by kernel_rfl) (by simp) ?_
        refine AllReadyH.cons (o := _) rfl (fun K hK => ?_) AllReadyH.nil
        go_simp
        (go_at_call 19; (with_reducible refine (of_is HRY).mono ?_); rintro e w6 ⟨rfl, hb⟩; replace HX := Lib.hid (HX.out.trans (hb.mono (Nat.le_of_lt (Nat.lt_of_le_of_lt hBg HI.out.tot.lt)))); replace HI := Lib.hid (HI.out.keep hb); have q0 := HI.out.tot.cells 1 _ rfl; have q1 := HI.out.tot.cells 2 _ rfl; have f0 := HI.out.tot.free 1; have f1 := HI.out.tot.free 2; clear hb)
        refine hK.out _ _ ⟨HI.out.ine.cells 1 _ rfl, HI.out.oft.cells 0 _ rfl, HI.out.oft.cells 1 _ rfl⟩ (fun hHeld => ?_)
        clear hK K
        try simp only [List.getElem_toArray, List.getElem_cons_succ, List.getElem_cons_zero, Act.put, List.setIfInBounds_toArray, List.set_cons_zero, List.set_cons_succ]
        refine wpAnyH_ready (rs := [9]) (by kernel_rfl) (by simp) ?_
        refine AllReadyH.cons (o := _) rfl (fun K hK => ?_) AllReadyH.nil
        go_simp
        (go_at_call 23; (with_reducible refine (times_is HFY HFO HRP).mono ?_); rintro e w6 ⟨rfl, hb⟩; replace HX := Lib.hid (HX.out.trans (hb.mono (Nat.le_of_lt (Nat.lt_of_le_of_lt hBg HI.out.tot.lt)))); replace HI := Lib.hid (HI.out.keep hb); have q0 := HI.out.tot.cells 1 _ rfl; have q1 := HI.out.tot.cells 2 _ rfl; have f0 := HI.out.tot.free 1; have f1 := HI.out.tot.free 2; clear hb)
        refine hK.out _ _ ⟨HI.out.ine.cells 1 _ rfl, HI.out.oft.cells 0 _ rfl, HI.out.oft.cells 1 _ rfl⟩ (fun hHeld => ?_)
        clear hK K
        try simp only [List.getElem_toArray, List.getElem_cons_succ, List.getElem_cons_zero, Act.put, List.setIfInBounds_toArray, List.set_cons_zero, List.set_cons_succ]
        refine wpAnyH_ready (rs := [10]) (by kernel_rfl) (by simp) ?_
        refine AllReadyH.cons (o := _) rfl (fun K hK => ?_) AllReadyH.nil
        go_simp
        (go_at_call 22; (with_reducible refine (plus_is HFX HFP HRS).mono ?_); rintro e w6 ⟨rfl, hb⟩; replace HX := Lib.hid (HX.out.trans (hb.mono (Nat.le_of_lt (Nat.lt_of_le_of_lt hBg HI.out.tot.lt)))); replace HI := Lib.hid (HI.out.keep hb); have q0 := HI.out.tot.cells 1 _ rfl; have q1 := HI.out.tot.cells 2 _ rfl; have f0 := HI.out.tot.free 1; have f1 := HI.out.tot.free 2; clear hb)
        refine hK.out _ _ ⟨HI.out.ine.cells 1 _ rfl, HI.out.oft.cells 0 _ rfl, HI.out.oft.cells 1 _ rfl⟩ (fun hHeld => ?_)
        clear hK K
        try simp only [List.getElem_toArray, List.getElem_cons_succ, List.getElem_cons_zero, Act.put, List.setIfInBounds_toArray, List.set_cons_zero, List.set_cons_succ]
        refine wpAnyH_take (i := 11) (oi := _) (v := ?_) rfl (by kernel_rfl) (by kernel_rfl) (by kernel_rfl) (fun _ _ _ h => h) (Or.inl ⟨by rfl, ?_⟩) (by assumption) ?_
        rotate_left
        · (intro w hSw; (try dsimp only at hSw); go_simp <;> with_reducible rfl)
        try simp only [List.getElem_toArray, List.getElem_cons_succ, List.getElem_cons_zero, Act.put, List.setIfInBounds_toArray, List.set_cons_zero, List.set_cons_succ]
        refine wpAnyH_take (i := 12) (oi := _) (v := ?_) rfl (by kernel_rfl) (by kernel_rfl) (by kernel_rfl) (fun _ _ _ h => h) (Or.inl ⟨by rfl, ?_⟩) (by assumption) ?_
        rotate_left
        · (intro w hSw; (try dsimp only at hSw); go_simp <;> with_reducible rfl)
        try simp only [List.getElem_toArray, List.getElem_cons_succ, List.getElem_cons_zero, Act.put, List.setIfInBounds_toArray, List.set_cons_zero, List.set_cons_succ]
        refine wpAnyH_ready (rs := [13]) (by kernel_rfl) (by simp) ?_
        refine AllReadyH.cons (o := _) rfl (fun K hK => ?_) AllReadyH.nil
        go_simp
        refine hK.out _ _ ⟨(HI.out.most (y := rs) hgr hgq).ine.cells 1 _ rfl, (HI.out.most (y := rs) hgr hgq).oft.cells 0 _ rfl, (HI.out.most (y := rs) hgr hgq).oft.cells 1 _ rfl⟩ (fun hHeld => ?_)
        clear hK K
        try simp only [List.getElem_toArray, List.getElem_cons_succ, List.getElem_cons_zero, Act.put, List.setIfInBounds_toArray, List.set_cons_zero, List.set_cons_succ]
        refine wpAnyH_done (by kernel_rfl) ?_ _
        refine NoPanic.normal ?_
        have HI2 := Lib.hid (HI.out.most (y := rs) hgr hgq)
        have HX2 := Lib.hid ((HX.out.setCell (p := ⟨g, 1, none⟩) hBg (.int .i64 (rs.getD 0))).setCell (p := ⟨g, 2, none⟩) hBg (.bool rs.isNone))
        go_end0
        exact ⟨rfl, HX2.out, by rw [HE.out]; exact HI2.out.tot, by rw [HZ.out]; exact HI2.out.row⟩
      · go_simp
        (go_at_call 19; (with_reducible refine (of_is HRY).mono ?_); rintro e w6 ⟨rfl, hb⟩; replace HX := Lib.hid (HX.out.trans (hb.mono (Nat.le_of_lt (Nat.lt_of_le_of_lt hBg HI.out.tot.lt)))); replace HI := Lib.hid (HI.out.keep hb); have q0 := HI.out.tot.cells 1 _ rfl; have q1 := HI.out.tot.cells 2 _ rfl; have f0 := HI.out.tot.free 1; have f1 := HI.out.tot.free 2; clear hb)
        refine hK.out _ _ ⟨HI.out.ine.cells 1 _ rfl, HI.out.oft.cells 0 _ rfl, HI.out.oft.cells 1 _ rfl⟩ (fun hHeld => ?_)
        clear hK K
        try simp only [List.getElem_toArray, List.getElem_cons_succ, List.getElem_cons_zero, Act.put, List.setIfInBounds_toArray, List.set_cons_zero, List.set_cons_succ]
        refine wpAnyH_ready (rs := [4, 9]) (by kernel_rfl) (by simp) ?_
        refine (AllReadyH.cons (o := _) rfl (fun K hK => ?_) (AllReadyH.cons (o := _) rfl (fun K hK => ?_) AllReadyH.nil))
        · go_simp
          refine hK.out _ _ hHeld (fun hHeld => ?_)
          clear hK K
          try simp only [List.getElem_toArray, List.getElem_cons_succ, List.getElem_cons_zero, Act.put, List.setIfInBounds_toArray, List.set_cons_zero, List.set_cons_succ]
          refine wpAnyH_ready (rs := [9]) (by kernel_rfl) (by simp) ?_
          refine AllReadyH.cons (o := _) rfl (fun K hK => ?_) AllReadyH.nil
          go_simp
          (go_at_call 23; (with_reducible refine (times_is HFY HFO HRP).mono ?_); rintro e w6 ⟨rfl, hb⟩; replace HX := Lib.hid (HX.out.trans (hb.mono (Nat.le_of_lt (Nat.lt_of_le_of_lt hBg HI.out.tot.lt)))); replace HI := Lib.hid (HI.out.keep hb); have q0 := HI.out.tot.cells 1 _ rfl; have q1 := HI.out.tot.cells 2 _ rfl; have f0 := HI.out.tot.free 1; have f1 := HI.out.tot.free 2; clear hb)
          refine hK.out _ _ ⟨HI.out.ine.cells 1 _ rfl, HI.out.oft.cells 0 _ rfl, HI.out.oft.cells 1 _ rfl⟩ (fun hHeld => ?_)
          clear hK K
          try simp only [List.getElem_toArray, List.getElem_cons_succ, List.getElem_cons_zero, Act.put, List.setIfInBounds_toArray, List.set_cons_zero, List.set_cons_succ]
          refine wpAnyH_ready (rs := [10]) (by kernel_rfl) (by simp) ?_
          refine AllReadyH.cons (o := _) rfl (fun K hK => ?_) AllReadyH.nil
          go_simp
          (go_at_call 22; (with_reducible refine (plus_is HFX HFP HRS).mono ?_); rintro e w6 ⟨rfl, hb⟩; replace HX := Lib.hid (HX.out.trans (hb.mono (Nat.le_of_lt (Nat.lt_of_le_of_lt hBg HI.out.tot.lt)))); replace HI := Lib.hid (HI.out.keep hb); have q0 := HI.out.tot.cells 1 _ rfl; have q1 := HI.out.tot.cells 2 _ rfl; have f0 := HI.out.tot.free 1; have f1 := HI.out.tot.free 2; clear hb)
          refine hK.out _ _ ⟨HI.out.ine.cells 1 _ rfl, HI.out.oft.cells 0 _ rfl, HI.out.oft.cells 1 _ rfl⟩ (fun hHeld => ?_)
          clear hK K
          try simp only [List.getElem_toArray, List.getElem_cons_succ, List.getElem_cons_zero, Act.put, List.setIfInBounds_toArray, List.set_cons_zero, List.set_cons_succ]
          refine wpAnyH_take (i := 11) (oi := _) (v := ?_) rfl (by kernel_rfl) (by kernel_rfl) (by kernel_rfl) (fun _ _ _ h => h) (Or.inl ⟨by rfl, ?_⟩) (by assumption) ?_
          rotate_left
          · (intro w hSw; (try dsimp only at hSw); go_simp <;> with_reducible rfl)
          try simp only [List.getElem_toArray, List.getElem_cons_succ, List.getElem_cons_zero, Act.put, List.setIfInBounds_toArray, List.set_cons_zero, List.set_cons_succ]
          refine wpAnyH_take (i := 12) (oi := _) (v := ?_) rfl (by kernel_rfl) (by kernel_rfl) (by kernel_rfl) (fun _ _ _ h => h) (Or.inl ⟨by rfl, ?_⟩) (by assumption) ?_
          rotate_left
          · (intro w hSw; (try dsimp only at hSw); go_simp <;> with_reducible rfl)
          try simp only [List.getElem_toArray, List.getElem_cons_succ, List.getElem_cons_zero, Act.put, List.setIfInBounds_toArray, List.set_cons_zero, List.set_cons_succ]
          refine wpAnyH_ready (rs := [13]) (by kernel_rfl) (by simp) ?_
          refine AllReadyH.cons (o := _) rfl (fun K hK => ?_) AllReadyH.nil
          go_simp
          refine hK.out _ _ ⟨(HI.out.most (y := rs) hgr hgq).ine.cells 1 _ rfl, (HI.out.most (y := rs) hgr hgq).oft.cells 0 _ rfl, (HI.out.most (y := rs) hgr hgq).oft.cells 1 _ rfl⟩ (fun hHeld => ?_)
          clear hK K
          try simp only [List.getElem_toArray, List.getElem_cons_succ, List.getElem_cons_zero, Act.put, List.setIfInBounds_toArray, List.set_cons_zero, List.set_cons_succ]
          refine wpAnyH_done (by kernel_rfl) ?_ _
          refine NoPanic.normal ?_
          have HI2 := Lib.hid (HI.out.most (y := rs) hgr hgq)
          have HX2 := Lib.hid ((HX.out.setCell (p := ⟨g, 1, none⟩) hBg (.int .i64 (rs.getD 0))).setCell (p := ⟨g, 2, none⟩) hBg (.bool rs.isNone))
          go_end0
          exact ⟨rfl, HX2.out, by rw [HE.out]; exact HI2.out.tot, by rw [HZ.out]; exact HI2.out.row⟩
        · go_simp
          (go_at_call 23; (with_reducible refine (times_is HFY HFO HRP).mono ?_); rintro e w6 ⟨rfl, hb⟩; replace HX := Lib.hid (HX.out.trans (hb.mono (Nat.le_of_lt (Nat.lt_of_le_of_lt hBg HI.out.tot.lt)))); replace HI := Lib.hid (HI.out.keep hb); have q0 := HI.out.tot.cells 1 _ rfl; have q1 := HI.out.tot.cells 2 _ rfl; have f0 := HI.out.tot.free 1; have f1 := HI.out.tot.free 2; clear hb)
          refine hK.out _ _ ⟨HI.out.ine.cells 1 _ rfl, HI.out.oft.cells 0 _ rfl, HI.out.oft.cells 1 _ rfl⟩ (fun hHeld => ?_)
          clear hK K
          try simp only [List.getElem_toArray, List.getElem_cons_succ, List.getElem_cons_zero, Act.put, List.setIfInBounds_toArray, List.set_cons_zero, List.set_cons_succ]
          refine wpAnyH_ready (rs := [4]) (by kernel_rfl) (by simp) ?_
          refine AllReadyH.cons (o := _) rfl (fun K hK => ?_) AllReadyH.nil
          go_simp
          refine hK.out _ _ hHeld (fun hHeld => ?_)
          clear hK K
          try simp only [List.getElem_toArray, List.getElem_cons_succ, List.getElem_cons_zero, Act.put, List.setIfInBounds_toArray, List.set_cons_zero, List.set_cons_succ]
          refine wpAnyH_ready (rs := [10]) (by kernel_rfl) (by simp) ?_
          refine AllReadyH.cons (o := _) rfl (fun K hK => ?_) AllReadyH.nil
          go_simp
          (go_at_call 22; (with_reducible refine (plus_is HFX HFP HRS).mono ?_); rintro e w6 ⟨rfl, hb⟩; replace HX := Lib.hid (HX.out.trans (hb.mono (Nat.le_of_lt (Nat.lt_of_le_of_lt hBg HI.out.tot.lt)))); replace HI := Lib.hid (HI.out.keep hb); have q0 := HI.out.tot.cells 1 _ rfl; have q1 := HI.out.tot.cells 2 _ rfl; have f0 := HI.out.tot.free 1; have f1 := HI.out.tot.free 2; clear hb)
          refine hK.out _ _ ⟨HI.out.ine.cells 1 _ rfl, HI.out.oft.cells 0 _ rfl, HI.out.oft.cells 1 _ rfl⟩ (fun hHeld => ?_)
          clear hK K
          try simp only [List.getElem_toArray, List.getElem_cons_succ, List.getElem_cons_zero, Act.put, List.setIfInBounds_toArray, List.set_cons_zero, List.set_cons_succ]
          refine wpAnyH_take (i := 11) (oi := _) (v := ?_) rfl (by kernel_rfl) (by kernel_rfl) (by kernel_rfl) (fun _ _ _ h => h) (Or.inl ⟨by rfl, ?_⟩) (by assumption) ?_
          rotate_left
          · (intro w hSw; (try dsimp only at hSw); go_simp <;> with_reducible rfl)
          try simp only [List.getElem_toArray, List.getElem_cons_succ, List.getElem_cons_zero, Act.put, List.setIfInBounds_toArray, List.set_cons_zero, List.set_cons_succ]
          refine wpAnyH_take (i := 12) (oi := _) (v := ?_) rfl (by kernel_rfl) (by kernel_rfl) (by kernel_rfl) (fun _ _ _ h => h) (Or.inl ⟨by rfl, ?_⟩) (by assumption) ?_
          rotate_left
          · (intro w hSw; (try dsimp only at hSw); go_simp <;> with_reducible rfl)
          try simp only [List.getElem_toArray, List.getElem_cons_succ, List.getElem_cons_zero, Act.put, List.setIfInBounds_toArray, List.set_cons_zero, List.set_cons_succ]
          refine wpAnyH_ready (rs := [13]) (by kernel_rfl) (by simp) ?_
          refine AllReadyH.cons (o := _) rfl (fun K hK => ?_) AllReadyH.nil
          go_simp
          refine hK.out _ _ ⟨(HI.out.most (y := rs) hgr hgq).ine.cells 1 _ rfl, (HI.out.most (y := rs) hgr hgq).oft.cells 0 _ rfl, (HI.out.most (y := rs) hgr hgq).oft.cells 1 _ rfl⟩ (fun hHeld => ?_)
          clear hK K
          try simp only [List.getElem_toArray, List.getElem_cons_succ, List.getElem_cons_zero, Act.put, List.setIfInBounds_toArray, List.set_cons_zero, List.set_cons_succ]
          refine wpAnyH_done (by kernel_rfl) ?_ _
          refine NoPanic.normal ?_
          have HI2 := Lib.hid (HI.out.most (y := rs) hgr hgq)
          have HX2 := Lib.hid ((HX.out.setCell (p := ⟨g, 1, none⟩) hBg (.int .i64 (rs.getD 0))).setCell (p := ⟨g, 2, none⟩) hBg (.bool rs.isNone))
          go_end0
          exact ⟨rfl, HX2.out, by rw [HE.out]; exact HI2.out.tot, by rw [HZ.out]; exact HI2.out.row⟩
end Go.Proofs.Ytncbmjpfbkngdaa
