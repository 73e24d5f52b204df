/-
  What lies beyond a part of a graph, as a list; what methods take, part by part. Plain definitions and lemmas; no conditions.
  depth.ownCells: what a ring's own frames take.
  slices.Max of numbers, and depth.mostBeyond: the most that one takes that a ring calls, beyond it.
  What a walk through a graph does to meet a node; whether there is a node.
  The block of a row of the call's own. A plain lemma; no conditions.
-/
import Derived.Test.YtefgepppcmhphaaM36
import Derived.Test.YtefgepppcmhphaaM24
import Derived.Test.YtefgepppcmhphaaM26
import Derived.Test.YtefgepppcmhphaaM01
import Derived.Test.YtefgepppcmhphaaM14
import Derived.Test.YtefgepppcmhphaaM29
import Derived.Test.YtefgepppcmhphaaM15
import Derived.IntWalk
import Derived.RegionTactic
import Derived.ChangeAlike
import Derived.Deep.RegionHeld3
import Derived.Deep.QuietTactic
import Derived.BigQuiet
import Derived.Deep.Cut
import Derived.Test.YtefgepppcmhphaaM13
import Derived.Test.YtefgepppcmhphaaM02
namespace Go.Proofs.Ytefgepppcmhphaa
set_option maxRecDepth 100000
set_option linter.unusedVariables false
set_option linter.unusedSimpArgs false
open Go.ChangeShapes Go.WideShapes Go.ChangeAt Go.RowKit
set_option linter.unusedVariables false

/-- The greater one. -/
def mx (b x : Int) : Int := if b < x then x else b
theorem mx_le {b x : Int} : b ≤ mx b x ∧ x ≤ mx b x := by unfold mx; split <;> omega
/-- Is a number none of a part? -/
def outB (p : List Nat) (t : Int) : Bool := !inB (p.map (fun k : Nat => (k : Int))) t
/-- What those take that a list names, beyond a part. -/
def takesRow (p : List Nat) (out : Nat → Int) (L : List Int) : List Int := (L.filter (outB p)).map fun t => out t.toNat
def takesOf (EL : List (List Int)) (p : List Nat) (out : Nat → Int) (c : List Nat) : List Int := c.flatMap fun g => takesRow p out (EL[g]?.getD [])
theorem takesRow_take {p : List Nat} {out : Nat → Int} {L : List Int} {s : Nat} (h : s < L.length) : takesRow p out (L.take (s + 1)) = takesRow p out (L.take s) ++ (if outB p L[s] = true then [out L[s].toNat] else []) := by
  unfold takesRow
  rw [List.take_add_one, List.getElem?_eq_getElem h, List.filter_append, List.map_append]
  cases q : outB p L[s] <;> simp [q]
theorem takesOf_take {EL : List (List Int)} {p : List Nat} {out : Nat → Int} {c : List Nat} {k : Nat} (h : k < c.length) : takesOf EL p out (c.take (k + 1)) = takesOf EL p out (c.take k) ++ takesRow p out (EL[c[k]]?.getD []) := by
  unfold takesOf
  rw [List.take_add_one, List.getElem?_eq_getElem h, List.flatMap_append]
  simp
theorem takesRow_len {p : List Nat} {out : Nat → Int} {L : List Int} : (takesRow p out L).length ≤ L.length := by
  unfold takesRow
  rw [List.length_map]
  exact List.length_filter_le _ _
theorem takesOf_len {EL : List (List Int)} {p : List Nat} {out : Nat → Int} {c : List Nat} {M : Nat} (h : ∀ g : Nat, (EL[g]?.getD []).length ≤ M) : (takesOf EL p out c).length ≤ c.length * M := by
  unfold takesOf
  induction c with
  | nil => simp
  | cons g c ih =>
    rw [List.flatMap_cons, List.length_append, List.length_cons, Nat.add_mul, Nat.one_mul]
    have h1 := takesRow_len (p := p) (out := out) (L := EL[g]?.getD [])
    have h2 := h g
    omega
theorem takes_low {EL : List (List Int)} {p : List Nat} {out : Nat → Int} {c : List Nat} {M : Int} (h : ∀ t, 0 ≤ out t ∧ out t ≤ M) : ∀ x ∈ takesOf EL p out c, 0 ≤ x ∧ x ≤ M := fun x hx => by
  unfold takesOf takesRow at hx
  obtain ⟨g, _, hx⟩ := List.mem_flatMap.mp hx
  obtain ⟨t, _, rfl⟩ := List.mem_map.mp hx
  exact h _
/-- The most of a row of numbers, of the first so many. -/
def mostTo (T : List Int) (i : Nat) : Int := (T.take i).foldl mx (T[0]?.getD 0)
theorem most_one {T : List Int} (h : 0 < T.length) : mostTo T 1 = T[0] := by
  unfold mostTo
  cases T with
  | nil => simp at h
  | cons x T =>
    show mx x x = x
    unfold mx
    split <;> rfl
theorem most_step {T : List Int} {i : Nat} (h : i < T.length) : mostTo T (i + 1) = mx (mostTo T i) T[i] := by
  unfold mostTo
  rw [List.take_add_one, List.getElem?_eq_getElem h, List.foldl_append]
  rfl
theorem most_all {T : List Int} (h : 0 < T.length) (h0 : ∀ x ∈ T, 0 ≤ x) : mostTo T T.length = T.foldl mx 0 := by
  unfold mostTo
  rw [List.take_length]
  cases T with
  | nil => simp at h
  | cons x T =>
    have hx := h0 x (List.mem_cons_self ..)
    show T.foldl mx (mx x x) = T.foldl mx (mx 0 x)
    have e1 : mx x x = x := by unfold mx; split <;> rfl
    have e2 : mx 0 x = x := by unfold mx; split <;> omega
    rw [e1, e2]
theorem most_top {T : List Int} {i : Nat} {lo hi : Int} (h : ∀ x ∈ T, lo ≤ x ∧ x ≤ hi) (h0 : 0 < T.length) : lo ≤ mostTo T i ∧ mostTo T i ≤ hi := by
  have H : ∀ (l : List Int) (b : Int), (∀ x ∈ l, lo ≤ x ∧ x ≤ hi) → lo ≤ b ∧ b ≤ hi → lo ≤ l.foldl mx b ∧ l.foldl mx b ≤ hi := by
    intro l
    induction l with
    | nil => intro b _ hb; exact hb
    | cons x l ih =>
      intro b hl hb
      refine ih _ (fun y hy => hl y (List.mem_cons_of_mem _ hy)) ?_
      have := hl x (List.mem_cons_self ..)
      unfold mx
      split <;> omega
  refine H _ _ (fun x hx => h x (List.mem_of_mem_take hx)) ?_
  rw [List.getElem?_eq_getElem h0]
  exact h _ (List.getElem_mem h0)
theorem out_iff {p : List Nat} {t : Nat} : outB p (t : Int) = false ↔ t ∈ p := by
  unfold outB inB
  simp
  exact ⟨fun ⟨a, h, e⟩ => by rwa [show t = a by omega], fun h => ⟨t, h, rfl⟩⟩
section
variable {EL : List (List Int)} {n : Nat} {P : List (List Nat)} {C : Nat → Int}
theorem bey_takes {out : Nat → Int} {p : List Nat} {g : Nat} {L : List Int} {b : Int} (h : ∀ t ∈ L, wayB EL n t.toNat g = true ↔ outB p t = false) : beyRow EL n out g b L = (takesRow p out L).foldl mx b := by
  induction L generalizing b with
  | nil => rfl
  | cons t L ih =>
    have ih := fun b => ih (b := b) (fun t ht => h t (List.mem_cons_of_mem _ ht))
    have ht := h t (List.mem_cons_self ..)
    show beyRow EL n out g (beyOne EL n out g b t) L = _
    rw [ih]
    unfold takesRow
    rw [List.filter_cons]
    unfold beyOne
    cases q : outB p t
    · rw [if_neg (fun z => by rw [ht.mpr q] at z; cases z.1)]
      rfl
    · have hw : wayB EL n t.toNat g = false := by
        cases hw : wayB EL n t.toNat g with
        | false => rfl
        | true => rw [ht.mp hw] at q; cases q
      rw [if_pos rfl, List.map_cons, List.foldl_cons]
      unfold mx
      by_cases z : b < out t.toNat
      · rw [if_pos ⟨hw, z⟩, if_pos z]
      · rw [if_neg (fun y => z y.2), if_neg z]
theorem RingsOf.takes (h : RingsOf EL n P) (hE : EdgesIn EL n) {i : Nat} (hi : i < P.length) (out : Nat → Int) : beyP EL n out P[i] = (takesOf EL P[i] out P[i]).foldl mx 0 := by
  have H : ∀ (c : List Nat) (b : Int), (∀ g ∈ c, g ∈ P[i]) → c.foldl (fun b g => beyRow EL n out g b (EL[g]?.getD [])) b = (takesOf EL P[i] out c).foldl mx b := by
    intro c
    induction c with
    | nil => intro b _; rfl
    | cons g c ih =>
      intro b hc
      rw [List.foldl_cons, ih _ (fun x hx => hc x (List.mem_cons_of_mem _ hx))]
      unfold takesOf
      rw [List.flatMap_cons, List.foldl_append, bey_takes (p := P[i]) (fun t ht => ?_)]
      obtain ⟨t0, t1⟩ := hE g t ht
      obtain ⟨k, rfl⟩ := Int.eq_ofNat_of_zero_le t0
      rw [out_iff]
      exact h.stays hi (hc g (List.mem_cons_self ..)) (by omega) ht
  exact H _ 0 (fun g hg => hg)
/-- What is known of the numbers, once the first so many parts are done. -/
structure DInv (EL : List (List Int)) (n : Nat) (C : Nat → Int) (P : List (List Nat)) (i : Nat) (O : List Int) : Prop where
  len : O.length = n
  low : ∀ t, 0 ≤ oN O t
  top : ∀ t, oN O t ≤ 400000 * i
  old : ∀ j, (hj : j < P.length) → j < i → ∀ t ∈ P[j], oN O t = boundF EL n C t
theorem DInv.start : DInv EL n C P 0 (List.replicate n 0) := by
  have h : ∀ t, oN (List.replicate n 0) t = 0 := fun t => by
    unfold oN
    rw [List.getElem?_replicate]
    split <;> rfl
  exact ⟨List.length_replicate .., fun t => by rw [h]; exact Int.le_refl _, fun t => by rw [h]; omega, fun j _ hj => by omega⟩
/-- A part's numbers, written one behind the other. -/
def putAll (O : List Int) (c : List Nat) (v : Int) : List Int := c.foldl (fun O f => O.set f v) O
theorem putAll_len (O : List Int) (c : List Nat) (v : Int) : (putAll O c v).length = O.length := by
  unfold putAll
  induction c generalizing O with
  | nil => rfl
  | cons f c ih => rw [List.foldl_cons, ih, List.length_set]
theorem putAll_take {O : List Int} {c : List Nat} {v : Int} {k : Nat} (h : k < c.length) : putAll O (c.take (k + 1)) v = (putAll O (c.take k) v).set c[k] v := by
  unfold putAll
  rw [List.take_add_one, List.getElem?_eq_getElem h, List.foldl_append]
  rfl
theorem putAll_at {O : List Int} {c : List Nat} {v : Int} (h : ∀ f ∈ c, f < O.length) (t : Nat) : oN (putAll O c v) t = if t ∈ c then v else oN O t := by
  induction c generalizing O with
  | nil => simp [putAll]
  | cons f c ih =>
    show oN (putAll (O.set f v) c v) t = _
    rw [ih (fun x hx => by rw [List.length_set]; exact h x (List.mem_cons_of_mem _ hx)), oN_set (h f (List.mem_cons_self ..))]
    by_cases q : t ∈ c
    · rw [if_pos q, if_pos (List.mem_cons_of_mem _ q)]
    · rw [if_neg q]
      by_cases q2 : t = f
      · rw [if_pos q2, if_pos (by rw [q2]; exact List.mem_cons_self ..)]
      · rw [if_neg q2, if_neg (fun z => (List.mem_cons.mp z).elim q2 q)]
theorem sumP_congr {C D : Nat → Int} {c : List Nat} (h : ∀ g ∈ c, C g = D g) : sumP C c = sumP D c := by
  have H : ∀ (c : List Nat) (s : Int), (∀ g ∈ c, C g = D g) → c.foldl (fun s g => s + C g) s = c.foldl (fun s g => s + D g) s := by
    intro c
    induction c with
    | nil => intro s _; rfl
    | cons g c ih =>
      intro s hc
      rw [List.foldl_cons, List.foldl_cons, hc g (List.mem_cons_self ..)]
      exact ih _ (fun x hx => hc x (List.mem_cons_of_mem _ hx))
  exact H c 0 h
theorem sumP_bounds {C : Nat → Int} {c : List Nat} {M : Int} (hM : 0 ≤ M) (h : ∀ g, 0 ≤ C g ∧ C g ≤ M) : 0 ≤ sumP C c ∧ sumP C c ≤ c.length * M := by
  have H : ∀ (c : List Nat) (s : Int), 0 ≤ s → 0 ≤ c.foldl (fun s g => s + C g) s ∧ c.foldl (fun s g => s + C g) s ≤ s + c.length * M := by
    intro c
    induction c with
    | nil => intro s hs; simp; exact hs
    | cons g c ih =>
      intro s hs
      have h1 := h g
      rw [List.foldl_cons]
      have := ih (s + C g) (by omega)
      rw [List.length_cons]
      rw [show (((c.length + 1 : Nat) : Int)) * M = c.length * M + M by rw [Int.natCast_add, Int.add_mul]; simp]
      omega
  have := H c 0 (Int.le_refl _)
  unfold sumP
  omega
theorem foldl_mx {T : List Int} {M : Int} (hM : 0 ≤ M) (h : ∀ x ∈ T, 0 ≤ x ∧ x ≤ M) : 0 ≤ T.foldl mx 0 ∧ T.foldl mx 0 ≤ M := by
  have H : ∀ (l : List Int) (b : Int), (∀ x ∈ l, 0 ≤ x ∧ x ≤ M) → 0 ≤ b ∧ b ≤ M → 0 ≤ l.foldl mx b ∧ l.foldl mx b ≤ M := by
    intro l
    induction l with
    | nil => intro b _ hb; exact hb
    | cons x l ih =>
      intro b hl hb
      refine ih _ (fun y hy => hl y (List.mem_cons_of_mem _ hy)) ?_
      have := hl x (List.mem_cons_self ..)
      unfold mx
      split <;> omega
  exact H T 0 h ⟨Int.le_refl _, hM⟩
/-- One part more. -/
theorem DInv.step {i : Nat} {O : List Int} (h : DInv EL n C P i O) (hR : RingsOf EL n P) (hE : EdgesIn EL n) (hn : n ≤ 12) (h0 : ∀ g, 0 ≤ C g ∧ C g ≤ 32088) (hi : i < P.length) {v : Int} (hv : v = sumP C P[i] + (takesOf EL P[i] (oN O) P[i]).foldl mx 0) : DInv EL n C P (i + 1) (putAll O P[i] v) := by
  have hlt : ∀ f ∈ P[i], f < O.length := fun f hf => by rw [h.len]; exact hR.lt f (flat_mem hi hf)
  have hc : P[i].length ≤ 12 := by
    have h1 : P[i].length ≤ n := nod_len ((hR.srt _ (List.getElem_mem hi)).2.imp (fun {a b} q => by omega)) (fun f hf => hR.lt f (flat_mem hi hf))
    omega
  have s1 := sumP_bounds (c := P[i]) (M := 32088) (by omega) h0
  have s2 := foldl_mx (M := 400000 * (i : Int)) (by omega) (takes_low (EL := EL) (p := P[i]) (c := P[i]) (fun t => ⟨h.low t, h.top t⟩))
  have s3 : (P[i].length : Int) * 32088 ≤ 12 * 32088 := Int.mul_le_mul_of_nonneg_right (by omega) (by omega)
  refine ⟨by rw [putAll_len]; exact h.len, fun t => ?_, fun t => ?_, fun j hj hji t ht => ?_⟩
  · rw [putAll_at hlt]
    split
    · omega
    · exact h.low t
  · rw [putAll_at hlt]
    have := h.top t
    split <;> omega
  · rw [putAll_at hlt]
    by_cases q : t ∈ P[i]
    · rw [if_pos q, hv, ← hR.takes hE hi]
      exact (hR.bound hE hi q (fun k hk u hu => h.old k (by omega) hk u hu)).symm
    · rw [if_neg q]
      refine h.old j hj ?_ t ht
      rcases Nat.lt_or_ge j i with z | z
      · exact z
      · obtain rfl : j = i := by omega
        exact absurd ht q
theorem DInv.done {i : Nat} {O : List Int} (h : DInv EL n C P i O) (hR : RingsOf EL n P) (hi : P.length ≤ i) : O = (List.range n).map (boundF EL n C) := by
  refine List.ext_getElem (by rw [h.len, List.length_map, List.length_range]) fun k h1 h2 => ?_
  have hk : k < n := by rw [← h.len]; exact h1
  obtain ⟨c, hc, hkc⟩ := List.mem_flatten.mp (hR.all k hk)
  obtain ⟨j, hj, rfl⟩ := List.mem_iff_getElem.mp hc
  have := h.old j hj (by omega) k hkc
  rw [oN_at h1] at this
  rw [this]
  simp
end
end Go.Proofs.Ytefgepppcmhphaa
namespace Go.Proofs.Ytefgepppcmhphaa
set_option maxRecDepth 100000
set_option linter.unusedVariables false
set_option linter.unusedSimpArgs false
open Go.ChangeShapes Go.WideShapes Go.ChangeAt Go.RowKit
set_option linter.unusedVariables false
set_option linter.unusedSimpArgs false

/-- How often one may be under way, in a ring or not. -/
def oftenOf (m : Img) (cyc : Bool) (g : Nat) : Int := if cyc = true then (mthN m (g : Int)).depth else 1
def costC (m : Img) (maps : List (List Shp)) (cyc : Bool) (g : Nat) : Int := oftenOf m cyc g * frameOf m maps (g : Int)
def neverB (m : Img) (cyc : Bool) (p : List Nat) : Bool := p.any fun g => decide (oftenOf m cyc g = 0)
theorem never_take {m : Img} {cyc : Bool} {p : List Nat} {k : Nat} (h : k < p.length) (h0 : ∀ g ∈ p.take k, oftenOf m cyc g ≠ 0) (h1 : oftenOf m cyc p[k] ≠ 0) : ∀ g ∈ p.take (k + 1), oftenOf m cyc g ≠ 0 := fun g hg => by
  rw [List.take_add_one, List.getElem?_eq_getElem h, List.mem_append] at hg
  rcases hg with q | q
  · exact h0 g q
  · simp at q
    rw [q]
    exact h1
def CellsOut (m : Img) (maps : List (List Shp)) (cyc : Bool) (p : List Nat) (w : World) (e : Ending) (w' : World) : Prop :=
  ∃ (s : Int) (ok : Bool), e = .returned (.tuple #[.int .i64 s, .bool ok]) ∧ (ok = false → ∃ g ∈ p, oftenOf m cyc g = 0) ∧ (ok = true → (∀ g ∈ p, oftenOf m cyc g ≠ 0) ∧ s = sumP (costC m maps cyc) p) ∧ Below w.heap.size w w'
theorem often_low {m : Img} {cyc : Bool} (hm : SaneI m) {g : Nat} (hg : g < m.methods.length) : 0 ≤ oftenOf m cyc g ∧ oftenOf m cyc g ≤ 8 := by
  have hx : mthN m (g : Int) ∈ m.methods := by unfold mthN; rw [Int.toNat_natCast, List.getElem?_eq_getElem hg]; exact List.getElem_mem hg
  have h1 := (hm.method hx).fits.d0
  have h2 := (hm.method hx).fits.d1
  unfold oftenOf
  split <;> omega
theorem costC_low {m : Img} {maps : List (List Shp)} {cyc : Bool} (hm : SaneI m) (hz : MapsTo 4000 maps) (g : Nat) : 0 ≤ costC m maps cyc g ∧ costC m maps cyc g ≤ 32088 := by
  unfold costC
  rcases Nat.lt_or_ge g m.methods.length with q | q
  · have h1 := often_low (cyc := cyc) hm q
    have h2 := frame_top (f := (g : Int)) hm hz
    have h3 : 0 ≤ frameOf m maps (g : Int) := frame_low
    have h4 : oftenOf m cyc g * frameOf m maps (g : Int) ≤ 8 * 4011 := Int.mul_le_mul h1.2 h2 h3 (by omega)
    exact ⟨Int.mul_nonneg h1.1 h3, by omega⟩
  · have : frameOf m maps (g : Int) = 0 := by unfold frameOf; rw [if_neg (by omega)]
    rw [this, Int.mul_zero]
    omega
set_option maxHeartbeats 6400000 in
theorem dcells_any (m : Img) (maps : List (List Shp)) (cyc : Bool) (p : List Nat) (A R : Option Addr) (c cr : Nat) (h : Hnd) (w : World) (H : ImgIn w w.heap.size h m) (hm : SaneI m) (hM : SlcIs (SlcAt ShpAt 2) 1 w w.heap.size A c maps) (hz : MapsTo 4000 maps)
    (hR : Lies w w.heap.size R (natV p)) (hp : ∀ g ∈ p, g < m.methods.length) (hpl : p.length ≤ 12) :
    Calls Try.prog 21 #[imgV h m, .slice A maps.length c, .slice R p.length cr, .bool cyc] w (CellsOut m maps cyc p w) := by
  have HW := Lib.hid (below_box (w := w) (h := h) (m := m))
  have HBX := Lib.hid (img_box w h m)
  have HZ : Hid (w.heap.size < (w.alloc (imgO h m)).heap.size) := Lib.hid (by simp)
  have HI := Lib.hid (H.now HW.out)
  have HM0 := Lib.hid (slcUp RowAt.keeps hM HW.out)
  have HR0 : Hid (Lies (w.alloc (imgO h m)) (w.alloc (imgO h m)).heap.size R (natV p)) := Lib.hid ((hR.below HW.out).more HW.out.size)
  have HMZ := Lib.hid hz
  have HM := Lib.hid hm
  have HP := Lib.hid hp
  have hle := H.methods.le
  have hcap := H.methods.cap
  have hl1 := hM.le
  have hl2 := hM.cap
  obtain ⟨nm, hnm⟩ : ∃ z, maps.length = z := ⟨_, rfl⟩
  have HMN := Lib.hid hnm
  rw [hnm] at hl1 ⊢
  clear H hM hz hm hR hp hnm
  have HX0 : Hid (Below (w.alloc (imgO h m)).heap.size (w.alloc (imgO h m)) (w.alloc (imgO h m))) := Lib.hid (Below.refl _ _)
  go_enter Try.func21, Try.ntmps21
  go_upto_region 1 with fail
  generalize w.alloc (imgO h m) = w1 at *
  go_wp2_with fail
  go_loopw [8, 15] (fun s i wr => ∃ k : Nat, k ≤ p.length ∧ i = .int .i64 k ∧ s = .int .i64 (sumP (costC m maps cyc) (p.take k)) ∧ Hid (∀ g ∈ p.take k, oftenOf m cyc g ≠ 0) ∧ Hid (Below w1.heap.size w1 wr)) (fun _ i _ => p.length - (intOf i).toNat)
  case atStart => exact ⟨0, Nat.zero_le _, rfl, rfl, Lib.hid (fun g hg => by cases hg), HX0⟩
  case round =>
    clear HX0
    obtain ⟨k, hk, rfl, rfl, HNE, HX⟩ := hrel
    have HSM := Lib.hid (slcUp RowAt.keeps HM0.out HX.out)
    obtain ⟨q0, q1, q2, q3, q4, q5, q6⟩ := HBX.out.keep HX.out HZ.out
    obtain ⟨S, hS⟩ : ∃ z, sumP (costC m maps cyc) (p.take k) = z := ⟨_, rfl⟩
    have hSl := sumP_bounds (C := costC m maps cyc) (c := p.take k) (M := 32088) (by omega) (costC_low HM.out HMZ.out)
    rw [hS] at hSl
    have hSt : ((p.take k).length : Int) * 32088 ≤ 12 * 32088 := Int.mul_le_mul_of_nonneg_right (by rw [List.length_take]; omega) (by omega)
    obtain ⟨hS0, hS1⟩ := hSl
    have hS2 : S ≤ 385056 := by omega
    have HS := Lib.hid hS
    rw [hS]
    clear hS hSt hS1
    by_cases hlt : k < p.length
    · obtain ⟨g, hg⟩ : ∃ g, p[k] = g := ⟨_, rfl⟩
      have hgm := HP.out p[k] (List.getElem_mem hlt)
      obtain ⟨ar, rfl, har, r0⟩ := HR0.out k (.int .i64 (g : Int)) (by unfold natV; rw [List.getElem?_map, List.getElem?_eq_getElem hlt, hg]; rfl)
      have r0 := (HX.out.cell (p := ar.add k) (by rw [addr_add_block]; exact har)).trans r0
      have HTK : Hid (sumP (costC m maps cyc) (p.take (k + 1)) = S + costC m maps cyc g) := Lib.hid (by rw [sumP_take hlt, HS.out, hg])
      have HNX : Hid (oftenOf m cyc g ≠ 0 → ∀ g ∈ p.take (k + 1), oftenOf m cyc g ≠ 0) := Lib.hid (fun h => never_take hlt HNE.out (by rw [hg]; exact h))
      have HGP : Hid (g ∈ p) := Lib.hid (by rw [← hg]; exact List.getElem_mem hlt)
      rw [hg] at hgm
      obtain ⟨ad, hx, eA, hab, hin, hc⟩ := img_mth HI.out hgm
      have c5 := (HX.out.cell (p := off_ (ad.add (g * 8)) 5) (by show (ad.add _).block < _; rw [addr_add_block]; exact hab)).trans hc.c5
      have hmn : mthN m (g : Int) = m.methods[g] := by unfold mthN; rw [Int.toNat_natCast, List.getElem?_eq_getElem hgm]; rfl
      have hxd := (HM.out.method (List.getElem_mem hgm)).fits.d0
      have hxd1 := (HM.out.method (List.getElem_mem hgm)).fits.d1
      have HOF : Hid (oftenOf m cyc g = if cyc = true then m.methods[g].depth else 1) := Lib.hid (by unfold oftenOf; rw [hmn])
      generalize m.methods[g] = x at *
      clear q0 q1 q2 q3 q4 q5 q6
      obtain ⟨A0, Ab, A2, A3, A4, k0, k1, k2, k3, k4⟩ := h
      dsimp only at eA hle hcap
      subst eA
      obtain ⟨q0, q1, q2, q3, q4, q5, q6⟩ := HBX.out.keep HX.out HZ.out
      obtain ⟨FR, hFR⟩ : ∃ z, frameOf m maps (g : Int) = z := ⟨_, rfl⟩
      have HFR := Lib.hid hFR
      have hF0 : 0 ≤ FR := by rw [← hFR]; exact frame_low
      have hF1 : FR ≤ 4011 := by rw [← hFR]; exact frame_top HM.out HMZ.out
      clear hg hin hc hmn hFR har hab
      cases cyc
      · have HO1 : Hid (oftenOf m false g = 1) := Lib.hid (by rw [HOF.out]; rfl)
        have HCC : Hid (costC m maps false g = (1 : Int) * FR) := Lib.hid (by unfold costC; rw [HO1.out, HFR.out])
        go_wp2_with (go_at_call 11; (with_reducible refine (dframe_iso HI HX HM HSM HMZ HMN HFR).mono ?_); rintro e w5 ⟨rfl, hb⟩; have HX5 := Lib.hid (HX.out.trans (hb.mono HX.out.size)); clear hb)
        go_roundw
        case rel => exact ⟨k + 1, by omega, by go_num, by rw [HTK.out, HCC.out]; first | rfl | simp, Lib.hid (HNX.out (by rw [HO1.out]; decide)), HX5⟩
        case measure => simp [intOf]; omega
      have HO1 : Hid (oftenOf m true g = x.depth) := Lib.hid (by rw [HOF.out]; rfl)
      have HCC : Hid (costC m maps true g = x.depth * FR) := Lib.hid (by unfold costC; rw [HO1.out, HFR.out])
      have hP0 : 0 ≤ x.depth * FR := by rw [← HCC.out]; exact (costC_low HM.out HMZ.out g).1
      have hP1 : x.depth * FR ≤ 32088 := by rw [← HCC.out]; exact (costC_low HM.out HMZ.out g).2
      generalize x.depth = D at *
      by_cases hd : D = 0
      · have HD0 : Hid (oftenOf m true g = 0) := Lib.hid (HO1.out.trans hd)
        subst hd
        go_wp2_with fail
        refine bodyPost_ret (v := .tuple #[.int .i64 0, .bool false]) (by simp [results, Try.results21, go_sem]) rfl ?_
        exact ⟨0, false, rfl, fun _ => ⟨g, HGP.out, HD0.out⟩, (fun e => by cases e), HW.out.trans (HX.out.mono (Nat.le_of_lt HZ.out))⟩
      · have hd0 : (D == 0) = false := by simpa using hd
        go_wp2_with (go_at_call 11; (with_reducible refine (dframe_iso HI HX HM HSM HMZ HMN HFR).mono ?_); rintro e w5 ⟨rfl, hb⟩; have HX5 := Lib.hid (HX.out.trans (hb.mono HX.out.size)); clear hb)
        go_roundw
        case rel => exact ⟨k + 1, by omega, by go_num, by rw [HTK.out, HCC.out], Lib.hid (HNX.out (by rw [HO1.out]; exact hd)), HX5⟩
        case measure => simp [intOf]; omega
    · obtain rfl : k = p.length := by omega
      have HF : Hid (S = sumP (costC m maps cyc) p) := Lib.hid (by rw [← HS.out, List.take_length])
      have HNF : Hid (∀ g ∈ p, oftenOf m cyc g ≠ 0) := Lib.hid (by have := HNE.out; rwa [List.take_length] at this)
      go_wp2_with fail
      refine bodyPost_ret (v := .tuple #[.int .i64 S, .bool true]) (by simp [results, Try.results21, go_sem]) rfl ?_
      exact ⟨S, true, rfl, (fun e => by cases e), fun _ => ⟨HNF.out, HF.out⟩, HW.out.trans (HX.out.mono (Nat.le_of_lt HZ.out))⟩
theorem dcells_is {m : Img} {maps : List (List Shp)} {cyc : Bool} {p : List Nat} {A R : Option Addr} {c cr n k : Nat} {h : Hnd} {w0 w : World} (HI : Hid (ImgIn w0 w0.heap.size h m)) (HX : Hid (Below w0.heap.size w0 w)) (HM : Hid (SaneI m)) (HS : Hid (SlcIs (SlcAt ShpAt 2) 1 w w.heap.size A c maps)) (HZ : Hid (MapsTo 4000 maps)) (HN : Hid (maps.length = n))
    (HR : Hid (Lies w w.heap.size R (natV p))) (HP : Hid ((∀ g ∈ p, g < m.methods.length) ∧ p.length ≤ 12)) (HK : Hid (p.length = k)) :
    Calls Try.prog 21 #[imgV h m, .slice A n c, .slice R k cr, .bool cyc] w (CellsOut m maps cyc p w) := by
  obtain rfl := HN.out
  obtain rfl := HK.out
  exact dcells_any m maps cyc p A R c cr h w (HI.out.now HX.out) HM.out HS.out HZ.out HR.out HP.out.1 HP.out.2
end Go.Proofs.Ytefgepppcmhphaa
namespace Go.Proofs.Ytefgepppcmhphaa
set_option maxRecDepth 100000
set_option linter.unusedVariables false
set_option linter.unusedSimpArgs false
open Go.ChangeShapes Go.WideShapes Go.ChangeAt Go.RowKit
set_option linter.unusedVariables false
set_option linter.unusedSimpArgs false

set_option maxHeartbeats 1600000 in
theorem smax_any (T : List Int) (A : Option Addr) (c : Nat) (w : World) (h : Lies w w.heap.size A (T.map (Value.int .i64))) (h0 : 0 < T.length) (hl : T.length ≤ 1048576) :
    Calls Try.prog 40 #[.slice A T.length c] w fun e w' => e = .returned (.int .i64 (mostTo T T.length)) ∧ w = w' := by
  have HL := Lib.hid h
  clear h
  obtain ⟨ad, rfl, hab, hc0⟩ := HL.out 0 (.int .i64 T[0]) (by rw [List.getElem?_map, List.getElem?_eq_getElem h0]; rfl)
  have HM1 : Hid (mostTo T 1 = T[0]) := Lib.hid (most_one h0)
  obtain ⟨t0, ht0⟩ : ∃ z, T[0] = z := ⟨_, rfl⟩
  rw [ht0] at hc0 HM1
  rw [show ad.add 0 = ad by simp [Addr.add]] at hc0
  obtain ⟨n, hn⟩ : ∃ n, T.length = n := ⟨_, rfl⟩
  have HN := Lib.hid hn
  rw [hn] at h0 hl ⊢
  clear ht0 hn hab
  have hn1 : ¬ (n : Int) < 1 := by omega
  go_enter Try.func40, Try.ntmps40
  go_wp2_with fail
  go_loopw [3, 4] (fun m i wr => ∃ k : Nat, 1 ≤ k ∧ k ≤ n ∧ i = .int .i64 k ∧ m = .int .i64 (mostTo T k) ∧ wr = w) (fun _ i _ => n - (intOf i).toNat)
  case atStart => exact ⟨1, Nat.le_refl _, h0, rfl, by rw [HM1.out], by first | rfl | trivial⟩
  case round =>
    obtain ⟨k, hk1, hk, rfl, rfl, hwr⟩ := hrel
    have hwr := hwr.symm
    subst hwr
    obtain ⟨M, hM⟩ : ∃ z, mostTo T k = z := ⟨_, rfl⟩
    rw [hM]
    by_cases hlt : k < n
    · have hkT : k < T.length := by rw [HN.out]; exact hlt
      obtain ⟨ad2, e2, hab, ck⟩ := HL.out k (.int .i64 T[k]) (by rw [List.getElem?_map, List.getElem?_eq_getElem hkT]; rfl)
      injection e2 with e2
      subst e2
      have HS : Hid (mostTo T (k + 1) = mx M T[k]) := Lib.hid (by rw [most_step hkT, hM])
      generalize T[k] = x at *
      clear hM hab hc0 hkT
      by_cases hg : M < x
      · have hgi : x > M := hg
        have hmx : max M x = x := by omega
        have HY : Hid (mostTo T (k + 1) = x) := Lib.hid (by rw [HS.out]; unfold mx; rw [if_pos hg])
        go_wp2_with fail
        go_roundw
        case rel => exact ⟨k + 1, by omega, by omega, by go_num, by rw [HY.out], by first | rfl | trivial⟩
        case measure => simp [intOf]; omega
      · have hgi : ¬ x > M := hg
        have hmx : max M x = M := by omega
        have HY : Hid (mostTo T (k + 1) = M) := Lib.hid (by rw [HS.out]; unfold mx; rw [if_neg hg])
        go_wp2_with fail
        go_roundw
        case rel => exact ⟨k + 1, by omega, by omega, by go_num, by rw [HY.out], by first | rfl | trivial⟩
        case measure => simp [intOf]; omega
    · obtain rfl : k = n := by omega
      clear hc0
      have HE := Lib.hid hM
      clear hM
      go_wp2_with fail
      go_ret
      exact ⟨by rw [HE.out]; first | rfl | done, rfl⟩
theorem smax_is {T : List Int} {A : Option Addr} {c n : Nat} {w : World} {r : Int} (HL : Hid (Lies w w.heap.size A (T.map (Value.int .i64)))) (HN : Hid (T.length = n)) (h0 : 0 < n) (hl : n ≤ 1048576) (HR : Hid (mostTo T T.length = r)) :
    Calls Try.prog 40 #[.slice A n c] w fun e w' => e = .returned (.int .i64 r) ∧ w = w' := by
  obtain rfl := HN.out
  have H := smax_any T A c w HL.out h0 hl
  rw [HR.out] at H
  exact H
theorem natV_map (p : List Nat) : natV p = (p.map (fun k : Nat => (k : Int))).map (Value.int .i64) := by unfold natV; rw [List.map_map]; rfl
theorem dsearch_is {p : List Nat} {R : Option Addr} {c k : Nat} {x : Int} {b : Bool} {w : World} (HR : Hid (Lies w w.heap.size R (natV p))) (HP : Hid (p.Pairwise (· < ·))) (HK : Hid (p.length = k)) (hk : k ≤ 1000) (HB : Hid (outB p x = b)) :
    Calls Try.prog 39 #[.slice R k c, .int .i64 x] w fun e w' => ∃ i : Int, e = .returned (.tuple #[.int .i64 i, .bool (!b)]) ∧ Below w.heap.size w w' := by
  have H := search_any (p.map (fun k : Nat => (k : Int))) x R c w (by rw [List.length_map, HK.out]; omega) (by rw [← natV_map]; exact HR.out) (List.pairwise_map.mpr (HP.out.imp (fun {a b} q => by omega)))
  rw [List.length_map, HK.out, show inB (p.map (fun k : Nat => (k : Int))) x = !b by rw [← HB.out]; unfold outB; simp] at H
  exact H
set_option maxHeartbeats 6400000 in
theorem dbeyond_any (EL : List (List Int)) (n gB : Nat) (O : List Int) (p : List Nat) (E R : Option Addr) (ce cr : Nat) (w : World) (hE : SlcIs (SlcAt IntAt 1) 1 w w.heap.size E ce EL) (hn : EL.length = n) (hn12 : n ≤ 12) (hED : EdgesIn EL n) (hEl : ∀ g : Nat, (EL[g]?.getD []).length ≤ 12)
    (hR : Lies w w.heap.size R (natV p)) (hp : ∀ g ∈ p, g < n) (hs : p.Pairwise (· < ·)) (hpl : p.length ≤ 12) (hO : NumsIn w gB O) (hOl : O.length = n) (hlow : ∀ t, 0 ≤ oN O t) :
    Calls Try.prog 23 #[.slice E n ce, .slice R p.length cr, .slice (some ⟨gB, 0, none⟩) n n] w fun e w' => e = .returned (.int .i64 ((takesOf EL p (oN O) p).foldl mx 0)) ∧ Below w.heap.size w w' := by
  obtain ⟨i1, hi1, hz01, hz11, hz21⟩ := info_partsK info_int
  have hel := hE.le
  have hec := hE.cap
  rw [hn] at hel
  have HE := Lib.hid hE
  have HN := Lib.hid hn
  have HED := Lib.hid hED
  have HEL := Lib.hid hEl
  have HR := Lib.hid hR
  have HP := Lib.hid hp
  have HS := Lib.hid hs
  have HO := Lib.hid hO
  have HOL := Lib.hid hOl
  have HLOW := Lib.hid hlow
  obtain ⟨np, hnp⟩ : ∃ z, p.length = z := ⟨_, rfl⟩
  have HNP := Lib.hid hnp
  obtain ⟨r, hr⟩ : ∃ z, (takesOf EL p (oN O) p).foldl mx 0 = z := ⟨_, rfl⟩
  have HRR := Lib.hid hr
  rw [hnp] at hpl ⊢
  rw [hr]
  clear hE hn hED hEl hR hp hs hO hOl hlow hnp hr
  have HX0 : Hid (Below w.heap.size w w) := Lib.hid (Below.refl _ _)
  go_enter Try.func23, Try.ntmps23
  go_wp2_with fail
  go_loopw [7, 16] (fun v i wr => ∃ (k : Nat) (T : List Int), k ≤ np ∧ i = .int .i64 k ∧ Hid (takesOf EL p (oN O) (p.take k) = T) ∧ Hid (wr.ownsRow w.heap.size 3 1 v T.length (T.map (Value.int .i64))) ∧ Hid (Below w.heap.size w wr)) (fun _ i _ => np - (intOf i).toNat)
  case atStart => exact ⟨0, [], Nat.zero_le _, rfl, Lib.hid rfl, Lib.hid (World.ownsRow_nil _ _ _ _), HX0⟩
  case round =>
    clear HX0
    obtain ⟨k, T, hk, rfl, HT, HW, HX⟩ := hrel
    have hTl : T.length ≤ k * 12 := by
      rw [← HT.out]
      refine Nat.le_trans (takesOf_len HEL.out) ?_
      rw [List.length_take]
      exact Nat.mul_le_mul_right _ (Nat.min_le_left _ _)
    have hTl2 : k * 12 ≤ 144 := by omega
    by_cases hlt : k < np
    · have hkp : k < p.length := by rw [HNP.out]; exact hlt
      obtain ⟨g, hg⟩ : ∃ g, p[k] = g := ⟨_, rfl⟩
      have hgn := HP.out p[k] (List.getElem_mem hkp)
      obtain ⟨ar, rfl, har, r0⟩ := HR.out k (.int .i64 (g : Int)) (by unfold natV; rw [List.getElem?_map, List.getElem?_eq_getElem hkp, hg]; rfl)
      have r0 := (HX.out.cell (p := ar.add k) (by rw [addr_add_block]; exact har)).trans r0
      rw [hg] at hgn
      have hgE : g < EL.length := by rw [HN.out]; exact hgn
      obtain ⟨adE, rfl, habE, A1, cL, e0, hsr⟩ := HE.out.row.at_ hgE
      obtain ⟨L, hL⟩ : ∃ z, EL[g] = z := ⟨_, rfl⟩
      rw [hL] at e0 hsr
      rw [Nat.mul_one] at e0
      have e0 := (HX.out.cell (p := adE.add g) (by rw [addr_add_block]; exact habE)).trans e0
      have hge : EL[g]?.getD [] = L := by rw [List.getElem?_eq_getElem hgE, hL]; rfl
      have HLE := Lib.hid hge
      have hLl : L.length ≤ 12 := by rw [← hge]; exact HEL.out g
      have HTK : Hid (takesOf EL p (oN O) (p.take (k + 1)) = T ++ takesRow p (oN O) L) := Lib.hid (by rw [takesOf_take hkp, HT.out, hg, hge])
      have HLR := Lib.hid hsr
      have hrl := hsr.le
      have hrc := hsr.cap
      clear hg hge hL hsr hgE har habE hkp
      go_wp2_with fail
      clear r0 e0
      go_loopw [7, 25] (fun v j wi => ∃ (s : Nat) (T2 : List Int), s ≤ L.length ∧ j = .int .i64 s ∧ Hid (T ++ takesRow p (oN O) (L.take s) = T2) ∧ Hid (wi.ownsRow w.heap.size 3 1 v T2.length (T2.map (Value.int .i64))) ∧ Hid (Below w.heap.size w wi)) (fun _ j _ => L.length - (intOf j).toNat)
      case atStart => exact ⟨0, T, Nat.zero_le _, rfl, Lib.hid (by simp [takesRow]), HW, HX⟩
      case round =>
        clear HW HX
        obtain ⟨s, T2, hs, rfl, HT2, HW, HX⟩ := hrel
        have hT2 : T2.length ≤ 156 := by
          rw [← HT2.out, List.length_append]
          have h1 := takesRow_len (p := p) (out := oN O) (L := L.take s)
          rw [List.length_take] at h1
          omega
        by_cases hsl : s < L.length
        · obtain ⟨adL, rfl, habL, l0⟩ := HLR.out.row.at_ hsl
          have l0 : w.cell? (adL.add s) = some (.int .i64 L[s]) := by have := l0; rw [Nat.mul_one] at this; exact this
          have l0 := (HX.out.cell (p := adL.add s) (by rw [addr_add_block]; exact habL)).trans l0
          obtain ⟨t0, t1⟩ := HED.out g L[s] (by rw [HLE.out]; exact List.getElem_mem hsl)
          have HTK2 : Hid (T ++ takesRow p (oN O) (L.take (s + 1)) = T2 ++ (if outB p L[s] = true then [oN O L[s].toNat] else [])) := Lib.hid (by rw [takesRow_take hsl, ← List.append_assoc, HT2.out])
          generalize L[s] = tt at *
          obtain ⟨t, rfl⟩ := Int.eq_ofNat_of_zero_le t0
          have htn : t < n := by omega
          have HTN := Lib.hid htn
          obtain ⟨b, hb⟩ : ∃ z, outB p (t : Int) = z := ⟨_, rfl⟩
          have HB := Lib.hid hb
          have HRN : Hid (Lies _ _ (some ar) (natV p)) := Lib.hid ((HR.out.below HX.out).more HX.out.size)
          have hsz := HX.out.size
          clear t0 t1 hb habL
          cases b
          · have HY : Hid (T ++ takesRow p (oN O) (L.take (s + 1)) = T2) := Lib.hid (by rw [HTK2.out, HB.out]; simp)
            go_wp2_with (go_at_call 39; (with_reducible refine (dsearch_is HRN HS HNP (by omega) HB).mono ?_); rintro e w5 ⟨i5, rfl, hb⟩; have HX5 := Lib.hid (HX.out.trans (hb.mono hsz)); have HW5 := Lib.hid (own_below HW.out hb (own_block_lt HW.out)); clear hb)
            go_roundw
            case rel => exact ⟨s + 1, T2, by omega, by go_num, HY, HW5, HX5⟩
            case measure => simp [intOf]; omega
          · have HY : Hid (T ++ takesRow p (oN O) (L.take (s + 1)) = T2 ++ [oN O t]) := Lib.hid (by rw [HTK2.out, HB.out]; simp)
            obtain ⟨ov, hov⟩ : ∃ z, oN O t = z := ⟨_, rfl⟩
            have HOV := Lib.hid hov
            rw [hov] at HY
            clear hov
            go_wp2_with (first
              | (go_at_call 39; (with_reducible refine (dsearch_is HRN HS HNP (by omega) HB).mono ?_); rintro e w5 ⟨i5, rfl, hb⟩; have HX5 := Lib.hid (HX.out.trans (hb.mono hsz)); have HW5 := Lib.hid (own_below HW.out hb (own_block_lt HW.out)); have hsz5 := HX5.out.size; have o1 := (HO.out.keep HX5.out).at_ (t := t) (by rw [HOL.out]; exact HTN.out); rw [HOV.out] at o1; clear hb)
              | (at_builtin; refine append_liesK rfl _ _ 26 rfl _ 3 i1 (.int .i64 0) 1 8 Try.underlying26 hi1 hz01 hz11 hz21 rfl (by decide) _ T2.length (T2.map (Value.int .i64)) rfl (HW5.out.alloc _) (some ⟨w5.heap.size, 0, none⟩) 1 1 _ [.int .i64 ov] rfl rfl (lies_v1 w5 _ _) (one_cellv rfl) (by unfold maxLen; omega) (by omega) (by simp; omega) ?_; intro v6 w6 hown hgrow; have HW6 := Lib.hid hown; have HX6 := Lib.hid (appK_more (HX5.out.alloc hsz5 _) (HW5.out.alloc _) (by simp; omega) hgrow); clear hown hgrow))
            go_roundw
            case rel => exact ⟨s + 1, T2 ++ [ov], by omega, by go_num, HY, Lib.hid (by simpa using HW6.out), HX6⟩
            case measure => simp [intOf]; omega
        · have HY : Hid (takesOf EL p (oN O) (p.take (k + 1)) = T2) := Lib.hid (by rw [HTK.out, ← HT2.out, List.take_of_length_le (by omega)])
          go_wp2_with fail
          go_roundw
          case rel => exact ⟨k + 1, T2, by omega, by go_num, HY, HW, HX⟩
          case measure => simp [intOf]; omega
    · obtain ⟨A7, c7, rfl, hll, hc1, hc2⟩ := own_ints HW.out
      have HLL := Lib.hid hll
      have HTT : Hid (takesOf EL p (oN O) p = T) := Lib.hid (by rw [← HT.out, List.take_of_length_le (by rw [HNP.out]; omega)])
      clear hll
      by_cases h0 : T.length = 0
      · have HZ : Hid (r = 0) := Lib.hid (by rw [← HRR.out, HTT.out, List.length_eq_zero_iff.mp h0]; rfl)
        have h0i : (T.length : Int) = 0 := by omega
        go_wp2_with fail
        go_ret
        exact ⟨by rw [HZ.out]; first | rfl | done, HX.out⟩
      · have h0n : 0 < T.length := by omega
        have h0i : ((T.length : Int) == 0) = false := by simpa using h0
        have HMO : Hid (mostTo T T.length = r) := Lib.hid (by
          rw [most_all h0n, ← HRR.out, HTT.out]
          intro x hx
          rw [← HTT.out] at hx
          unfold takesOf takesRow at hx
          obtain ⟨g, _, hx⟩ := List.mem_flatMap.mp hx
          obtain ⟨t, _, rfl⟩ := List.mem_map.mp hx
          exact HLOW.out _)
        have HTE : Hid (T.length = T.length) := Lib.hid rfl
        go_wp2_with (go_at_call 40; (with_reducible refine (smax_is HLL HTE h0n (by omega) HMO).mono ?_); rintro e w8 ⟨rfl, rfl⟩)
        go_ret
        exact ⟨rfl, HX.out⟩
theorem dbeyond_is {EL : List (List Int)} {n np gB : Nat} {O : List Int} {p : List Nat} {E R : Option Addr} {ce cr : Nat} {w : World} {r : Int} (HE : Hid (SlcIs (SlcAt IntAt 1) 1 w w.heap.size E ce EL)) (HN : Hid (EL.length = n)) (hn12 : n ≤ 12) (HED : Hid (EdgesIn EL n ∧ ∀ g : Nat, (EL[g]?.getD []).length ≤ 12))
    (HR : Hid (Lies w w.heap.size R (natV p))) (HP : Hid ((∀ g ∈ p, g < n) ∧ p.length ≤ 12)) (HS : Hid (p.Pairwise (· < ·))) (HNP : Hid (p.length = np)) (HO : Hid (NumsIn w gB O)) (HOL : Hid (O.length = n ∧ ∀ t, 0 ≤ oN O t)) (HRR : Hid ((takesOf EL p (oN O) p).foldl mx 0 = r)) :
    Calls Try.prog 23 #[.slice E n ce, .slice R np cr, .slice (some ⟨gB, 0, none⟩) n n] w fun e w' => e = .returned (.int .i64 r) ∧ Below w.heap.size w w' := by
  obtain rfl := HNP.out
  have H := dbeyond_any EL n gB O p E R ce cr w HE.out HN.out hn12 HED.out.1 HED.out.2 HR.out HP.out.1 HS.out HP.out.2 HO.out HOL.out.1 HOL.out.2
  rw [HRR.out] at H
  exact H
end Go.Proofs.Ytefgepppcmhphaa
namespace Go.Proofs.Ytefgepppcmhphaa
set_option maxRecDepth 100000
set_option linter.unusedVariables false
set_option linter.unusedSimpArgs false
open Go.ChangeShapes Go.WideShapes Go.ChangeAt Go.RowKit

theorem snode_any (E : Option Addr) (n c : Nat) (x : Int) (w : World) (r : Bool) (hr : (decide (0 ≤ x) && decide (x < n)) = r) :
    Calls Try.prog 37 #[.slice E n c, .int .i64 x] w fun e w' => e = .returned (.bool r) ∧ Below w.heap.size w w' := by
  have HR := Lib.hid hr
  by_cases h0 : 0 ≤ x
  · by_cases h1 : x < n
    · go_enter Try.func37, Try.ntmps37
      go_wp2
      go_ret
      exact ⟨by rw [← HR.out, decide_eq_true h0, decide_eq_true h1]; rfl, Below.refl _ _⟩
    · go_enter Try.func37, Try.ntmps37
      go_wp2
      go_ret
      exact ⟨by rw [← HR.out, decide_eq_true h0, decide_eq_false (by omega)]; rfl, Below.refl _ _⟩
  · go_enter Try.func37, Try.ntmps37
    go_wp2
    go_ret
    exact ⟨by rw [← HR.out, decide_eq_false (by omega), Bool.false_and]; rfl, Below.refl _ _⟩

set_option maxHeartbeats 1600000 in
theorem smeet_any (B g n v : Nat) (EL : List (List Int)) (S : Wk) (a : WkAd) (ρ : Nat → Nat) (w : World) (h : WkIn w B g EL n S a ρ) (hv : v < n) (hm : S.met < n) (hw : S.way.length ≤ n) (ho : S.opn.length ≤ n) :
    Calls Try.prog 58 #[.pointer (some ⟨g, 0, none⟩), .int .i64 (v : Int)] w fun e w' => e = .returned (.tuple #[]) ∧ (∃ a' ρ', WkIn w' B g EL n (S.meet v) a' ρ') ∧ Below B w w' := by
  obtain ⟨met, place, back, gone, way, opn, parts⟩ := S
  obtain ⟨gp, gb, gg, E, ce, Ay, cy, Ao, co, Ap, cp, vs⟩ := a
  dsimp only at hm hw ho
  have HI := Lib.hid h
  have hn1 := h.n1
  have hge := h.g_ge
  obtain ⟨hg0, hg1, hg2, hg3⟩ := hge
  have q1 := h.blk.cells 1 _ rfl
  have f1 := h.blk.free 1
  have H1 := Lib.hid (h.met (k := met + 1) (z := (met : Int) + 1) (by omega))
  have X1 := Lib.hid ((Below.refl B w).setCell (p := ⟨g, 1, none⟩) hg0 (.int .i64 ((met : Int) + 1)))
  dsimp only at q1 f1 H1 hg1 hg2 hg3
  clear h
  obtain ⟨i0, hi, hz0, hz1, hz2⟩ := info_parts info_int
  go_enter Try.func58, Try.ntmps58
  go_upto_region 1 with fail
  generalize w.setCell ⟨g, 1, none⟩ (.int .i64 ((met : Int) + 1)) = w1 at *
  clear q1 f1
  have q1 := H1.out.blk.cells 1 _ rfl
  have q2 := H1.out.blk.cells 2 _ rfl
  have q3 := H1.out.blk.cells 3 _ rfl
  obtain ⟨c1, fp⟩ := H1.out.p_at hv
  obtain ⟨c2, fb⟩ := H1.out.b_at hv
  dsimp only at q1 q2 q3 c1 c2 fp fb
  have H2 := Lib.hid (H1.out.place (v := v) (k := met + 1) (z := (met : Int) + 1) (by omega))
  obtain ⟨c3, f3⟩ := H2.out.b_at hv
  dsimp only at H2 c3 f3
  go_region
  have H3 := Lib.hid ((H2.out.back (v := v) (k := (met : Int) + 1)).keep (Below.refl _ _).drew)
  have X3 := Lib.hid ((X1.out.setCell (p := ⟨gp, v, none⟩) hg1 (.int .i64 ((met : Int) + 1))).setCell (p := ⟨gb, v, none⟩) hg2 (.int .i64 ((met : Int) + 1))).drew
  generalize ((w1.setCell ⟨gp, v, none⟩ (.int .i64 ((met : Int) + 1))).setCell ⟨gb, v, none⟩ (.int .i64 ((met : Int) + 1))).drew = w3 at *
  clear q1 q2 q3 c1 fp c2 fb c3 f3 H2 H1 X1
  have q5 := H3.out.blk.cells 5 _ rfl
  dsimp only at q5 H3
  have hz3 := H3.out.size
  have HY3 : Hid (w3.ownsRow B 3 1 (.slice Ay way.length cy) way.length (natV way)) := Lib.hid H3.out.way
  go_upto_region 3 with (at_builtin; go_loud (refine wpList_append_lies _ rfl _ _ 26 rfl B 3 i0 (.int .i64 0) 1 8 Try.underlying26 hi hz0 hz1 hz2 rfl (by decide) _ _ _ rfl (HY3.out.alloc _) ⟨_, 0, none⟩ 1 1 [.int .i64 (v : Int)] rfl rfl (lit_at _ _ _) (one_cellv rfl) (by decide) (by unfold maxLen; omega) (by omega) (by simp; omega) _ rfl ?_); intro g9 c9 w9 hown hgrow hor hlt9; have hb9 := whole_only H3.out.blk (app_only H3.out.r4 hgrow) (by rw [H3.out.r0]; decide); have q5' := hb9.cells 5 _ rfl; have f5' := hb9.free 5; have HA := Lib.hid (H3.out.way_app hown hgrow hor); clear hown hgrow hor hlt9 hb9; dsimp only at q5')
  have H4 := Lib.hid HA.out.1
  have X4 := Lib.hid (X3.out.trans HA.out.2)
  generalize w9.setCell ⟨g, 5, none⟩ (.slice (some ⟨g9, 0, none⟩) (way.length + 1) c9) = w4 at *
  clear HA q5' f5' q5 H3 HY3 X3
  have q6 := H4.out.blk.cells 6 _ rfl
  dsimp only at q6 H4
  have hz4 := H4.out.size
  have HO4 : Hid (w4.ownsRow B 3 1 (.slice Ao opn.length co) opn.length (natV opn)) := Lib.hid H4.out.opn
  go_wp2_with (at_builtin; go_loud (refine wpList_append_lies _ rfl _ _ 26 rfl B 3 i0 (.int .i64 0) 1 8 Try.underlying26 hi hz0 hz1 hz2 rfl (by decide) _ _ _ rfl (HO4.out.alloc _) ⟨_, 0, none⟩ 1 1 [.int .i64 (v : Int)] rfl rfl (lit_at _ _ _) (one_cellv rfl) (by decide) (by unfold maxLen; omega) (by omega) (by simp; omega) _ rfl ?_); intro h9 d9 v9 hown hgrow hor hlt9; have hb9 := whole_only H4.out.blk (app_only H4.out.r5 hgrow) (by rw [H4.out.r0]; decide); have q6' := hb9.cells 6 _ rfl; have f6' := hb9.free 6; have HA := Lib.hid (H4.out.opn_app hown hgrow hor); clear hown hgrow hor hlt9 hb9; dsimp only at q6')
  go_end0
  exact ⟨rfl, ⟨_, _, HA.out.1⟩, X4.out.trans HA.out.2⟩
end Go.Proofs.Ytefgepppcmhphaa
namespace Go.Proofs.Ytefgepppcmhphaa
set_option maxRecDepth 100000
set_option linter.unusedVariables false
set_option linter.unusedSimpArgs false
open Go.ChangeShapes Go.WideShapes Go.ChangeAt Go.RowKit

theorem own_block {w : World} {B n k : Nat} {v : Value} {xs : List Value} {T : TypeId} (h : w.ownsRow B T k v n xs) (hn : 0 < n) : ∃ g c rest, v = .slice (some ⟨g, 0, none⟩) n c ∧ B ≤ g ∧ Whole w g (xs ++ rest) T := by
  rcases h.2 with ⟨_, h2⟩ | ⟨g', cap, cur, h1, hb, hh, _, _, _, hx⟩
  · omega
  · refine ⟨g', cap, cur.toList.drop (n * k), h1, hb, ?_⟩
    unfold Whole
    rw [← hx, List.take_append_drop]
    exact hh
end Go.Proofs.Ytefgepppcmhphaa
