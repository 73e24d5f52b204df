/-
  What the program's own inst.Args, Good, Put, Get come to.
-/
import Derived.Test.YtikljohgdgibnaaInstOwn
import Derived.RegionTactic
import Derived.ChangeAlike
namespace Go.Proofs.Ytikljohgdgibnaa
set_option maxRecDepth 100000
open Go.ChangeShapes Go.WideShapes Go.ChangeAt Go.RowKit
set_option linter.unusedVariables false

theorem iargs_any (op : Int) (w : World) : Calls Try.prog 88 #[.int .i64 op] w fun e w' => e = .returned (.int .i64 (argsI op)) ∧ Below w.heap.size w w' :=
  (oargs_same op w).mono fun e w' ⟨he, hw⟩ => ⟨he, hw ▸ Below.refl _ _⟩

/-- A number's bytes. -/
def bytesZ (n : Int) : List Int := bytesOf n.toNat
theorem putI_has {op a b : Int} {n : Nat} (h : (argsI op).toNat = n) : putI op a b = bytesOf op.toNat ++ ([a, b].take n).flatMap bytesZ := by
  have hr := args_range op
  subst h
  unfold putI
  rcases (show argsI op = -1 ∨ argsI op = 0 ∨ argsI op = 1 ∨ argsI op = 2 by omega) with h | h | h | h <;> rw [h] <;> simp [bytesZ]

/-- A list of two, cut behind n: the first part. -/
def CutHas (N n : Nat) (w : World) (e : Ending) (w' : World) : Prop :=
  ∃ v, e = .returned (.tuple #[.slice (some ⟨N, 0, none⟩) n 2, v]) ∧ Below w.heap.size w w'
theorem cut_has (op : Int) (N n : Nat) (w : World) (h : (argsI op).toNat = n) : Calls Try.prog 89 #[.int .i64 op, .slice (some ⟨N, 0, none⟩) 2 2] w (CutHas N n w) := by
  have hr := args_range op
  rcases (show argsI op ≤ 0 ∨ argsI op = 1 ∨ argsI op = 2 by omega) with g | g | g
  · obtain rfl : n = 0 := by omega
    exact (cut_none op N w g).mono fun e w' ⟨he, hb⟩ => ⟨_, he, hb⟩
  · obtain rfl : n = 1 := by omega
    exact (cut_one op N w g).mono fun e w' ⟨he, hb⟩ => ⟨_, he, hb⟩
  · obtain rfl : n = 2 := by omega
    exact (cut_two op N w g).mono fun e w' ⟨he, hb⟩ => ⟨_, he, hb⟩

/-- A box of three and a list of two just made, behind whatever leaves them alone. -/
theorem put_parts {w w2 : World} {x y z u v : Value} {T T' : TypeId} (hb : Below ((w.alloc (.cells #[x, y, z] T)).alloc (.cells #[u, v] T')).heap.size ((w.alloc (.cells #[x, y, z] T)).alloc (.cells #[u, v] T')) w2) :
    w2.cell? ⟨w.heap.size, 0, none⟩ = some x ∧ Below w.heap.size w w2 ∧ Lies w2 w2.heap.size (some ⟨w.heap.size + 1, 0, none⟩) [u, v] := by
  have hs : (w.alloc (.cells #[x, y, z] T)).heap.size = w.heap.size + 1 := by simp
  have h1 : Below (w.alloc (.cells #[x, y, z] T)).heap.size (w.alloc (.cells #[x, y, z] T)) w2 := ((Below.refl _ _).alloc (Nat.le_refl _) _).trans (hb.mono (by simp))
  refine ⟨(ins_cells h1).1, ((Below.refl _ _).alloc (Nat.le_refl _) _).trans (h1.mono (by simp)), ?_⟩
  have h2 := (two_lie hb).1
  rw [hs] at h2
  exact h2

set_option maxHeartbeats 800000 in
theorem iput_any (l : List Int) (v : Value) (op a b : Int) (B : Nat) (w : World) (h0 : op ≤ 9223372036854775807) (h1 : a ≤ 9223372036854775807) (h2 : b ≤ 9223372036854775807) (hl : l.length ≤ 1000000) (hB : B ≤ w.heap.size)
    (ho : w.ownsRow B 5 1 v l.length (l.map (Value.int .u8))) :
    Calls Try.prog 87 #[v, insV op a b] w (PutOut B (l ++ putI op a b) w) := by
  obtain ⟨A, c, rfl, hL, hA⟩ := own_slice_nil ho
  have HL := Lib.hid hL
  have HA := Lib.hid hA
  clear hL hA ho
  obtain ⟨n, hn⟩ : ∃ n, (argsI op).toNat = n := ⟨_, rfl⟩
  have hn2 : n ≤ 2 := by have := args_range op; omega
  have HE := Lib.hid (putI_has (a := a) (b := b) hn)
  have HN := Lib.hid hn
  clear hn
  obtain ⟨L, hLd⟩ : ∃ L, [a, b].take n = L := ⟨_, rfl⟩
  have hLn : Hid (L.length = n) := Lib.hid (by rw [← hLd, List.length_take]; exact Nat.min_eq_left hn2)
  have hLm : Hid (∀ x ∈ L, x ≤ 9223372036854775807) := Lib.hid (fun x hx => by
    rw [← hLd] at hx
    have := List.mem_of_mem_take hx
    simp at this
    rcases this with rfl | rfl <;> assumption)
  rw [hLd] at HE
  have HD := Lib.hid hLd
  clear hLd
  have HLo := bytesOf_len9 (n := op.toNat) (by omega)
  go_enter Try.func87, Try.ntmps87
  go_wp2_with (first
    | (go_at_call 89; (with_reducible refine (cut_has _ _ _ _ HN.out).mono ?_); rintro e w2 ⟨v2, rfl, hb⟩; obtain ⟨c0, hb2, hll⟩ := put_parts hb; have HB2 := Lib.hid hb2; have HLL : Hid (Lies w2 w2.heap.size (some ⟨w.heap.size + 1, 0, none⟩) (L.map (Value.int .i64))) := Lib.hid (by have := hll.take_ n; rw [show [Value.int .i64 a, Value.int .i64 b] = [a, b].map (Value.int .i64) from rfl, ← List.map_take, HD.out] at this; exact this); have HL2 : Hid (Lies w2 w2.heap.size A (l.map (Value.int .u8))) := Lib.hid ((HL.out.below_to hb2 (Nat.le_refl _)).more hb2.size); clear hb hb2 hll)
    | (go_at_call 67; (with_reducible refine (bput_lies l A c op _ _ (by omega) (by omega) (Nat.le_refl _) HA.out HL2.out).mono ?_); rintro e w3 ⟨v3, rfl, hown, hb3⟩; have HO3 := Lib.hid hown; have HB3 := Lib.hid hb3; clear hown hb3))
  go_loopw [0, 26] (fun v i wr => ∃ (k : Nat) (X : List Int), k ≤ n ∧ i = .int .i64 k ∧ X.length ≤ 1000009 + 9 * k ∧ Hid (X = l ++ bytesOf op.toNat ++ (L.take k).flatMap bytesZ) ∧ Hid (wr.ownsRow B 5 1 v X.length (X.map (Value.int .u8))) ∧ Hid (Below w2.heap.size w2 wr)) (fun _ i _ => n - (intOf i).toNat)
  case atStart => exact ⟨0, l ++ bytesOf op.toNat, by omega, rfl, by simp; omega, Lib.hid (by simp), Lib.hid (own_lower HO3.out (Nat.le_trans hB HB2.out.size)), HB3⟩
  case round =>
    obtain ⟨k, X, hk, rfl, hX, HX, HO, HB⟩ := hrel
    by_cases hlt : k < n
    · obtain ⟨A', c', rfl, hL', hA'⟩ := own_slice_nil HO.out
      have HL' := Lib.hid hL'
      have HA' := Lib.hid hA'
      clear hL' hA'
      have hc := lies_cell (HLL.out.below_to HB.out (Nat.le_refl _)) k (by rw [List.length_map, hLn.out]; exact hlt)
      simp only [List.getElem_map] at hc
      have hkl : k < L.length := by rw [hLn.out]; exact hlt
      have hm := hLm.out L[k] (List.getElem_mem hkl)
      have HT : Hid (L.take (k + 1) = L.take k ++ [L[k]]) := Lib.hid (by rw [List.take_succ_eq_append_getElem hkl])
      generalize L[k] = x at *
      have H9 := bytesOf_len9 (n := x.toNat) (by omega)
      go_wp2_with (go_at_call 67; (with_reducible refine (bput_lies X A' c' x _ _ (by omega) (by omega) (Nat.le_refl _) HA'.out HL'.out).mono ?_); rintro e w4 ⟨v4, rfl, hown, hb4⟩; have HO4 := Lib.hid hown; have HB4 := Lib.hid hb4; clear hown hb4)
      go_roundw
      case rel => exact ⟨k + 1, X ++ bytesOf x.toNat, by omega, by go_num, by simp; omega, Lib.hid (by rw [HT.out, HX.out]; simp [bytesZ]), Lib.hid (own_lower HO4.out (Nat.le_trans (Nat.le_trans hB HB2.out.size) HB.out.size)), Lib.hid (HB.out.trans (HB4.out.mono HB.out.size))⟩
      case measure => simp [intOf]; omega
    · go_wp2_with fail
      go_ret
      have hX' : X = l ++ putI op a b := by
        rw [HX.out, HE.out, List.take_of_length_le (by rw [hLn.out]; omega), List.append_assoc]
      refine ⟨_, rfl, ?_, (HB2.out.trans (HB.out.mono HB2.out.size)).mono hB⟩
      rw [← hX']
      exact HO.out
/-- Changes but for one block, one behind the other. -/
theorem grown_trans {w w1 w2 : World} {r : Option Nat} (h : w.grownBy w1 r) (g : w1.grownBy w2 r) : w.grownBy w2 r :=
  ⟨g.os.trans h.os, g.tape.trans h.tape, g.output.trans h.output, Nat.le_trans h.size g.size, fun k hk hn => (g.block k (Nat.lt_of_lt_of_le hk h.size) hn).trans (h.block k hk hn)⟩
theorem grown_set {w w1 : World} {r : Option Nat} (h : w.grownBy w1 r) {a : Addr} (ha : w.heap.size ≤ a.block) (v : Value) : w.grownBy (w1.setCell a v) r :=
  ⟨h.os, h.tape, h.output, by simpa using h.size, fun k hk hn => (Below.heap_setCell w1 a v k (by omega)).trans (h.block k hk hn)⟩
theorem grown_alloc {w w1 : World} {r : Option Nat} (h : w.grownBy w1 r) (o : Obj) : w.grownBy (w1.alloc o) r := grown_trans h (World.grownBy_alloc _ _ _)
theorem grown_other {w w1 w2 : World} {r r' : Option Nat} (h : w.grownBy w1 r) (g : w1.grownBy w2 r') (hr : ∀ k, r' = some k → w.heap.size ≤ k) : w.grownBy w2 r :=
  ⟨g.os.trans h.os, g.tape.trans h.tape, g.output.trans h.output, Nat.le_trans h.size g.size, fun k hk hn => (g.block k (Nat.lt_of_lt_of_le hk h.size) (fun e => by have := hr k e.symm; omega)).trans (h.block k hk hn)⟩
theorem grown_below {w w1 : World} {N B : Nat} (h : w.grownBy w1 (some N)) (hB : B ≤ N) (hN : N < w.heap.size) : Below B w w1 :=
  (Below.refl B w).grown h (by omega) (fun k hk => by injection hk with hk; omega)
theorem side_grown {k : IntKind} {n : Int} {rest : List Int} {bad : Bool} {N B : Nat} {w w1 : World} {e : Ending} (h : GetOut k N B n rest bad w e w1 ∧ Side N w w1) : w.grownBy w1 (some N) :=
  ⟨h.1.2.2.os, h.1.2.2.tape, h.1.2.2.output, by rw [h.2.1]; exact Nat.le_refl _, fun b hb hn => h.2.2 b (fun e => hn (by rw [e]))⟩

theorem below_grown {w w1 : World} (h : Below w.heap.size w w1) (r : Option Nat) : w.grownBy w1 r := ⟨h.os, h.tape, h.output, h.size, fun k hk _ => h.block k hk⟩
theorem grown_drewN {w w1 : World} {r : Option Nat} (h : w.grownBy w1 r) (n : Nat) : w.grownBy (w1.drewN n) r := ⟨h.os, h.tape, h.output, h.size, h.block⟩
/-- What a reader's next instruction is; nothing is said of it where the reader is bad. -/
def IGetOut (N B : Nat) (rest : List Int) (bad : Bool) (w : World) (e : Ending) (w' : World) : Prop :=
  ∃ op a b, e = .returned (insV op a b) ∧ Rd w' N (getI rest bad).2.1 (getI rest bad).2.2 ∧ Below B w w' ∧ ((getI rest bad).2.2 = false → (getI rest bad).1 = (op, a, b))

/-- The numbers that a reader answers behind the instruction's own, k of them. -/
def stI (rest : List Int) (bad : Bool) : Nat → (Int × Int) × List Int × Bool
  | 0 => ((0, 0), rest, bad)
  | 1 => (((getR rest bad 255).1, 0), (getR rest bad 255).2)
  | _ => (((getR rest bad 255).1, (getR (getR rest bad 255).2.1 (getR rest bad 255).2.2 255).1), (getR (getR rest bad 255).2.1 (getR rest bad 255).2.2 255).2)
theorem getI_st {rest r0 : List Int} {bad b0 : Bool} {op : Int} {n : Nat} (hg : getR rest bad 34 = (op, r0, b0)) (h : (argsI op).toNat = n) :
    getI rest bad = ((op, (stI r0 b0 n).1.1, (stI r0 b0 n).1.2), (stI r0 b0 n).2) := by
  have hr := args_range op
  unfold getI
  rw [hg]
  dsimp only
  rcases (show argsI op ≤ 0 ∨ argsI op = 1 ∨ argsI op = 2 by omega) with g | g | g
  · obtain rfl : n = 0 := by omega
    have c1 : ¬ 0 < argsI op := by omega
    have c2 : ¬ 1 < argsI op := by omega
    simp only [if_neg c1, if_neg c2, stI]
  · obtain rfl : n = 1 := by omega
    have c1 : 0 < argsI op := by omega
    have c2 : ¬ 1 < argsI op := by omega
    simp only [if_pos c1, if_neg c2, stI]
  · obtain rfl : n = 2 := by omega
    have c1 : 0 < argsI op := by omega
    have c2 : 1 < argsI op := by omega
    simp only [if_pos c1, if_pos c2, stI]
theorem st_one {rest rest' : List Int} {bad bad' : Bool} {x0 y0 x : Int} {r1 : List Int} {b1 : Bool} (h : stI r1 b1 0 = ((x0, y0), rest, bad)) (g : getR rest bad 255 = (x, rest', bad')) : y0 = 0 ∧ stI r1 b1 1 = ((x, 0), rest', bad') := by
  simp only [stI, Prod.mk.injEq] at h
  obtain ⟨⟨rfl, rfl⟩, rfl, rfl⟩ := h
  simp [stI, g]
theorem st_two {rest rest' : List Int} {bad bad' : Bool} {x0 y0 x : Int} {r1 : List Int} {b1 : Bool} (h : stI r1 b1 1 = ((x0, y0), rest, bad)) (g : getR rest bad 255 = (x, rest', bad')) : stI r1 b1 2 = ((x0, x), rest', bad') := by
  simp only [stI, Prod.mk.injEq] at h
  obtain ⟨⟨rfl, _⟩, h⟩ := h
  unfold stI
  rw [h]
  dsimp only
  rw [g]
  rfl
theorem getR_rest {rest : List Int} {bad : Bool} {most : Int} (hl : rest.length ≤ 1048576) (hr : ∀ b ∈ rest, 0 ≤ b ∧ b ≤ 255) :
    ∃ n rest' bad', getR rest bad most = (n, rest', bad') ∧ rest'.length ≤ 1048576 ∧ ∀ b ∈ rest', 0 ≤ b ∧ b ≤ 255 := by
  unfold getR
  split
  · exact ⟨_, _, _, rfl, by simp; omega, fun b hb => hr b (List.mem_of_mem_drop hb)⟩
  · exact ⟨_, _, _, rfl, hl, hr⟩
theorem Rd.keep_to {w w' : World} {N C : Nat} {rest : List Int} {bad : Bool} (h : Rd w N rest bad) (hb : Below C w w') (hN : N < C) : Rd w' N rest bad := by
  obtain ⟨A, cap, xs, hh, hl, h1, h2, h3⟩ := h
  exact ⟨A, cap, xs, by rw [hb.block N hN]; exact hh, hl.below_to hb (by omega), h1, h2, h3⟩
theorem get_side {w : World} {N B : Nat} {rest rest' : List Int} {bad bad' : Bool} {n most : Int} (HR : Hid (Rd w N rest bad)) (HB : Hid (B ≤ N)) (HL : Hid (rest.length ≤ 1048576)) (HG : Hid (∀ b ∈ rest, 0 ≤ b ∧ b ≤ 255)) (G : Hid (getR rest bad most = (n, rest', bad'))) :
    Calls Try.prog 83 #[.pointer (some ⟨N, 0, none⟩), .int .i64 most] w fun e w' => GetOut .i64 N B n rest' bad' w e w' ∧ Side N w w' := by
  have h := bget_side N B rest bad most w HL.out HG.out HB.out HR.out
  rw [G.out] at h
  exact h

/-- The block of a struct of three. -/
abbrev blk3 (x y z : Int) : Obj := .cells #[.int .i64 x, .int .i64 y, .int .i64 z] 47 (0, 0)
/-- The block of a list of two. -/
abbrev blk2 (x y : Int) : Obj := .cells #[.int .i64 x, .int .i64 y] 3 (0, 0)

theorem blk3_cells {w : World} {b : Nat} {x y z : Int} (h : w.heap[b]? = some (blk3 x y z)) : w.cell? ⟨b, 0, none⟩ = some (.int .i64 x) ∧ w.cell? ⟨b, 1, none⟩ = some (.int .i64 y) ∧ w.cell? ⟨b, 2, none⟩ = some (.int .i64 z) := by
  refine ⟨?_, ?_, ?_⟩ <;> simp [World.cell?, h]
theorem free_three {w : World} {b i : Nat} {x y z : Int} (h : w.heap[b]? = some (blk3 x y z)) : w.frozen? ⟨b, i, none⟩ = false := by simp [World.frozen?, h]
/-- What stands while the numbers are read: the result's block, the list's, the reader. -/
def GSt (w wr : World) (N B M : Nat) (x y : Int) (rest : List Int) (bad : Bool) : Prop :=
  wr.heap[w.heap.size]? = some (blk3 0 0 0) ∧ wr.heap[M]? = some (blk2 x y) ∧ Rd wr N rest bad ∧ w.grownBy wr (some N) ∧ N < w.heap.size ∧ w.heap.size < M ∧ B ≤ N
theorem get_parts {w w1 w2 : World} {N B : Nat} {r0 : List Int} {b0 : Bool} (hN : N < w.heap.size) (hBN : B ≤ N) (hr : Rd w1 N r0 b0) (hb1 : Below B (w.alloc (blk3 0 0 0)) w1) (hs : Side N (w.alloc (blk3 0 0 0)) w1)
    (hb2 : Below (w1.alloc (blk2 0 0)).heap.size (w1.alloc (blk2 0 0)) w2) : GSt w w2 N B w1.heap.size 0 0 r0 b0 := by
  have z0 : (w.alloc (blk3 0 0 0)).heap.size = w.heap.size + 1 := by simp
  have z1 : (w1.alloc (blk2 0 0)).heap.size = w1.heap.size + 1 := by simp
  have z2 := hs.1
  have h12 : Below w1.heap.size w1 w2 := ((Below.refl _ _).alloc (Nat.le_refl _) _).trans (hb2.mono (by omega))
  refine ⟨?_, ?_, hr.keep h12, ?_, hN, by omega, hBN⟩
  · rw [h12.block _ (by omega), hs.2 _ (by omega)]
    exact heap_alloc_new _ _
  · rw [hb2.block _ (by omega)]
    exact heap_alloc_new _ _
  · exact grown_trans (grown_trans (World.grownBy_alloc _ _ _) ⟨hb1.os, hb1.tape, hb1.output, by omega, fun b hb hn => hs.2 b (fun e => hn (by rw [e]))⟩) (below_grown h12 _)
theorem get_step0 {w wr w3 : World} {N B M : Nat} {x y x' : Int} {rest rest' : List Int} {bad bad' : Bool} (h : GSt w wr N B M x y rest bad) (hr : Rd w3 N rest' bad') (hb : Below B wr w3) (hs : Side N wr w3) :
    w3.heap[M]? = some (blk2 x y) ∧ GSt w (w3.setCell ⟨M, 0, none⟩ (.int .i64 x')) N B M x' y rest' bad' := by
  obtain ⟨h1, h2, h3, h4, h5, h6, h7⟩ := h
  have hm : w3.heap[M]? = some (blk2 x y) := by rw [hs.2 M (by omega)]; exact h2
  refine ⟨hm, ?_, two_set0 hm, hr.keep_to ((Below.refl M w3).setCell (Nat.le_refl _) _) (by omega), grown_set (grown_trans h4 ⟨hb.os, hb.tape, hb.output, hb.size, fun b hb' hn => hs.2 b (fun e => hn (by rw [e]))⟩) (by show w.heap.size ≤ M; omega) _, h5, h6, h7⟩
  rw [((Side.refl M w3).setCell 0 _).2 _ (by omega), hs.2 _ (by omega)]
  exact h1
theorem get_step1 {w wr w3 : World} {N B M : Nat} {x y y' : Int} {rest rest' : List Int} {bad bad' : Bool} (h : GSt w wr N B M x y rest bad) (hr : Rd w3 N rest' bad') (hb : Below B wr w3) (hs : Side N wr w3) :
    w3.heap[M]? = some (blk2 x y) ∧ GSt w (w3.setCell ⟨M, 1, none⟩ (.int .i64 y')) N B M x y' rest' bad' := by
  obtain ⟨h1, h2, h3, h4, h5, h6, h7⟩ := h
  have hm : w3.heap[M]? = some (blk2 x y) := by rw [hs.2 M (by omega)]; exact h2
  refine ⟨hm, ?_, two_set1 hm, hr.keep_to ((Below.refl M w3).setCell (Nat.le_refl _) _) (by omega), grown_set (grown_trans h4 ⟨hb.os, hb.tape, hb.output, hb.size, fun b hb' hn => hs.2 b (fun e => hn (by rw [e]))⟩) (by show w.heap.size ≤ M; omega) _, h5, h6, h7⟩
  rw [((Side.refl M w3).setCell 1 _).2 _ (by omega), hs.2 _ (by omega)]
  exact h1

set_option maxHeartbeats 800000 in
theorem iget_far (N B : Nat) (rest : List Int) (bad : Bool) (w : World) (hl : rest.length ≤ 1048576) (hr : ∀ b ∈ rest, 0 ≤ b ∧ b ≤ 255) (hBN : B ≤ N) (h : Rd w N rest bad) :
    Calls Try.prog 94 #[.pointer (some ⟨N, 0, none⟩)] w fun e w' => IGetOut N B rest bad w e w' ∧ w.grownBy w' (some N) := by
  have hlt := h.lt
  obtain ⟨op, r0, b0, hg, hl0, hr0⟩ := getR_rest (bad := bad) (most := 34) hl hr
  obtain ⟨n, hn⟩ : ∃ n, (argsI op).toNat = n := ⟨_, rfl⟩
  have hn2 : n ≤ 2 := by have := args_range op; omega
  have HI := Lib.hid (getI_st hg hn)
  have HN := Lib.hid hn
  have HG := Lib.hid hg
  have HB := Lib.hid hBN
  have HL := Lib.hid hl
  have HR := Lib.hid hr
  have HL0 := Lib.hid hl0
  have HR0 := Lib.hid hr0
  have HRd := Lib.hid (h.keep ((Below.refl _ _).alloc (Nat.le_refl _) (.cells #[.int .i64 0, .int .i64 0, .int .i64 0] 47)))
  clear hn hg hl hr hl0 hr0 h hBN
  go_enter Try.func94, Try.ntmps94
  go_wp2_with (first
    | (go_at_call 83; (with_reducible refine (get_side HRd HB HL HR HG).mono ?_); rintro e w1 ⟨⟨rfl, hrd, hb⟩, hs⟩; have HRd1 := Lib.hid hrd; have HB1 := Lib.hid hb; have HS1 := Lib.hid hs; clear hrd hb hs)
    | (go_at_call 89; (with_reducible refine (cut_has _ _ _ _ HN.out).mono ?_); rintro e w2 ⟨v2, rfl, hb⟩; have HG2 := Lib.hid (get_parts hlt HB.out HRd1.out HB1.out HS1.out hb); clear hb HRd1 HB1 HS1))
  go_loopw [19] (fun i wr => ∃ (k : Nat) (x y : Int) (rest' : List Int) (bad' : Bool), i = .int .i64 k ∧ k ≤ n ∧ Hid (GSt w wr N B w1.heap.size x y rest' bad') ∧ Hid (rest'.length ≤ 1048576) ∧ Hid (∀ b ∈ rest', 0 ≤ b ∧ b ≤ 255) ∧ Hid (stI r0 b0 k = ((x, y), rest', bad'))) (fun i _ => n - (intOf i).toNat)
  case atStart => exact ⟨0, 0, 0, r0, b0, rfl, by omega, HG2, HL0, HR0, Lib.hid rfl⟩
  case round =>
    obtain ⟨k, x, y, r2, b2, rfl, hk, HS, HL2, HR2, HT⟩ := hrel
    obtain ⟨x', r3, b3, hg3, hl3, hr3⟩ := getR_rest (bad := b2) (most := 255) HL2.out HR2.out
    have HG3 := Lib.hid hg3
    have HL3 := Lib.hid hl3
    have HR3 := Lib.hid hr3
    have HRd2 := Lib.hid HS.out.2.2.1
    clear hg3 hl3 hr3
    by_cases hlt' : k < n
    · rcases (show k = 0 ∨ k = 1 by omega) with rfl | rfl
      · go_wp2_with (go_at_call 83; (with_reducible refine (get_side HRd2 HB HL2 HR2 HG3).mono ?_); rintro e w3 ⟨⟨rfl, hrd, hb⟩, hs⟩; obtain ⟨hm, hg⟩ := get_step0 (x' := x') HS.out hrd hb hs; have f0 : w3.frozen? ⟨w1.heap.size, 0, none⟩ = false := free_two hm; have c0 := cell_two0 hm; have HS3 := Lib.hid hg; clear hm hg hrd hb hs)
        go_roundw
        case rel => exact ⟨1, x', y, r3, b3, rfl, by omega, HS3, HL3, HR3, Lib.hid (by obtain ⟨e1, e2⟩ := st_one HT.out HG3.out; rw [e1]; exact e2)⟩
        case measure => simp [intOf]; omega
      · go_wp2_with (go_at_call 83; (with_reducible refine (get_side HRd2 HB HL2 HR2 HG3).mono ?_); rintro e w3 ⟨⟨rfl, hrd, hb⟩, hs⟩; obtain ⟨hm, hg⟩ := get_step1 (y' := x') HS.out hrd hb hs; have f1 : w3.frozen? ⟨w1.heap.size, 1, none⟩ = false := free_two hm; have c1 := cell_two1 hm; have HS3 := Lib.hid hg; clear hm hg hrd hb hs)
        go_roundw
        case rel => exact ⟨2, x, x', r3, b3, rfl, by omega, HS3, HL3, HR3, Lib.hid (st_two HT.out HG3.out)⟩
        case measure => simp [intOf]; omega
    · obtain rfl : k = n := by omega
      have c0 := cell_two0 HS.out.2.1
      have c1 := cell_two1 HS.out.2.1
      have r0' := blk3_cells HS.out.1
      have f0 : wr.frozen? ⟨w.heap.size, 0, none⟩ = false := free_three HS.out.1
      have f1 : wr.frozen? ⟨w.heap.size, 1, none⟩ = false := free_three HS.out.1
      have f2 : wr.frozen? ⟨w.heap.size, 2, none⟩ = false := free_three HS.out.1
      obtain ⟨q0, q1, q2⟩ := r0'
      go_wp2_with fail
      go_region
      go_wp2
      refine bodyPost_ret (v := insV op x y) (by simp [results, Try.results94, go_sem, q0, q1, q2]) rfl ⟨⟨op, x, y, rfl, ?_, ?_, ?_⟩, grown_drewN (grown_set (grown_set (grown_set HS.out.2.2.2.1 (Nat.le_refl _) _) (Nat.le_refl _) _) (Nat.le_refl _) _) 1⟩
      · rw [HI.out, HT.out]
        exact HS.out.2.2.1.keep_to (below_drewN' ((((Below.refl w.heap.size wr).setCell (Nat.le_refl _) _).setCell (Nat.le_refl _) _).setCell (Nat.le_refl _) _) 1) hlt
      · have hBw : B ≤ w.heap.size := Nat.le_trans HB.out (Nat.le_of_lt hlt)
        exact below_drewN' ((((grown_below HS.out.2.2.2.1 HB.out hlt).setCell hBw _).setCell hBw _).setCell hBw _) 1
      · intro _
        rw [HI.out, HT.out]
theorem iget_any (N B : Nat) (rest : List Int) (bad : Bool) (w : World) (hl : rest.length ≤ 1048576) (hr : ∀ b ∈ rest, 0 ≤ b ∧ b ≤ 255) (hBN : B ≤ N) (h : Rd w N rest bad) :
    Calls Try.prog 94 #[.pointer (some ⟨N, 0, none⟩)] w (IGetOut N B rest bad w) := (iget_far N B rest bad w hl hr hBN h).mono fun _ _ h => h.1
end Go.Proofs.Ytikljohgdgibnaa
