/-
  Who calls whom, and who comes to whom, as plain data. Plain definitions and lemmas; no conditions.
  slices.Sort at []int, by the library's contract: its closure's bodies and types at this program. Plain comparisons; no conditions.
-/
import Derived.Test.YtjjgpcmdoodjnaaM26
import Derived.Test.YtjjgpcmdoodjnaaM02
import Derived.Shelf.Sort.Plain
import Derived.Shelf.Slices.In.SortNone
import Derived.Test.YtjjgpcmdoodjnaaProg
namespace Go.Proofs.Ytjjgpcmdoodjnaa
set_option maxRecDepth 100000
set_option linter.unusedVariables false
set_option linter.unusedSimpArgs false
open Go.ChangeShapes Go.WideShapes Go.ChangeAt Go.RowKit
set_option linter.unusedVariables false

/-- Is there a way, all that lies between below n? -/
def wayB (EL : List (List Int)) : Nat → Nat → Nat → Bool
  | 0, i, j => decide ((j : Int) ∈ EL[i]?.getD [])
  | n + 1, i, j => wayB EL n i j || (wayB EL n i n && wayB EL n n j)
theorem wayB_iff {EL : List (List Int)} {n i j : Nat} : wayB EL n i j = true ↔ Way EL n i j := by
  induction n generalizing i j with
  | zero =>
    unfold wayB
    rw [decide_eq_true_eq]
    constructor
    · exact fun h => .one h
    · intro h
      cases h with
      | one e => exact e
      | snoc _ hp _ => omega
  | succ n ih =>
    unfold wayB
    rw [Bool.or_eq_true, Bool.and_eq_true, ih, ih, ih]
    constructor
    · rintro (h | ⟨h1, h2⟩)
      · exact h.more (by omega)
      · exact (h1.more (by omega)).join (by omega) (h2.more (by omega))
    · exact Way.split
/-- The methods that one calls. -/
def callsOf (m : Img) (f : Int) : List Int := if 0 ≤ f ∧ f < m.methods.length then rowTo m (mthN m f) m.methods.length else []
/-- The methods that one comes to, itself among them. -/
def reachB (m : Img) (f g : Nat) : Bool := decide (g = f) || wayB (edgesOf m) m.methods.length f g
def reachOf (m : Img) (f : Int) : List Int := if 0 ≤ f ∧ f < m.methods.length then pickTo (reachB m f.toNat) m.methods.length else []
theorem edges_len (m : Img) : (edgesOf m).length = m.methods.length := List.length_map _
theorem edges_at {m : Img} {k : Nat} (hk : k < m.methods.length) : (edgesOf m)[k]? = some (callsOf m (k : Int)) := by
  unfold edgesOf callsOf mthN
  rw [List.getElem?_map, if_pos ⟨by omega, by omega⟩, Int.toNat_natCast, List.getElem?_eq_getElem hk]
  rfl
theorem calls_no {m : Img} {f : Int} (h : ¬ (0 ≤ f ∧ f < m.methods.length)) : callsOf m f = [] := by unfold callsOf; rw [if_neg h]
theorem reach_no {m : Img} {f : Int} (h : ¬ (0 ≤ f ∧ f < m.methods.length)) : reachOf m f = [] := by unfold reachOf; rw [if_neg h]
theorem reach_in {m : Img} {f : Nat} (h : f < m.methods.length) : reachOf m (f : Int) = pickTo (reachB m f) m.methods.length := by unfold reachOf; rw [if_pos ⟨by omega, by omega⟩, Int.toNat_natCast]
theorem reach_mem {m : Img} {f : Nat} {x : Int} (h : f < m.methods.length) : x ∈ reachOf m (f : Int) ↔ ∃ g : Nat, x = (g : Int) ∧ g < m.methods.length ∧ (g = f ∨ Way (edgesOf m) m.methods.length f g) := by
  rw [reach_in h, mem_pick]
  unfold reachB
  simp only [Bool.or_eq_true, decide_eq_true_eq, wayB_iff]
theorem reach_self {m : Img} {f : Nat} (h : f < m.methods.length) : (f : Int) ∈ reachOf m (f : Int) := (reach_mem h).mpr ⟨f, rfl, h, .inl rfl⟩
/-- What one comes to comes to no more. -/
theorem reach_closed {m : Img} {f : Nat} {x y : Int} (h : f < m.methods.length) (hx : x ∈ reachOf m (f : Int)) (hy : y ∈ reachOf m x) : y ∈ reachOf m (f : Int) := by
  obtain ⟨g, rfl, hg, hw⟩ := (reach_mem h).mp hx
  obtain ⟨k, rfl, hk, hv⟩ := (reach_mem hg).mp hy
  refine (reach_mem h).mpr ⟨k, rfl, hk, ?_⟩
  rcases hw with rfl | hw
  · exact hv
  · rcases hv with rfl | hv
    · exact .inr hw
    · exact .inr (hw.join hg hv)
theorem reach_len (m : Img) (f : Int) : (reachOf m f).length ≤ m.methods.length := by
  unfold reachOf
  split
  · exact pickTo_len _ _
  · simp
theorem calls_len (m : Img) (f : Int) : (callsOf m f).length ≤ m.methods.length := by
  unfold callsOf
  split
  · exact rowTo_len _ _ _
  · simp
/-- Numbers, wherever they lie. -/
def IntsOut (L : List Int) (w : World) (e : Ending) (w' : World) : Prop := ∃ A c, e = .returned (.slice A L.length c) ∧ SlcIs IntAt 1 w' w'.heap.size A c L ∧ Below w.heap.size w w'
end Go.Proofs.Ytjjgpcmdoodjnaa
namespace Go.Proofs.Ytjjgpcmdoodjnaa
set_option maxRecDepth 100000
set_option linter.unusedVariables false
set_option linter.unusedSimpArgs false
open Go.Shelf

def sort_ren : Go.Shelf.Ren := ⟨fun | 189 => 25 | 125 => 41 | 257 => 40 | 128 => 59 | 129 => 60 | 294 => 50 | 295 => 51 | 296 => 52 | 297 => 53 | 298 => 54 | 299 => 55 | 216 => 56 | 300 => 57 | 301 => 58 | 328 => 63 | 329 => 64 | 330 => 65 | 331 => 66 | 332 => 67 | 215 => 68 | 343 => 71 | n => n, fun | 28 => 26 | 3 => 3 | 46 => 76 | 0 => 0 | 51 => 92 | 53 => 94 | 4 => 4 | 183 => 86 | 182 => 85 | 131 => 72 | 5 => 5 | 9 => 9 | 218 => 97 | 222 => 101 | 228 => 103 | 229 => 104 | n => n, fun | n => n⟩
theorem sort_lays : Go.Proofs.Lays.n189 Try.prog sort_ren := {
  mixed := by kernel_rfl
  f125 := Try.func41.trans (congrArg some (by kernel_rfl))
  f128 := Try.func59.trans (congrArg some (by kernel_rfl))
  f129 := Try.func60.trans (congrArg some (by kernel_rfl))
  f189 := Try.func25.trans (congrArg some (by kernel_rfl))
  f215 := Try.func68.trans (congrArg some (by kernel_rfl))
  f216 := Try.func56.trans (congrArg some (by kernel_rfl))
  f257 := Try.func40.trans (congrArg some (by kernel_rfl))
  f294 := Try.func50.trans (congrArg some (by kernel_rfl))
  f295 := Try.func51.trans (congrArg some (by kernel_rfl))
  f296 := Try.func52.trans (congrArg some (by kernel_rfl))
  f297 := Try.func53.trans (congrArg some (by kernel_rfl))
  f298 := Try.func54.trans (congrArg some (by kernel_rfl))
  f299 := Try.func55.trans (congrArg some (by kernel_rfl))
  f300 := Try.func57.trans (congrArg some (by kernel_rfl))
  f301 := Try.func58.trans (congrArg some (by kernel_rfl))
  f328 := Try.func63.trans (congrArg some (by kernel_rfl))
  f329 := Try.func64.trans (congrArg some (by kernel_rfl))
  f330 := Try.func65.trans (congrArg some (by kernel_rfl))
  f331 := Try.func66.trans (congrArg some (by kernel_rfl))
  f332 := Try.func67.trans (congrArg some (by kernel_rfl))
  f343 := Try.func71.trans (congrArg some (by kernel_rfl))
  t0 := Try.underlying0
  a0 := Try.isAgg0
  z0 := Try.sizeOf0
  v0 := Try.zeroValue0
  t3 := Try.underlying3
  a3 := Try.isAgg3
  z3 := Try.sizeOf3
  v3 := Try.zeroValue3
  t4 := Try.underlying4
  a4 := Try.isAgg4
  z4 := Try.sizeOf4
  v4 := Try.zeroValue4
  t5 := Try.underlying5
  a5 := Try.isAgg5
  z5 := Try.sizeOf5
  v5 := Try.zeroValue5
  t9 := Try.underlying9
  a9 := Try.isAgg9
  z9 := Try.sizeOf9
  v9 := Try.zeroValue9
  t28 := Try.underlying26
  a28 := Try.isAgg26
  z28 := Try.sizeOf26
  v28 := Try.zeroValue26
  t46 := Try.underlying76
  a46 := Try.isAgg76
  z46 := Try.sizeOf76
  v46 := Try.zeroValue76
  t51 := Try.underlying92
  a51 := Try.isAgg92
  z51 := Try.sizeOf92
  v51 := Try.zeroValue92
  t53 := Try.underlying94
  a53 := Try.isAgg94
  z53 := Try.sizeOf94
  v53 := Try.zeroValue94
  t131 := Try.underlying72
  a131 := Try.isAgg72
  z131 := Try.sizeOf72
  v131 := Try.zeroValue72
  t182 := Try.underlying85
  a182 := Try.isAgg85
  z182 := Try.sizeOf85
  v182 := Try.zeroValue85
  t183 := Try.underlying86
  a183 := Try.isAgg86
  z183 := Try.sizeOf86
  v183 := Try.zeroValue86
  t218 := Try.underlying97
  a218 := Try.isAgg97
  z218 := Try.sizeOf97
  v218 := Try.zeroValue97
  t222 := Try.underlying101
  a222 := Try.isAgg101
  z222 := Try.sizeOf101
  v222 := Try.zeroValue101
  t228 := Try.underlying103
  a228 := Try.isAgg103
  z228 := Try.sizeOf103
  v228 := Try.zeroValue103
  t229 := Try.underlying104
  a229 := Try.isAgg104
  z229 := Try.sizeOf104
  v229 := Try.zeroValue104 }
end Go.Proofs.Ytjjgpcmdoodjnaa
