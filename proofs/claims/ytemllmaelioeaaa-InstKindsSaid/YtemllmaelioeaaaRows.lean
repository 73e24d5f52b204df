/-
  No cell of these rows narrows 'for every input' (looked for: loops, veiled, ifaces, maps, wideKeys, modest, calm, conditions, laid).
  DERIVED. THE GIVEN ROWS OF THIS SEAT. 4 by the template 'for every input the law returns true; each argument reads behind the call as it read before'; 0 by the template 'total and deterministic' (their statements: YtemllmaelioeaaaTotals.lean).
  GIVEN WITH THE SEED: the statements are not yours to turn. If you find one false, say at which input.
  Laid BY PROGRAM, IN A SANDBOX (cutbox-rows.mjs): the forced cells as the released guide's own fill.sh prints them over the translation f67593efba719893… (all of the seat's roots in one cut). By AI agents, Wed Nov 11 2026. No macro, syntax, notation, axiom, sorry.
-/
import Derived.Test.YtemllmaelioeaaaChecked
import GoSem.Claim
import GoSem.ClaimJoined
import GoSem.ClaimMapViews
import Derived.JoinedTies
import Derived.KernelRfl
namespace Go.Proofs.Ytemllmaelioeaaa
/- THE CELL 'sum', in the pinned program and in every row, IS THE sha256 OF THE DUMP (.gsa) THAT YtemllmaelioeaaaProg.lean LOADS. Nothing in Lean hashes anything: it is a label: what it is worth is what the hold of that sum in a sandbox is worth. -/
noncomputable def Try.pinned : Pinned := { name := "ytemllmaelioeaaa", sum := "f67593efba71989367bbe29220165648934deb7969bd7559b5e19d1e25fad460", checked := Try.checked }
namespace Rows
def none {H : Type} : Left H := { results := [], args := [] }

/-- 'plimsolllaw04.InstKinds': WHATEVER THE INPUT: true; the input reads as it did. -/
def instKindsSpec : ChangeSpec := { name := "instKinds", fn := fun _ => fun
  | [d] => { results := [.lit (.bool true)], args := [d] }
  | _ => none }
def instKindsRow : OpenClaim := { program := "ytemllmaelioeaaa", sum := "f67593efba71989367bbe29220165648934deb7969bd7559b5e19d1e25fad460", func := "plimsoll/plimsolllaw04.InstKinds", spec := "instKinds", apart := false }
def InstKindsSaid : Prop := instKindsRow.holds Try.pinned (OpenSpec.ofChange instKindsSpec)

/-- ITS FALSE NEIGHBOUR: 'it returns false'. Refute it at one input. -/
def instKindsWrong : ChangeSpec := { name := "instKinds", fn := fun _ => fun
  | [d] => { results := [.lit (.bool false)], args := [d] }
  | _ => none }
def InstKindsWrongFalsely : Prop := instKindsRow.holds Try.pinned (OpenSpec.ofChange instKindsWrong)

/-- 'plimsolllaw04.InstPuts': WHATEVER THE INPUT: true; the input reads as it did. -/
def instPutsSpec : ChangeSpec := { name := "instPuts", fn := fun _ => fun
  | [d1, d2] => { results := [.lit (.bool true)], args := [d1, d2] }
  | _ => none }
def instPutsRow : OpenClaim := { program := "ytemllmaelioeaaa", sum := "f67593efba71989367bbe29220165648934deb7969bd7559b5e19d1e25fad460", func := "plimsoll/plimsolllaw04.InstPuts", spec := "instPuts", apart := false }
def InstPutsSaid : Prop := instPutsRow.holds Try.pinned (OpenSpec.ofChange instPutsSpec)

/-- ITS FALSE NEIGHBOUR: 'it returns false'. Refute it at one input. -/
def instPutsWrong : ChangeSpec := { name := "instPuts", fn := fun _ => fun
  | [d1, d2] => { results := [.lit (.bool false)], args := [d1, d2] }
  | _ => none }
def InstPutsWrongFalsely : Prop := instPutsRow.holds Try.pinned (OpenSpec.ofChange instPutsWrong)

/-- 'plimsolllaw04.InstGets': WHATEVER THE INPUT: true; the input reads as it did. -/
def instGetsSpec : ChangeSpec := { name := "instGets", fn := fun _ => fun
  | [d] => { results := [.lit (.bool true)], args := [d] }
  | _ => none }
def instGetsRow : OpenClaim := { program := "ytemllmaelioeaaa", sum := "f67593efba71989367bbe29220165648934deb7969bd7559b5e19d1e25fad460", func := "plimsoll/plimsolllaw04.InstGets", spec := "instGets", apart := false }
def InstGetsSaid : Prop := instGetsRow.holds Try.pinned (OpenSpec.ofChange instGetsSpec)

/-- ITS FALSE NEIGHBOUR: 'it returns false'. Refute it at one input. -/
def instGetsWrong : ChangeSpec := { name := "instGets", fn := fun _ => fun
  | [d] => { results := [.lit (.bool false)], args := [d] }
  | _ => none }
def InstGetsWrongFalsely : Prop := instGetsRow.holds Try.pinned (OpenSpec.ofChange instGetsWrong)

/-- 'plimsolllaw04.InstRow': WHATEVER THE INPUT: true; the input reads as it did. -/
def instRowSpec : ChangeSpec := { name := "instRow", fn := fun _ => fun
  | [d] => { results := [.lit (.bool true)], args := [d] }
  | _ => none }
def instRowRow : OpenClaim := { program := "ytemllmaelioeaaa", sum := "f67593efba71989367bbe29220165648934deb7969bd7559b5e19d1e25fad460", func := "plimsoll/plimsolllaw04.InstRow", spec := "instRow", apart := false }
def InstRowSaid : Prop := instRowRow.holds Try.pinned (OpenSpec.ofChange instRowSpec)

/-- ITS FALSE NEIGHBOUR: 'it returns false'. Refute it at one input. -/
def instRowWrong : ChangeSpec := { name := "instRow", fn := fun _ => fun
  | [d] => { results := [.lit (.bool false)], args := [d] }
  | _ => none }
def InstRowWrongFalsely : Prop := instRowRow.holds Try.pinned (OpenSpec.ofChange instRowWrong)

/- THE SECOND FORM. 'bulk': how many values and letters a reading holds, each counted each time it is reached (what is shared counts as often as it is met; a slice's spare places count too). A statement '..UptoSaid' is the law's where the arguments, and the package variables that the reading takes, are together of bulk at most 1048576: NARROWER than '..Said'. Prove '..Said' where nothing that the law and all that it calls make is longer than what came in: it says more and counts as full. Else prove '..UptoSaid'. A law counts once. -/
mutual
def uptoBulk {H : Type} : DataW H → Nat
  | .lit (.string bytes) => bytes.length + 1
  | .lit _ => 1
  | .nil => 1
  | .ptr d => uptoBulk d + 1
  | .slice elems spare => uptoBulkAll elems + uptoBulkAll spare + 1
  | .agg parts => uptoBulkAll parts + 1
  | .iface _ d => uptoBulk d + 1
  | .map entries => uptoBulkEntries entries + 1
  | .held _ => 1
def uptoBulkAll {H : Type} : List (DataW H) → Nat
  | [] => 0
  | d :: r => uptoBulk d + uptoBulkAll r
def uptoBulkEntries {H : Type} : List (Lit × DataW H) → Nat
  | [] => 0
  | x :: r => uptoBulkEntry x + uptoBulkEntries r
def uptoBulkEntry {H : Type} : Lit × DataW H → Nat
  | (.string bytes, d) => bytes.length + uptoBulk d + 1
  | (_, d) => uptoBulk d + 1
 end
def uptoSmall : (H : Type) → List (DataW H) → Bool := fun _ ds => decide (uptoBulkAll ds ≤ 1048576)
def OpenSpec.upto (s : _root_.Go.ChangeSpec) : _root_.Go.OpenSpec := { _root_.Go.OpenSpec.ofChange s with cond := some uptoSmall }

/-- 'plimsolllaw04.InstKinds', WHERE WHAT IT READS IS OF BULK AT MOST 1048576: true; the input reads as it did. -/
def instKindsUptoRow : OpenClaim := { program := "ytemllmaelioeaaa", sum := "f67593efba71989367bbe29220165648934deb7969bd7559b5e19d1e25fad460", func := "plimsoll/plimsolllaw04.InstKinds", spec := "instKinds", apart := false, narrowed := true }
def InstKindsUptoSaid : Prop := instKindsUptoRow.holds Try.pinned (OpenSpec.upto instKindsSpec)

/-- 'plimsolllaw04.InstPuts', WHERE WHAT IT READS IS OF BULK AT MOST 1048576: true; the input reads as it did. -/
def instPutsUptoRow : OpenClaim := { program := "ytemllmaelioeaaa", sum := "f67593efba71989367bbe29220165648934deb7969bd7559b5e19d1e25fad460", func := "plimsoll/plimsolllaw04.InstPuts", spec := "instPuts", apart := false, narrowed := true }
def InstPutsUptoSaid : Prop := instPutsUptoRow.holds Try.pinned (OpenSpec.upto instPutsSpec)

/-- 'plimsolllaw04.InstGets', WHERE WHAT IT READS IS OF BULK AT MOST 1048576: true; the input reads as it did. -/
def instGetsUptoRow : OpenClaim := { program := "ytemllmaelioeaaa", sum := "f67593efba71989367bbe29220165648934deb7969bd7559b5e19d1e25fad460", func := "plimsoll/plimsolllaw04.InstGets", spec := "instGets", apart := false, narrowed := true }
def InstGetsUptoSaid : Prop := instGetsUptoRow.holds Try.pinned (OpenSpec.upto instGetsSpec)

/-- 'plimsolllaw04.InstRow', WHERE WHAT IT READS IS OF BULK AT MOST 1048576: true; the input reads as it did. -/
def instRowUptoRow : OpenClaim := { program := "ytemllmaelioeaaa", sum := "f67593efba71989367bbe29220165648934deb7969bd7559b5e19d1e25fad460", func := "plimsoll/plimsolllaw04.InstRow", spec := "instRow", apart := false, narrowed := true }
def InstRowUptoSaid : Prop := instRowUptoRow.holds Try.pinned (OpenSpec.upto instRowSpec)

end Rows
end Go.Proofs.Ytemllmaelioeaaa
