import Derived.Test.YtdbfllajopcccaaGreatFA31
namespace Go.Proofs.YtdbfllajopcccaaGreat
set_option maxRecDepth 100000
set_option linter.unusedVariables false
set_option linter.unusedSimpArgs false
open Go.ChangeShapes Go.WideShapes Go.ChangeAt Go.RowKit
def vc(m:za):Bool:=decide (m.methods.length≤12)&& (decide (m.classes.length≤8)&& (decide (m.ints.length≤16)&& decide (QK m=0)))
theorem Qh{m:za}(h:vc m=true):zP m:=by
 unfold vc at h;simp only[Bool.and_eq_true,decide_eq_true_eq]at h;exact YB h.2.2.2
theorem q75{m:za}(h:vc m=true):m.methods.length≤12∧m.classes.length≤8:=by
 unfold vc at h;simp only[Bool.and_eq_true,decide_eq_true_eq]at h;exact⟨h.1,h.2.1⟩
end Go.Proofs.YtdbfllajopcccaaGreat
