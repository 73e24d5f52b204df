import Derived.Test.YtcmiljnbmgkdnaaGreatFA33
namespace Go.Proofs.YtcmiljnbmgkdnaaGreat
set_option maxRecDepth 100000
set_option linter.unusedVariables false
set_option linter.unusedSimpArgs false
open Go.ChangeShapes Go.WideShapes Go.ChangeAt Go.RowKit
def vd(m:za):Bool:=decide (m.methods.length≤12)&& (decide (m.classes.length≤8)&& (decide (m.ints.length≤16)&& decide (qK m=0)))
theorem q1k{m:za}(h:vd m=true):zK m:=by
 unfold vd at h;simp only[Xv,Xr]at h;exact JE h.2.2.2
theorem q39{m:za}(h:vd m=true):m.methods.length≤12∧m.classes.length≤8:=by
 unfold vd at h;simp only[Xv,Xr]at h;exact⟨h.1,h.2.1⟩
end Go.Proofs.YtcmiljnbmgkdnaaGreat
