import Derived.Test.YtcmiljnbmgkdnaaGreatFB37
namespace Go.Proofs.YtcmiljnbmgkdnaaGreat
set_option maxRecDepth 100000
set_option linter.unusedVariables false
set_option linter.unusedSimpArgs false
open Go.ChangeShapes Go.WideShapes Go.ChangeAt Go.RowKit
def Zt(m:za):Bool:=decide (m.methods.length≤12)&& (decide (m.classes.length≤8)&& (decide (m.ints.length≤16)&& decide (qR m=0)))
theorem q9d{m:za}(h:Zt m=true):zN m:=by
 unfold Zt at h;simp only[Xr,Xt]at h;exact q1y h.2.2.2
theorem qgb{m:za}(h:Zt m=true):m.methods.length≤12∧m.classes.length≤8:=by
 unfold Zt at h;simp only[Xr,Xt]at h;exact⟨h.1,h.2.1⟩
end Go.Proofs.YtcmiljnbmgkdnaaGreat
