import Derived.Test.YtdbfllajopcccaaGreatFA32
import Derived.Test.YtdbfllajopcccaaGreatFA26
import Derived.Test.YtdbfllajopcccaaGreatFA08
namespace Go.Proofs.YtdbfllajopcccaaGreat
set_option maxRecDepth 100000
set_option linter.unusedVariables false
set_option linter.unusedSimpArgs false
open Go.ChangeShapes Go.WideShapes Go.ChangeAt Go.RowKit
theorem qkv{m:za}{EL:List (List Int)}{n:Nat}{h:zl}{w0 w:World}(HI:Hid (zp w0 w0.heap.size h m))(HX:Hid (Below w0.heap.size w0 w))(HS:Hid (vc m=true))(HL:Hid (jm m=EL∧EL.length=n)):
  Calls Tryz.prog 21 #[zr h m] w fun e w'=>∃A c,e= .returned (.slice A n c)∧zd (qb zo 1) 1 w' w'.heap.size A c EL∧Below w.heap.size w w':=by
 have h1:=q75 HS.out;have h2:=Qh HS.out;obtain⟨rfl,rfl⟩:=HL.out;exact qf4 m h w (HI.out.now HX.out) (by omega) (by omega) (fun x hx=>by have:=(h2.method hx).fits.cl;omega)
theorem qbk{EL:List (List Int)}{n:Nat}{A:Option Addr}{c:Nat}{w:World}(H:Hid (zd (qb zo 1) 1 w w.heap.size A c EL))(HN:Hid (EL.length=n))(hl:n≤1000):
  Calls Tryz.prog 20 #[.slice A n c] w fun e w'=>∃gO G W,e= .returned (.slice (some ⟨gO,0,none⟩) n n)∧Below w.heap.size w w'∧qK w' gO n G W∧G.length=n∧ZD EL n n W∧w.heap.size≤gO∧∀g ∈G,w.heap.size≤g:=by
 exact qki EL n A c w H.out HN.out hl
end Go.Proofs.YtdbfllajopcccaaGreat
