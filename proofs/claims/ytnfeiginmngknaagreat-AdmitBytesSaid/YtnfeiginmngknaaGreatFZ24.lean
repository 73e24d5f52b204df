import Derived.Test.YtnfeiginmngknaaGreatFZ23
import Derived.Test.YtnfeiginmngknaaGreatFZ20
namespace Go.Proofs.YtnfeiginmngknaaGreat
set_option maxRecDepth 100000
set_option linter.unusedVariables false
set_option linter.unusedSimpArgs false
open Go.ChangeShapes Go.WideShapes Go.ChangeAt Go.RowKit
def Ql(m:za):Bool:=decide (m.methods.length<=12)&& (decide (m.classes.length<=8)&& (decide (m.ints.length<=16)&& decide (jQ m=0)))
theorem Dz{m:za}(h:Ql m=true):zP m:=by
 unfold Ql at h;simp only[Xt,Xw]at h;exact mW h.2.2.2
theorem Io{m:za}(h:Ql m=true):m.methods.length<=12/\m.classes.length<=8:=by
 unfold Ql at h;simp only[Xt,Xw]at h;exact⟨h.1,h.2.1⟩
theorem qbw{m:za}{EL:List (List Int)}{n:Nat}{h:zh}{w0 w:World}(HI:Hid (zr w0 w0.heap.size h m))(HX:Hid (Below w0.heap.size w0 w))(HS:Hid (Ql m=true))(HL:Hid (vK m=EL/\EL.length=n)):
  Calls Tryz.prog 14 #[zv h m] w fun e w'=>∃A c,e= .returned (.slice A n c)/\zd (zM zu 1) 1 w' w'.heap.size A c EL/\Below w.heap.size w w':=by
 have h1:=Io HS.out;have h2:=Dz HS.out;obtain⟨rfl,rfl⟩:=HL.out;exact q4u m h w (HI.out.now HX.out) (by omega) (by omega) (fun x hx=>by have:=(h2.method hx).fits.cl;omega)
theorem qg2{EL:List (List Int)}{n:Nat}{A:Option Addr}{c:Nat}{w:World}(H:Hid (zd (zM zu 1) 1 w w.heap.size A c EL))(HN:Hid (EL.length=n))(hl:n<=1000):
  Calls Tryz.prog 94 #[.slice A n c] w fun e w'=>∃gO G W,e= .returned (.slice (some ⟨gO,0,none⟩) n n)/\Below w.heap.size w w'/\qU w' gO n G W/\G.length=n/\VE EL n n W/\w.heap.size<=gO/\∀g ∈G,w.heap.size<=g:=by
 exact qbg EL n A c w H.out HN.out hl
