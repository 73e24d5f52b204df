import Derived.Test.YtcmiljnbmgkdnaaGreatFB40
import Derived.Test.YtcmiljnbmgkdnaaGreatFB36
namespace Go.Proofs.YtcmiljnbmgkdnaaGreat
set_option maxRecDepth 100000
set_option linter.unusedVariables false
set_option linter.unusedSimpArgs false
open Go.ChangeShapes Go.WideShapes Go.ChangeAt Go.RowKit
def Zp(m:za)(l:List (List zo)):Prop:=l.length=m.methods.length∧∀(i:Nat) S,l[i]? =some S→Jh m (i:Int) S∧ZQ m (i:Int) S
def q1r(m:za):Prop:=∀a,Jy m a=false
def Vj(m:za)(l:List (List zo)):Bool:=decide (YL m l>m.stack)||decide (YX m>m.heap)
def jd(m:za)(l:List (List zo)):Int:=if jE m=false then 5 else if 0≤jF m l then 6 else if Vj m l=true then 7 else 0
def quc(m:za)(w:World)(e:Ending)(w':World):Prop:=∃A n c er,e= .returned (.tuple #[.slice A n c,.int .i64 er])∧Below w.heap.size w w'∧
 ((qR m≠0∧er=qR m∧n=0)∨(qR m=0∧er=4∧n=0∧q1r m)∨(qR m=0∧∃l,Zp m l∧er=jd m l∧(er≠0→n=0)∧(er=0→n=l.length∧jy m w' A c l)))
theorem qmw{m:za}{w w':World}{A:Option Addr}{n c:Nat}{XS:List (Nat×List zr)}(hm:zN m)(h1:n=m.methods.length)(h2:XS.length=n)(h3:w'.ownsRow w.heap.size 73 1 (.slice A n c) n (Ys XS))(h4:Qm w' (.slice A n c) XS)(h5:∀p ∈XS,w.heap.size≤p.1)
  (h6:∀(i:Nat) p,XS[i]? =some p→Jh m (i:Int) (p.2.map zr.shp)∧ZQ m (i:Int) (p.2.map zr.shp)):∃l,l.length=n∧jy m w' A c l∧Zp m l:=by
 have hfd:∀p ∈XS,p.2.length≤64∧∀s ∈p.2.map zr.shp,s.stack.length≤8:=fun p hp=>by
  obtain⟨i,hi,e⟩:=Wl hp;have hf:=(h6 i p (by rw[Xc hi,e])).1;have hlt:i<m.methods.length:=by omega
  have hx:zw m (i:Int) ∈m.methods:=by unfold zw;rw[Xi,Xc hlt];exact Xf hlt
  have hl:=hf.grow.len;rw[Xo]at hl;exact⟨by have:=(hm.method hx).fits.cl;omega,hf.grow.small⟩
 have hln:(QD XS).length=n:=by unfold QD;rw[Xo];exact h2
 have hall:∀(i:Nat) S,(QD XS)[i]? =some S→Jh m (i:Int) S∧ZQ m (i:Int) S:=fun i S hS=>by
  unfold QD at hS;rw[XB]at hS;cases hp:XS[i]? with
  |none=>rw[hp]at hS;cases hS
  |some p=>rw[hp]at hS;cases hS;exact h6 i p hp
 refine⟨QD XS,hln,⟨qvl h3 h2 h4.outs (fun p hp=>by have:=(hfd p hp).1;omega),fun S hS=> ?_,by rw[hln,h1],fun i S hS=>(hall i S hS).1⟩,by rw[hln,h1],hall⟩;unfold QD at hS;obtain⟨p,hp,rfl⟩:=XW.mp hS;obtain⟨a1,a2⟩:=hfd p hp;exact⟨by rw[Xo];omega,fun s hs=>by have:=a2 s hs;omega⟩
end Go.Proofs.YtcmiljnbmgkdnaaGreat
