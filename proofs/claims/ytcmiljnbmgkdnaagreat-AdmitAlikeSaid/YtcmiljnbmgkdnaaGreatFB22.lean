import Derived.Deep.DeepCutAuto
import Derived.Test.YtcmiljnbmgkdnaaGreatFB14
namespace Go.Proofs.YtcmiljnbmgkdnaaGreat
set_option maxRecDepth 100000
set_option linter.unusedVariables false
set_option linter.unusedSimpArgs false
open Go.ChangeShapes Go.WideShapes Go.ChangeAt Go.RowKit
def kZ(m:za)(c:Int)(ab:List Int)(k:Nat)(s:Int):Bool:=
 match m.methods[s.toNat]? with
 |none=>false
 |some f=>match f.args with
  | []=>false
  |t::r=>zA (zz m.classes) 3 c t.1 t.2&& (match ab[k]? with
    |none=>true
    |some q=>match m.methods[q.toNat]? with
     |none=>true
     |some g=>decide (r=g.args.drop 1)&& decide (f.ret=g.ret))
def kt(m:za)(c:Int)(ab:List Int):Nat→List Int→Bool
 |_,[]=>true
 |k,s::r=>kZ m c ab k s&& kt m c ab (k+1) r
def Zl(m:za)(x:zJ):List Int:=if 0≤x.sup then(match m.classes[x.sup.toNat]? with
 |some y=>y.slots
 |none=> [])else []
def kV(m:za)(c:Int)(x:zJ):Bool:=
 decide (x.sup<c)&& (vw x.fields m.classes.length&& (decide ((qh m.classes c).length≤8)&& (decide ((Zl m x).length≤x.slots.length)&& kt m c (Zl m x) 0 x.slots)))
theorem qiu{m:za}{c:Int}{ab l:List Int}{k:Nat}(hk:k<l.length):kt m c ab k (l.drop k)=(kZ m c ab k l[k]&& kt m c ab (k+1) (l.drop (k+1))):=by
 rw[Wq hk];rfl
theorem qih{l m:List (Int×Int)}{A A':Option Addr}{cap cap' n n':Nat}{w0 w:World}{r:Bool}(HL:Hid (ze zc 2 w0 w0.heap.size A cap l))(HM:Hid (ze zc 2 w0 w0.heap.size A' cap' m))(HX:Hid (Below w0.heap.size w0 w))(HN:Hid (l.length=n))(HN':Hid (m.length=n'))(HR:Hid (decide (l=m)=r)):
  Calls Tryz.prog 31 #[.slice A n cap,.slice A' n' cap'] w fun e w'=>e= .returned (.bool r)∧Below w.heap.size w w':=by
 obtain rfl:=HN.out;obtain rfl:=HN'.out;have h:=q7s l m A A' cap cap' w0.heap.size w HX.out.size (HL.out.below_to zc.keeps HX.out (zn _)) (HM.out.below_to zc.keeps HX.out (zn _));rw[HR.out]at h;exact h
theorem q5d{w:World}{B:Nat}{ad:Addr}{l:List (Int×Int)}(h:ze zc 2 w B (some ad) 1 l)(h0:0<l.length):ze zc 2 w B (some ad) 0 (l.drop 1):=by
 have:=h.le;rw[List.drop_eq_nil_of_le (by omega)];exact⟨zn _,by omega,qv.nil⟩
theorem q65{w:World}{B cap:Nat}{ad:Addr}{l:List (Int×Int)}(h:ze zc 2 w B (some ad) cap l)(h0:0<l.length):ze zc 2 w B (some ⟨ad.block,ad.off+2,none⟩) (cap - 1) (l.drop 1):=by
 have:=h.le;have:=h.cap;refine⟨by rw[XT];omega,by omega,fun i x hi=> ?_⟩;rw[List.getElem?_drop]at hi;obtain⟨ad',e,hb,ht⟩:=h.row (1+i) x hi;injection e with e;subst e;refine⟨_,rfl,hb,?_⟩;have e2:(Addr.add ⟨ad.block,ad.off+2,none⟩ (i*2))=ad.add ((1+i)*2):=by
  have e3:(⟨ad.block,ad.off+2,none⟩:Addr)=ad.add 2:=by unfold Addr.add;simp
  rw[e3,Vz];congr 1;omega
 rw[e2];exact ht
theorem qnk{m:za}{c:Int}{ab:List Int}{k n:Nat}{f:zh}{t:Int×Int}{r:List (Int×Int)}(h:m.methods[n]? =some f)(hf:f.args=t::r)(hs:zA (zz m.classes) 3 c t.1 t.2=true)(hk:ab.length≤k):kZ m c ab k (n:Int)=true:=by
 unfold kZ;rw[Xi,h];dsimp only;rw[hf];dsimp only;rw[hs,Xv hk];rfl
theorem qiw{m:za}{c:Int}{ab:List Int}{k n q:Nat}{f g:zh}{t:Int×Int}{r:List (Int×Int)}(h:m.methods[n]? =some f)(hf:f.args=t::r)(hs:zA (zz m.classes) 3 c t.1 t.2=true)(hk:ab[k]? =some (q:Int))(hq:m.methods[q]? =some g):
  kZ m c ab k (n:Int)=(decide (r=g.args.drop 1)&& decide (f.ret=g.ret)):=by
 unfold kZ;rw[Xi,h];dsimp only;rw[hf];dsimp only;rw[hs,hk];dsimp only;rw[Xi,hq];simp
end Go.Proofs.YtcmiljnbmgkdnaaGreat
