import Derived.Test.YtcmiljnbmgkdnaaGreatFB10
namespace Go.Proofs.YtcmiljnbmgkdnaaGreat
set_option maxRecDepth 100000
set_option linter.unusedVariables false
set_option linter.unusedSimpArgs false
open Go.ChangeShapes Go.WideShapes Go.ChangeAt Go.RowKit
def Vm(m:za)(x:zh):Bool:=x.code.all fun i=>zZ m x i.1 i.2.1 i.2.2
def kL(r:Int×Int)(n:Int):Bool:=decide (r=(5,0))||jn r.1 r.2 n
def Vc(m:za)(x:zh):Bool:=
 vw x.args m.classes.length&& (vw x.locals m.classes.length&& (kL x.ret m.classes.length&& (decide (¬x.code.length=0)&& (decide (x.phi.length=x.code.length)&& (decide (x.args.length+x.locals.length≤8)&& Vm m x)))))
theorem q92(w:World)(vs us:List Value)(T U:TypeId):
  zW ((w.alloc (.cells vs.toArray T)).alloc (.cells us.toArray U)) w.heap.size vs∧zW ((w.alloc (.cells vs.toArray T)).alloc (.cells us.toArray U)) (w.heap.size+1) us∧
  Below w.heap.size w ((w.alloc (.cells vs.toArray T)).alloc (.cells us.toArray U))∧((w.alloc (.cells vs.toArray T)).alloc (.cells us.toArray U)).heap.size=w.heap.size+2:=by
 have z1:(w.alloc (.cells vs.toArray T)).heap.size=w.heap.size+1:=by simp
 have z2:((w.alloc (.cells vs.toArray T)).alloc (.cells us.toArray U)).heap.size=w.heap.size+2:=by simp
 have b2:Below (w.heap.size+1) (w.alloc (.cells vs.toArray T)) ((w.alloc (.cells vs.toArray T)).alloc (.cells us.toArray U)):=(zb _ _).alloc (by omega) _;have h1:=qr w vs T;have h2:=qr (w.alloc (.cells vs.toArray T)) us U;rw[z1]at h2;exact⟨h1.keep b2 (by omega),h2,((zb _ _).alloc (zn _) _).trans (b2.mono (by omega)),z2⟩
structure Yt(m:za):Prop where
 n:m.classes.length≤1000
 f:∀x ∈m.classes,x.fields.length≤1000
structure q0m(x:zh):Prop where
 a:x.args.length≤1000
 l:x.locals.length≤1000
 c:∀i ∈x.code,0≤i.2.1
def codC(t:Int×Int×Int):List Value:=[.int .i64 t.1,.int .i64 t.2.1,.int .i64 t.2.2]
def QN(l:List (Int×Int×Int)):List Value:=l.flatMap codC
theorem addg(g n:Nat):(Addr.add ⟨g,0,none⟩ n)=⟨g,n,none⟩:=by
 unfold Addr.add;split
 ·rename_i h0;rw[h0]
 ·simp
end Go.Proofs.YtcmiljnbmgkdnaaGreat
