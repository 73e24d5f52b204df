import Derived.Test.YtcmiljnbmgkdnaaGreatFB05
namespace Go.Proofs.YtcmiljnbmgkdnaaGreat
set_option maxRecDepth 100000
set_option linter.unusedVariables false
set_option linter.unusedSimpArgs false
open Go.ChangeShapes Go.WideShapes Go.ChangeAt Go.RowKit
def q1p(cl:List zJ)(a:Int):Int:=match cl[a.toNat]? with
 |some c=>c.slots.length
 |none=>0
def zZ(m:za)(x:zh)(op a b:Int):Bool:=
 if op=1 then decide (a<m.ints.length)else
 if op=3∨op=4 then decide (a<x.args.length+x.locals.length)else
 if op=18∨op=19 then decide (a<x.code.length)else
 if op=22∨op=34 then decide (a<m.classes.length)else
 if op=27∨op=28 then decide (a<m.classes.length)&& decide (b<(qh m.classes a).length)else
 if op=29∨op=30 then decide (a<m.statics.length)else
 if op=31 then decide (a<m.methods.length)else
 if op=32 then decide (a<m.classes.length)&& decide (b<q1p m.classes a)else true
theorem qgx(w:World)(vs us ts:List Value)(T U V:TypeId):
  zW (((w.alloc (.cells vs.toArray T)).alloc (.cells us.toArray U)).alloc (.cells ts.toArray V)) w.heap.size vs∧
  zW (((w.alloc (.cells vs.toArray T)).alloc (.cells us.toArray U)).alloc (.cells ts.toArray V)) (w.heap.size+1) us∧
  zW (((w.alloc (.cells vs.toArray T)).alloc (.cells us.toArray U)).alloc (.cells ts.toArray V)) (w.heap.size+1+1) ts∧
  Below w.heap.size w (((w.alloc (.cells vs.toArray T)).alloc (.cells us.toArray U)).alloc (.cells ts.toArray V))∧
  (((w.alloc (.cells vs.toArray T)).alloc (.cells us.toArray U)).alloc (.cells ts.toArray V)).heap.size=w.heap.size+3:=by
 have z1:(w.alloc (.cells vs.toArray T)).heap.size=w.heap.size+1:=by simp
 have z2:((w.alloc (.cells vs.toArray T)).alloc (.cells us.toArray U)).heap.size=w.heap.size+2:=by simp
 have z3:(((w.alloc (.cells vs.toArray T)).alloc (.cells us.toArray U)).alloc (.cells ts.toArray V)).heap.size=w.heap.size+3:=by simp
 have b3:Below (w.heap.size+2) ((w.alloc (.cells vs.toArray T)).alloc (.cells us.toArray U)) (((w.alloc (.cells vs.toArray T)).alloc (.cells us.toArray U)).alloc (.cells ts.toArray V)):=(zb _ _).alloc (by omega) _;have b2:Below (w.heap.size+1) (w.alloc (.cells vs.toArray T)) (((w.alloc (.cells vs.toArray T)).alloc (.cells us.toArray U)).alloc (.cells ts.toArray V)):=((zb _ _).alloc (by omega) _).trans (b3.mono (by omega));have h1:=qr w vs T;have h2:=qr (w.alloc (.cells vs.toArray T)) us U;have h3:=qr ((w.alloc (.cells vs.toArray T)).alloc (.cells us.toArray U)) ts V;rw[z1]at h2;rw[z2]at h3;exact⟨h1.keep b2 (by omega),h2.keep b3 (by omega),h3,((zb _ _).alloc (zn _) _).trans (b2.mono (by omega)),z3⟩
abbrev Vq(h:zi)(m:za):List Value:=
 [.slice h.A0 m.classes.length h.c0,.slice h.A1 m.statics.length h.c1,.slice h.A2 m.ints.length h.c2,.slice h.A3 m.methods.length h.c3,.slice h.A4 m.entries.length h.c4,.int .i64 m.stack,.int .i64 m.heap]
end Go.Proofs.YtcmiljnbmgkdnaaGreat
