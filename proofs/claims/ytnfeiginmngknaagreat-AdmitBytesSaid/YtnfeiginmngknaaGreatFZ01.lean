import Derived.RowKit
import Derived.WalkKit
import Derived.Laws.BitsLemmas
import Derived.Laws.Entries
import Derived.Laws.OwnMore
import Derived.Laws.AppendOwnNone
import Derived.Deep.AppendLies
import Derived.Deep.Draws
import Derived.Test.YtnfeiginmngknaaGreatRows
import Derived.ProofKit
import Derived.OpenShut
import Derived.Outline
import Derived.ArgAppend
import Derived.OwnWalk
import Derived.Deep.RegionHeld3
import Derived.Deep.QuietTactic
import Derived.BigQuiet
import Derived.Deep.Cut
import Derived.RegionTactic
import Derived.ChangeOld
import Derived.Maps.OwnSet
import Derived.Maps.RangeWalk
import Derived.Sort.OwnSortedInts
import Derived.Deep.LoopGhost
import Derived.Shelf.Sort.Plain
import Derived.Shelf.Slices.In.SortNone
import Derived.Test.YtnfeiginmngknaaGreatProg
import Derived.WalkSpells
import Derived.RangeFuncCalls
import Derived.OrdersHeld
import Derived.OwnWalkIn
import Derived.IntWalk
import Derived.Laws.BytesArg
import Derived.Deep.Slices
import Derived.Deep.Fields
import Derived.ChangeSame
import Derived.Lib.SmallJoins
import Derived.SizedLaws
import Derived.Test.YtnfeiginmngknaaGreatFZ00
namespace Go.Proofs.YtnfeiginmngknaaGreat
set_option maxRecDepth 100000
set_option linter.unusedVariables false
set_option linter.unusedSimpArgs false
open Go.RowKit
theorem Lu{k:IntKind}{a b:Int}(h:a=b):Ending.returned (.int k a)= .returned (.int k b):=by rw[h]
theorem K8{a b:Bool}(h:a=b):Ending.returned (.bool a)= .returned (.bool b):=by rw[h]
theorem zC(a:Addr)(n:Nat):(a.add n).block=a.block:=by
 unfold Addr.add;split<;>rfl
theorem uK(a:Addr)(i j:Nat):(a.add i).add j=a.add (i+j):=by
 unfold Addr.add;by_cases hi:i=0<;>by_cases hj:j=0<;>simp[hi,hj,Nat.add_assoc]
def zw(w:World)(B:Nat)(A:Option Addr)(xs:List Value):Prop:=
 ∀j u,xs[j]? =some u->∃ad,A=some ad/\ad.block<B/\w.cell? (ad.add j)=some u
section
variable{w w':World}{B B':Nat}{A:Option Addr}{xs:List Value}
theorem zw.nil:zw w B A []:=fun _ _ h=>by simp at h
theorem zw.at_{k:Nat}(h:zw w B A xs)(hk:k<xs.length):∃ad,A=some ad/\ad.block<B/\w.cell? (ad.add k)=some xs[k]:=
 h k _ (Xc hk)
theorem zw.keep(h:zw w B A xs)(hk:∀p:Addr,p.block<B->w'.cell? p=w.cell? p):zw w' B A xs:=fun j u hu=>by
 obtain⟨ad,e,hb,hc⟩:=h j u hu;exact⟨ad,e,hb,(hk _ (by rw[zC];exact hb)).trans hc⟩
theorem zw.more(h:zw w B A xs)(hB:B<=B'):zw w B' A xs:=fun j u hu=>by
 obtain⟨ad,e,hb,hc⟩:=h j u hu;exact⟨ad,e,Xp hb hB,hc⟩
theorem zw.below(h:zw w B A xs)(hb:Below B w w'):zw w' B A xs:=h.keep fun _ hp=>hb.cell hp
theorem zw.below_to{C:Nat}(h:zw w B A xs)(hb:Below C w w')(hC:B<=C):zw w' B A xs:=h.keep fun _ hp=>hb.cell (Xp hp hC)
theorem zw.drew(h:zw w B A xs):zw w.drew B A xs:=h
theorem zw.drewN(h:zw w B A xs)(k:Nat):zw (w.drewN k) B A xs:=h
theorem zw.drop_(h:zw w B A xs)(k:Nat):zw w B (A.map (·.add k)) (xs.drop k):=fun j u hu=>by
 rw[List.getElem?_drop]at hu;obtain⟨ad,e,hb,hc⟩:=h _ _ hu;exact⟨ad.add k,by rw[e];rfl,by rw[zC];exact hb,by rw[uK];exact hc⟩
theorem zw.take_(h:zw w B A xs)(k:Nat):zw w B A (xs.take k):=fun j u hu=>by
 rw[List.getElem?_take]at hu;split at hu
 ·exact h j u hu
 ·cases hu
theorem zw.cut(h:zw w B A xs){k cap:Nat}(hc:xs.length<=cap):zw w B (if cap=k then A else A.map (·.add k)) (xs.drop k):=by
 split
 ·rename_i e;rw[Wm (by omega)];exact zw.nil
 ·exact h.drop_ k
theorem zw.of_own{base e n c:Nat}(h:w.ownsRow base e 1 (.slice A n c) n xs):zw w w.heap.size A xs:=by
 rcases h.2 with⟨hv,hn⟩|⟨g,cap,cur,hv,hb,hh,h1,h2,h3,h4⟩
 ·have:xs=[]:=Wp (by rw[h.1,hn]);rw[this];exact zw.nil
 ·intro j u hu;have hA:A=some ⟨g,0,none⟩:=by injection hv
  have hg:g<w.heap.size:=by
   rcases Xl g w.heap.size with hlt|hge
   ·exact hlt
   ·rw[Array.getElem?_eq_none hge]at hh;cases hh
  refine⟨⟨g,0,none⟩,hA,hg,?_⟩;have hju:cur.toList[j]? =some u:=by
   rw[<-h4,List.getElem?_take]at hu;split at hu
   ·exact hu
   ·cases hu
  have hcell:w.cell? ⟨g,j,none⟩=cur[j]? :=cell_of_row w g j cur e (0,0) hh;have:(Addr.add ⟨g,0,none⟩ j)=⟨g,j,none⟩:=by
   unfold Addr.add;split
   ·rename_i h0;subst h0;rfl
   ·simp
  rw[this,hcell,<-hju];simp
end
theorem Ac{w:World}{base e n:Nat}{v:Value}{xs:List Value}(h:w.ownsRow base e 1 v n xs):∃A c,v= .slice A n c/\zw w w.heap.size A xs:=by
 rcases h.2 with⟨rfl,rfl⟩|⟨g,cap,cur,rfl,_⟩
 ·exact⟨none,0,rfl,zw.of_own h⟩
 ·exact⟨_,cap,rfl,zw.of_own h⟩
theorem js{w:World}{base base' e size n:Nat}{v:Value}{xs:List Value}(h:w.ownsRow base e size v n xs)(hb:base'<=base):w.ownsRow base' e size v n xs:=by
 refine⟨h.1,?_⟩;rcases h.2 with h0|⟨g,cap,cur,hv,hg,rest⟩
 ·exact .inl h0
 ·exact .inr ⟨g,cap,cur,hv,Xe hb hg,rest⟩
theorem Yr{w w':World}{base e size n B:Nat}{v:Value}{xs:List Value}(h:w.ownsRow base e size v n xs)(hb:Below B w w')(hB:∀g,v.ownBlock=some g->g<B):w'.ownsRow base e size v n xs:=by
 refine⟨h.1,?_⟩;rcases h.2 with h0|⟨g,cap,cur,hv,hg,hh,rest⟩
 ·exact .inl h0
 ·refine .inr ⟨g,cap,cur,hv,hg,?_,rest⟩;rw[hb.block g (hB g (by rw[hv];rfl))];exact hh
theorem vA{w:World}{base e size n:Nat}{v:Value}{xs:List Value}(h:w.ownsRow base e size v n xs):∀g,v.ownBlock=some g->g<w.heap.size:=by
 intro g hg;rcases h.2 with⟨rfl,_⟩|⟨g',cap,cur,rfl,hb,hh,_⟩
 ·simp[Value.ownBlock]at hg
 ·have:g'=g:=by simpa[Value.ownBlock]using hg
  subst this;rcases Xl g' w.heap.size with hlt|hge
  ·exact hlt
  ·rw[Array.getElem?_eq_none hge]at hh;cases hh
theorem LQ{P:Program}{w:World}{o:Oper}{a:Act}{K:Act->World->Prop}{Q:Exit->Act->World->Prop}(s x:Operand)(t:TypeId)
  (ho:o.op= .call {callee:= .builtin .append,args:= #[s,x],argTypes:= #[t,t]})
  (base:Nat) (e:TypeId) (i:TypeInfo) (z:Value) (bytes:Nat) (ht:P.underlying t=some (.slice e)) (hi:P.info? e=some i) (hz:i.zero=some z)
  (hsize:i.size=1) (hby:i.bytes=bytes) (hzs:z.cells.size=1)
  (v:Value) (n:Nat) (xs:List Value) (hs:a.eval s=v) (hown:w.ownsRow base e 1 v n xs)
  (A:Option Addr) (m c B:Nat) (news:List Value) (hm:news.length=m) (hx:a.eval x= .slice A m c) (hA:A=none->c=0) (hl:zw w B A news) (h1:∀u ∈news,u.oneCell'=true)
  (h63:n+m<=maxLen) (hbytes:(n+m)*bytes<=140737488355328) (hbase:base<=w.heap.size)
  (h:∀v' w',w'.ownsRow base e 1 v' (n+m) (xs++news)->w.grownBy w' v.ownBlock->K (a.put o.dst v') w'):o.wp P a w K Q:=by
 subst hm;rcases A with _|ad
 ·have hc:c=0:=hA rfl;subst hc;have hn:news=[]:=by
   cases news with
   |nil=>rfl
   |cons b r=>
    obtain⟨ad,e,_⟩:=hl 0 b rfl;cases e
  subst hn;have hrun:=run_append_owned_none (P:=P) (w:=w) base t o.type e i 1 ht hi v n xs hown;have hk:=h v w (by simpa using hown) (World.grownBy.refl _ _);unfold Oper.wp;simp[execOp,ho,resolve,invoke,builtin,hs,hx,hrun,Result.andThen];exact hk
 ·refine wp_append_own w s x t ho base e i z 1 bytes ht hi hz hsize hby hzs (by decide) v n xs hs hown ad news.length c news hx (by simp) (fun j u hu=> ?_) h1 h63 hbytes hbase fun v' w' h2 h3 _=>h v' w' h2 h3;obtain⟨ad',e,_,hc⟩:=hl j u hu;injection e with e;subst e;exact hc
theorem IR{P:Program}{w:World}{ops:Array Oper}{rest:List Oper}{o:Oper}{a:Act}{Q:Exit->Act->World->Prop}(hgd:o.guard=none)(s x:Operand)(t:TypeId)
  (ho:o.op= .call {callee:= .builtin .append,args:= #[s,x],argTypes:= #[t,t]})
  (base:Nat) (e:TypeId) (i:TypeInfo) (z:Value) (bytes:Nat) (ht:P.underlying t=some (.slice e)) (hi:P.info? e=some i) (hz:i.zero=some z)
  (hsize:i.size=1) (hby:i.bytes=bytes) (hzs:z.cells.size=1)
  (v:Value) (n:Nat) (xs:List Value) (hs:a.eval s=v) (hown:w.ownsRow base e 1 v n xs)
  (A:Option Addr) (m c B:Nat) (news:List Value) (hm:news.length=m) (hx:a.eval x= .slice A m c) (hA:A=none->c=0) (hl:zw w B A news) (h1:∀u ∈news,u.oneCell'=true)
  (h63:n+m<=maxLen) (hbytes:(n+m)*bytes<=140737488355328) (hbase:base<=w.heap.size)
  (h:∀v' w',w'.ownsRow base e 1 v' (n+m) (xs++news)->w.grownBy w' v.ownBlock->wpList P ops Q rest (a.put o.dst v') w'):wpList P ops Q (o::rest) a w:=
 wpList_plain hgd fun _ hK=>LQ s x t ho base e i z bytes ht hi hz hsize hby hzs v n xs hs hown A m c B news hm hx hA hl h1 h63 hbytes hbase fun v' w' h2 h3=>hK _ _ (h v' w' h2 h3)
theorem qfs{P:Program}{w:World}{ops:Array Oper}{o:Oper}{a:Act}{K:Act->World->Prop}{Q:Exit->Act->World->Prop}{E:Prop}(hgd:o.guard=none)(s x:Operand)(t:TypeId)
  (ho:o.op= .call {callee:= .builtin .append,args:= #[s,x],argTypes:= #[t,t]})
  (base:Nat) (e:TypeId) (i:TypeInfo) (z:Value) (bytes:Nat) (ht:P.underlying t=some (.slice e)) (hi:P.info? e=some i) (hz:i.zero=some z)
  (hsize:i.size=1) (hby:i.bytes=bytes) (hzs:z.cells.size=1)
  (v:Value) (n:Nat) (xs:List Value) (hs:a.eval s=v) (hown:w.ownsRow base e 1 v n xs)
  (A:Option Addr) (m c B:Nat) (news:List Value) (hm:news.length=m) (hx:a.eval x= .slice A m c) (hA:A=none->c=0) (hl:zw w B A news) (h1:∀u ∈news,u.oneCell'=true)
  (h63:n+m<=maxLen) (hbytes:(n+m)*bytes<=140737488355328) (hbase:base<=w.heap.size)
  (h:∀v' w',w'.ownsRow base e 1 v' (n+m) (xs++news)->w.grownBy w' v.ownBlock->K (a.put o.dst v') w'):
  if Region.wanted o (yielded ops a.tmps)=true then Oper.wp P o a w K Q else E:=by
 have hw:Region.wanted o (yielded ops a.tmps)=true:=by simp[Region.wanted,hgd]
 rw[Xb hw];exact LQ s x t ho base e i z bytes ht hi hz hsize hby hzs v n xs hs hown A m c B news hm hx hA hl h1 h63 hbytes hbase h
theorem gM(w:World)(T:TypeId):(w.alloc (.cells #[] T)).ownsRow w.heap.size T 1 (.slice (some ⟨w.heap.size,0,none⟩) 0 0) 0 []:=
 ⟨rfl,.inr ⟨w.heap.size,0,#[],rfl,zn _,Xz _ _,zn _,by unfold maxLen;omega,rfl,rfl⟩⟩
theorem rC(l:List Int):∀u ∈l.map (Value.int .u8),u.oneCell'=true:=by
 intro u hu;obtain⟨n,_,rfl⟩:=X9.mp hu;rfl
abbrev zF(k n:Int):Value:= .agg #[.int .i64 k,.int .i64 n]
def jh(w:World)(B:Nat)(A:Option Addr)(sup:List Int):Prop:=
 ∀i s,sup[i]? =some s->∃ad,A=some ad/\ad.block<B/\w.cell? (ad.add (i*3))=some (.int .i64 s)
theorem jh.below_to{w w':World}{B C:Nat}{A:Option Addr}{sup:List Int}(h:jh w B A sup)(hb:Below C w w')(hC:B<=C):jh w' B A sup:=fun i s hs=>by
 obtain⟨ad,e,hlt,hc⟩:=h i s hs;exact⟨ad,e,hlt,(hb.cell (by rw[zC];omega)).trans hc⟩
theorem KA{w:World}{B e:Nat}{v:Value}{l:List Int}(h:w.ownsRow B e 1 v l.length (l.map (Value.int .u8)))(hl:0<l.length):
  ∃g cap,v= .slice (some ⟨g,0,none⟩) l.length cap/\l.length<=cap/\cap<=9223372036854775807/\B<=g/\g<w.heap.size/\zw w w.heap.size (some ⟨g,0,none⟩) (l.map (Value.int .u8)):=by
 have hlt:=vA h;rcases h.2 with⟨_,hn⟩|⟨g,cap,cur,rfl,hb,_,h1,h2,_⟩
 ·omega
 ·exact⟨g,cap,rfl,h1,by unfold maxLen at h2;omega,hb,hlt g rfl,zw.of_own h⟩
theorem Ed{w:World}{B g:Nat}{xs:List Value}(h:zw w B (some ⟨g,0,none⟩) xs)(j:Nat)(hj:j<xs.length):w.cell? ⟨g,j,none⟩=some xs[j]:=by
 obtain⟨ad,e,_,hc⟩:=h.at_ hj;injection e with e;subst e;have e:(Addr.add ⟨g,0,none⟩ j)=⟨g,j,none⟩:=by
  unfold Addr.add;split
  ·rename_i h0;subst h0;rfl
  ·simp
 rw[<-e];exact hc
theorem jf{B:Nat}{a w:World}(h:Below B a w)(n:Nat):Below B a (w.drewN n):=⟨h.os,h.tape,h.output,h.size,h.block⟩
theorem AP{B:Nat}{w w1 w2:World}{e:TypeId}{v v':Value}{n m:Nat}{xs ys:List Int}(hb:Below B w w1)(hown:w1.ownsRow B e 1 v n (xs.map (Value.int .u8)))(hB:B<=w1.heap.size)
  (hown':w2.ownsRow B e 1 v' (n+m) (xs.map (Value.int .u8)++ys.map (Value.int .u8))) (hgrow:w1.grownBy w2 v.ownBlock):w2.ownsRow B e 1 v' (n+m) ((xs++ys).map (Value.int .u8))/\Below B w w2:=
 ⟨by simpa using hown',hb.grown hgrow hB (fun k hk=>(hown.lt k hk).1)⟩
theorem De{w:World}{base e n:Nat}{v:Value}{xs:List Value}(h:w.ownsRow base e 1 v n xs):∃A c,v= .slice A n c/\zw w w.heap.size A xs/\(A=none->c=0):=by
 rcases h.2 with⟨rfl,rfl⟩|⟨g,cap,cur,rfl,_⟩
 ·exact⟨none,0,rfl,zw.of_own h,fun _=>rfl⟩
 ·exact⟨_,cap,rfl,zw.of_own h,fun h=>by cases h⟩
theorem zj{α:Sort _}(a:α):∃b,a=b:=⟨a,rfl⟩
theorem zk{w:World}{o:Obj}:Below w.heap.size w (w.alloc o):=(zb _ _).alloc (zn _) _
theorem qP(w:World):Hid (Below w.heap.size w w):=zH (zb _ _)
theorem zD{w0 w1 w2:World}(h:Hid (Below w0.heap.size w0 w1))(k:Hid (Below w1.heap.size w1 w2)):Below w0.heap.size w0 w2:=h.out.trans (k.out.mono h.out.size)
theorem zZ{p:Addr}{k B:Nat}(h:p.block<B):(p.add k).block<B:=by rw[zC];exact h
theorem kpO{w w':World}{base e size n:Nat}{v:Value}{xs:List Value}(h:Hid (w.ownsRow base e size v n xs))(hb:Below w.heap.size w w'):Hid (w'.ownsRow base e size v n xs):=zH (Yr h.out hb (vA h.out))
def Me(w:World)(p:Addr)(x y z:Int):Prop:=w.cell? p=some (.int .i64 x)/\w.cell? ⟨p.block,p.off+1,none⟩=some (.int .i64 y)/\w.cell? ⟨p.block,p.off+2,none⟩=some (.int .i64 z)
theorem Me.keep{w w':World}{p:Addr}{x y z:Int}{B:Nat}(h:Me w p x y z)(hb:Below B w w')(hp:p.block<B):Me w' p x y z:=
 ⟨(hb.cell hp).trans h.1,(hb.cell (p:=⟨p.block,p.off+1,none⟩) hp).trans h.2.1,(hb.cell (p:=⟨p.block,p.off+2,none⟩) hp).trans h.2.2⟩
abbrev qV(α:Type):=World->Nat->Addr->α->Prop
def ZC{α:Type}(At:qV α):Prop:=∀ ⦃w w':World⦄ ⦃B C:Nat⦄ ⦃p:Addr⦄ ⦃x:α⦄,At w B p x->p.block<B->B<=C->(∀q:Addr,q.block<B->w'.cell? q=w.cell? q)->At w' C p x
def qD{α:Type}(At:qV α)(k:Nat)(w:World)(B:Nat)(A:Option Addr)(l:List α):Prop:=
 ∀i x,l[i]? =some x->∃ad,A=some ad/\ad.block<B/\At w B (ad.add (i*k)) x
section
variable{α:Type}{At:qV α}{k:Nat}{w w':World}{B C:Nat}{A:Option Addr}{l:List α}
theorem qD.nil:qD At k w B A []:=fun _ _ h=>by simp at h
theorem qD.keep'(hK:ZC At)(h:qD At k w B A l)(hC:B<=C)(hc:∀q:Addr,q.block<B->w'.cell? q=w.cell? q):qD At k w' C A l:=fun i x hi=>by
 obtain⟨ad,e,hb,ha⟩:=h i x hi;exact⟨ad,e,(by omega),hK ha (by exact zZ hb) hC hc⟩
theorem qD.below(hK:ZC At)(h:qD At k w B A l)(hb:Below B w w'):qD At k w' B A l:=h.keep' hK (zn _) fun _ hq=>hb.cell hq
theorem qD.below_to(hK:ZC At)(h:qD At k w B A l)(hb:Below C w w')(hC:B<=C):qD At k w' B A l:=h.keep' hK (zn _) fun _ hq=>hb.cell (by omega)
theorem qD.more(hK:ZC At)(h:qD At k w B A l)(hC:B<=C):qD At k w C A l:=h.keep' hK hC fun _ _=>rfl
theorem qD.at_{i:Nat}(h:qD At k w B A l)(hi:i<l.length):∃ad,A=some ad/\ad.block<B/\At w B (ad.add (i*k)) l[i]:=h i _ (by grind)
theorem qD.take_(h:qD At k w B A l)(n:Nat):qD At k w B A (l.take n):=fun i x hi=>by
 rw[List.getElem?_take]at hi;split at hi
 ·exact h i x hi
 ·cases hi
end
abbrev zc(p:Addr)(n:Nat):Addr:=⟨p.block,p.off+n,none⟩
def zu:qV Int:=fun w _ p n=>w.cell? p=some (.int .i64 n)
theorem zu.keeps:ZC zu:=fun _ _ _ _ p _ h hp _ hc=>(hc _ hp).trans h
def Jt:qV Int:=fun w _ p n=>w.cell? p=some (.int .i32 n)/\ -2147483648<=n/\n<=2147483647
theorem Jt.keeps:ZC Jt:=fun _ _ _ _ p _ h hp _ hc=>⟨(hc _ hp).trans h.1,h.2⟩
def zf:qV (Int×Int):=fun w _ p t=>w.cell? p=some (.int .i64 t.1)/\w.cell? (zc p 1)=some (.int .i64 t.2)
theorem zf.keeps:ZC zf:=fun _ _ _ _ p _ h hp _ hc=>⟨(hc _ hp).trans h.1,(hc (zc p 1) hp).trans h.2⟩
def ju:qV (Int×Int×Int):=fun w _ p i=>w.cell? p=some (.int .i64 i.1)/\w.cell? (zc p 1)=some (.int .i64 i.2.1)/\w.cell? (zc p 2)=some (.int .i64 i.2.2)
theorem ju.keeps:ZC ju:=fun _ _ _ _ p _ h hp _ hc=>⟨(hc _ hp).trans h.1,(hc (zc p 1) hp).trans h.2.1,(hc (zc p 2) hp).trans h.2.2⟩
structure zd{α:Type}(At:qV α)(k:Nat)(w:World)(B:Nat)(A:Option Addr)(cap:Nat)(l:List α):Prop where
 le:l.length<=cap
 cap:cap<=9223372036854775807
 row:qD At k w B A l
def zM{α:Type}(At:qV α)(k:Nat):qV (List α):=fun w B p l=>∃A cap,w.cell? p=some (.slice A l.length cap)/\zd At k w B A cap l
theorem zd.keep'{α:Type}{At:qV α}(hK:ZC At){k:Nat}{w w':World}{B C:Nat}{A:Option Addr}{cap:Nat}{l:List α}(h:zd At k w B A cap l)(hC:B<=C)(hc:∀q:Addr,q.block<B->w'.cell? q=w.cell? q):zd At k w' C A cap l:=
 ⟨h.le,h.cap,h.row.keep' hK hC hc⟩
theorem zd.below_to{α:Type}{At:qV α}(hK:ZC At){k:Nat}{w w':World}{B C:Nat}{A:Option Addr}{cap:Nat}{l:List α}(h:zd At k w B A cap l)(hb:Below C w w')(hC:B<=C):zd At k w' B A cap l:=
 h.keep' hK (zn _) fun _ hq=>hb.cell (by omega)
theorem zM.keeps{α:Type}{At:qV α}(hK:ZC At)(k:Nat):ZC (zM At k):=fun _ _ _ _ _ _ ⟨A,cap,h,hs⟩ hp hC hc=>⟨A,cap,(hc _ hp).trans h,hs.keep' hK hC hc⟩
structure zW where
 sup:Int
 fields:List (Int×Int)
 slots:List Int
deriving DecidableEq
structure zl where
 args:List (Int×Int)
 locals:List (Int×Int)
 ret:Int×Int
 code:List (Int×Int×Int)
 depth:Int
 pot:Int
 phi:List Int
deriving DecidableEq
structure za where
 classes:List zW
 statics:List (Int×Int)
 ints:List Int
 methods:List zl
 entries:List Int
 stack:Int
 heap:Int
deriving DecidableEq
structure vw(w:World)(B:Nat)(p:Addr)(c:zW):Prop where
 sup:w.cell? p=some (.int .i64 c.sup)
 fields:zM zf 2 w B (zc p 1) c.fields
 slots:zM zu 1 w B (zc p 2) c.slots
 rng: -9223372036854775808<=c.sup/\c.sup<=9223372036854775807
theorem vw.keeps:ZC vw:=fun _ _ _ _ _ _ h hp hC hc=>⟨(hc _ hp).trans h.sup,zM.keeps zf.keeps 2 h.fields hp hC hc,zM.keeps zu.keeps 1 h.slots hp hC hc,h.rng⟩
structure kd(w:World)(B:Nat)(p:Addr)(x:zl):Prop where
 args:zM zf 2 w B p x.args
 locals:zM zf 2 w B (zc p 1) x.locals
 ret0:w.cell? (zc p 2)=some (.int .i64 x.ret.1)
 ret1:w.cell? (zc p 3)=some (.int .i64 x.ret.2)
 code:zM ju 3 w B (zc p 4) x.code
 depth:w.cell? (zc p 5)=some (.int .i64 x.depth)
 pot:w.cell? (zc p 6)=some (.int .i64 x.pot)
 phi:zM zu 1 w B (zc p 7) x.phi
theorem kd.keeps:ZC kd:=fun _ _ _ _ p _ h hp hC hc=>
 ⟨zM.keeps zf.keeps 2 h.args hp hC hc,zM.keeps zf.keeps 2 h.locals hp hC hc,(hc (zc p 2) hp).trans h.ret0,(hc (zc p 3) hp).trans h.ret1,zM.keeps ju.keeps 3 h.code hp hC hc,
  (hc (zc p 5) hp).trans h.depth,(hc (zc p 6) hp).trans h.pot,zM.keeps zu.keeps 1 h.phi hp hC hc⟩
structure zh where
 A0:Option Addr
 A1:Option Addr
 A2:Option Addr
 A3:Option Addr
 A4:Option Addr
 c0:Nat
 c1:Nat
 c2:Nat
 c3:Nat
 c4:Nat
abbrev zv(h:zh)(m:za):Value:=
 .agg #[.slice h.A0 m.classes.length h.c0,.slice h.A1 m.statics.length h.c1,.slice h.A2 m.ints.length h.c2,.slice h.A3 m.methods.length h.c3,.slice h.A4 m.entries.length h.c4,.int .i64 m.stack,.int .i64 m.heap]
structure zr(w:World)(B:Nat)(h:zh)(m:za):Prop where
 classes:zd vw 3 w B h.A0 h.c0 m.classes
 statics:zd zf 2 w B h.A1 h.c1 m.statics
 ints:zd Jt 1 w B h.A2 h.c2 m.ints
 methods:zd kd 8 w B h.A3 h.c3 m.methods
 entries:zd zu 1 w B h.A4 h.c4 m.entries
theorem zr.keep'{w w':World}{B C:Nat}{h:zh}{m:za}(H:zr w B h m)(hC:B<=C)(hc:∀q:Addr,q.block<B->w'.cell? q=w.cell? q):zr w' C h m:=
 ⟨H.classes.keep' vw.keeps hC hc,H.statics.keep' zf.keeps hC hc,H.ints.keep' Jt.keeps hC hc,H.methods.keep' kd.keeps hC hc,H.entries.keep' zu.keeps hC hc⟩
theorem zr.below_to{w w':World}{B C:Nat}{h:zh}{m:za}(H:zr w B h m)(hb:Below C w w')(hC:B<=C):zr w' B h m:=H.keep' (zn _) fun _ hq=>hb.cell (by omega)
theorem zr.more{w:World}{B C:Nat}{h:zh}{m:za}(H:zr w B h m)(hC:B<=C):zr w C h m:=H.keep' hC fun _ _=>rfl
open Go.ChangeShapes Go.WideShapes Go.ChangeAt Go.RowKit
def qb(l:List Int)(n:Int):Bool:=decide (n ∈l)
theorem qjv(n:Int):qb [] n=false:=rfl
theorem gY(l:List Int)(n:Int)(A:Option Addr)(cap B:Nat)(w:World)(hl:l.length<=9223372036854775807)(h:zw w B A (l.map (Value.int .i64))):
  Calls Tryz.prog 43 #[.slice A l.length cap,.int .i64 n] w fun e w'=>e= .returned (.bool (qb l n))/\w=w':=by
 have HL:=zH h;clear h;go_enter Tryz.func43,Tryz.ntmps43;go_wp2
 go_loop [5] (fun i=>∃k:Nat,k<=l.length/\i= .int .i64 k/\qb l n=qb (l.drop k) n) (fun i=>l.length - (intOf i).toNat)
 case atStart=>exact⟨0,by omega,rfl,rfl⟩
 case round=>
  obtain⟨k,hk,rfl,hn⟩:=hrel;have HN:=zH hn;clear hn;by_cases hlt:k<l.length
  ·obtain⟨ad,rfl,_,hc⟩:=HL.out.at_ (k:=k) (by simpa using hlt);have E1:=zH (Wq hlt);simp only[List.getElem_map]at hc;generalize l[k]=b at*
   by_cases hb:b=n
   ·subst hb;have R:=zH (show qb l b=true by rw[HN.out,E1.out];simp[qb]);clear HN E1;go_wp2_with fail
    go_ret;refine⟨?_,rfl⟩;rw[R.out];rfl
   ·have R:=zH (show qb l n=qb (l.drop (k+1)) n by
     rw[HN.out,E1.out];unfold qb;simp only[XZ];rw[Wj];constructor
     ·rintro(h|h)
      ·exact absurd h.symm hb
      ·exact h
     ·exact .inr)
    clear HN E1;go_wp2_with fail
    go_round
    case rel=>exact⟨k+1,by omega,by go_num,R.out⟩
    case measure=>simp[intOf];omega
  ·have R:=zH (show qb l n=false by rw[HN.out,Wm (by omega)];rfl);clear HN;go_wp2_with fail
   go_ret;refine⟨?_,rfl⟩;rw[R.out];rfl
def kS(k:Int):Bool:=decide (k=2\/k=3\/k=4)
def jl(k n c:Int):Bool:=decide ((k=1\/k=2)/\n=0\/k=3/\0<=n/\n<c)
theorem RD(k n:Int)(w:World):Calls Tryz.prog 97 #[zF k n] w fun e w'=>e= .returned (.bool (kS k))/\Below w.heap.size w w':=by
 by_cases h:k=2\/k=3\/k=4
 ·have E:=zH (show kS k=true from Xi h);rcases h with rfl|rfl|rfl;all_goals
   go_enter Tryz.func97,Tryz.ntmps97;go_wp2
   go_ret;refine⟨?_,?_⟩
   ·rw[E.out];rfl
   ·exact zk
 ·have E:=zH (show kS k=false from Xf h);have h2:¬k=2:=by omega
  have h3:¬k=3:=by omega
  have h4:¬k=4:=by omega
  clear h;go_enter Tryz.func97,Tryz.ntmps97;go_wp2
  go_ret;refine⟨?_,?_⟩
  ·rw[E.out];simp[h2,h3,h4]
  ·exact zk
def ig(sup:List Int)(c:Nat):List Int:=match sup[c]? with
 |none=> []
 |some s=>(c:Int)::(if h:0<=s/\s<c then ig sup s.toNat else [])
termination_by c
decreasing_by omega
def zz(sup:List Int)(c:Int):List Int:=if 0<=c then ig sup c.toNat else []
theorem yL{sup:List Int}{c:Nat}(h:sup.length<=c):ig sup c=[]:=by
 rw[ig,XE h]
theorem Dp{sup:List Int}{c:Nat}{s:Int}(h:sup[c]? =some s):ig sup c=(c:Int)::(if s<c then zz sup s else []):=by
 rw[ig,h];dsimp only;unfold zz;by_cases h1:s<c
 ·by_cases h2:0<=s
  ·rw[dif_pos ⟨h2,h1⟩,Xb h1,Xb h2]
  ·rw[dif_neg (fun g=>h2 g.1),Xb h1,Xa h2]
 ·rw[dif_neg (fun g=>h1 g.2),Xa h1]
theorem Re(sup:List Int)(c:Nat):(ig sup c).length<=c+1:=by
 induction c using Nat.strongRecOn with
 |ind c ih=>
  rw[ig];split
  ·simp
  ·rename_i s _;by_cases h:0<=s/\s<c
   ·rw[dif_pos h];have:=ih s.toNat (by omega)
    simp;omega
   ·rw[dif_neg h];simp
theorem ZL:(Tryz.prog.info? 3).map (fun i=>(i.zero,i.size,i.bytes))=some (some (.int .i64 0),1,8):=by kernel_rfl
def ZR(l:List Int)(w:World)(e:Ending)(w':World):Prop:=
 ∃v,e= .returned v/\w'.ownsRow w.heap.size 3 1 v l.length (l.map (Value.int .i64))/\Below w.heap.size w w'
theorem o6{B:Nat}{w w1:World}{e:TypeId}{v v':Value}{pre:List Int}{b:Int}{o:Obj}{wr:World}
  (hown:wr.ownsRow B e 1 v pre.length (pre.map (Value.int .i64))) (hB:B<=wr.heap.size) (hnx:Below B w wr)
  (hown':w1.ownsRow B e 1 v' (pre.length+1) (pre.map (Value.int .i64)++[.int .i64 b])) (hgrow:(wr.alloc o).grownBy w1 v.ownBlock):
  w1.ownsRow B e 1 v' (pre++[b]).length ((pre++[b]).map (Value.int .i64))/\Below B w w1:=
 ⟨by simpa using hown',(hnx.alloc hB o).grown hgrow (by simp;omega) (fun j hj=>(hown.lt j hj).1)⟩
set_option maxRecDepth 1000000 in
set_option maxHeartbeats 1600000 in
theorem DI(sup:List Int)(c:Int)(A:Option Addr)(cap B:Nat)(w:World)(hl:sup.length<=1048576)(hB:B<=w.heap.size)(h:jh w B A sup):
  Calls Tryz.prog 65 #[.slice A sup.length cap,.int .i64 c] w (ZR (zz sup c) w):=by
 obtain⟨i0,hi,hz0,hz1,hz2⟩:=info_parts ZL;have HL:=zH h;clear h;go_enter Tryz.func65,Tryz.ntmps65;go_wp2
 go_loopw [1,5] (fun a v wr=>∃(C:Int) (pre:List Int),a= .int .i64 C/\pre++zz sup C=zz sup c/\pre.length<=1048576/\(0<=C->C<sup.length->pre.length+C+1<=sup.length)/\
   wr.ownsRow w.heap.size 3 1 v pre.length (pre.map (Value.int .i64))/\Below w.heap.size w wr) (fun a _ _=>(intOf a+1).toNat)
 case atStart=>
  refine⟨c,[],rfl,rfl,by simp,by simp;omega,⟨rfl,.inr ⟨w.heap.size,0,#[],rfl,zn _,Xz _ _,zn _,by unfold maxLen;omega,rfl,rfl⟩⟩,zk⟩
 case round=>
  obtain⟨C,pre,rfl,hpre,hp1,hp2,hown,hnx⟩:=hrel;have HP:=zH hpre;clear hpre;by_cases h0:0<=C
  ·by_cases h1:C<sup.length
   ·obtain⟨K,rfl⟩:=Xj h0;have hlt:K<sup.length:=by omega
    have hs0:=Xc hlt;obtain⟨ad,rfl,hab,hc⟩:=HL.out K _ hs0;have A1:=zH (Dp hs0);clear hs0;generalize sup[K]=s at*
    have hp3:pre.length+K+1<=sup.length:=by have:=hp2 h0 h1;omega
    clear hp2;have hcr:=(hnx.cell (p:=ad.add (K*3)) (by rw[zC];omega)).trans hc;clear hc;go_wp2_with(at_builtin;refine wpList_append_own _ rfl _ _ 27 rfl w.heap.size 3 i0 (.int .i64 0) 1 8 Tryz.underlying27 hi hz0 hz1 hz2 rfl (by decide) _ _ _ rfl (hown.alloc _) ⟨_,0,none⟩ 1 1 [.int .i64 (K:Int)] rfl rfl ?c1 ?c2 ?c3 ?c4 ?c5 ?_)
    case c1=>
     intro j u hj
     match j,hj with
     |0,hj=>simp at hj;subst hj;simp[Addr.add]
    case c2=>intro u hu;simp at hu;subst hu;rfl
    case c3=>unfold maxLen;omega
    case c4=>omega
    case c5=>have:=hnx.size;simp;omega
    intro v' w1 hown' hgrow _;have hb1:=(hnx.alloc hnx.size _).grown hgrow (by simp;have:=hnx.size;omega) (fun j hj=>(hown.lt j hj).1);have R:=o6 hown hnx.size hnx hown' hgrow;have hc1:w1.cell? (ad.add (K*3))=some (.int .i64 s):=((R.2.cell (p:=ad.add (K*3)) (by rw[zC];omega)).trans (hnx.cell (p:=ad.add (K*3)) (by rw[zC];omega)).symm).trans hcr;clear hown' hgrow hown hcr hb1;have AK:=zH (show zz sup (K:Int)=(K:Int)::(if s<K then zz sup s else [])by unfold zz;rw[Xb (by omega),Xo];exact A1.out);clear A1;by_cases hs:s<K
    ·have A2:=zH (show(pre++[(K:Int)])++zz sup s=zz sup c by rw[<-HP.out,AK.out,Xb hs];simp);clear AK HP;go_wp2_with fail
     go_roundw;case rel=>exact⟨s,pre++[(K:Int)],rfl,A2.out,by simp;omega,by simp;omega,R.1,R.2⟩
     case measure=>simp[intOf];omega
    ·have A2:=zH (show(pre++[(K:Int)])++zz sup (-1)=zz sup c by rw[<-HP.out,AK.out,Xa hs];simp[zz]);clear AK HP;go_wp2_with fail
     go_roundw;case rel=>exact⟨-1,pre++[(K:Int)],rfl,A2.out,by simp;omega,by simp,R.1,R.2⟩
     case measure=>simp[intOf]
   ·have A2:=zH (show pre=zz sup c by rw[<-HP.out];unfold zz;rw[Xb h0,yL (by omega)];simp);clear HP;go_wp2_with fail
    go_ret;rw[<-A2.out];exact⟨_,rfl,hown,hnx⟩
  ·have A2:=zH (show pre=zz sup c by rw[<-HP.out];unfold zz;rw[Xa h0];simp);clear HP;go_wp2_with fail
   go_ret;rw[<-A2.out];exact⟨_,rfl,hown,hnx⟩
def zB(sup:List Int)(k n k' n':Int):Bool:=if k=4 then kS k' else if k=3 then decide (k'=3)&& qb (zz sup n) n' else decide ((k=1\/k=2)/\k=k'/\n=n')
theorem Yo{W w1:World}(hb:Below W.heap.size W w1):(∀b o,b<W.heap.size->w1.cell? ⟨b,o,none⟩=W.cell? ⟨b,o,none⟩)/\(∀b o,b<W.heap.size->w1.frozen? ⟨b,o,none⟩=W.frozen? ⟨b,o,none⟩):=
 ⟨fun b o h=>hb.cell (p:=⟨b,o,none⟩) h,fun b o h=>hb.frozen (p:=⟨b,o,none⟩) h⟩
theorem pz(sup:List Int)(n:Int):(zz sup n).length<=sup.length:=by
 unfold zz;split
 ·rcases Xl n.toNat sup.length with g|g
  ·have:=Re sup n.toNat;omega
  ·rw[yL g];simp
 ·simp
theorem q33{P:Program}{w:World}(base:Nat)(t ty e:TypeId)(i:TypeInfo)(size c:Nat)(ht:P.underlying t=some (.slice e))(hi:P.info? e=some i)
  (v:Value) (n:Nat) (xs:List Value) (hown:w.ownsRow base e size v n xs):
  (Builtin.append_ #[t,t] ty #[v,.slice none 0 c]).run P w= .ok v w:=by
 rcases hown.2 with⟨rfl,rfl⟩|⟨g,cap,cur,rfl,_,_,hnc,_⟩
 ·simp[Builtin.append_,run_underlying ht,sizeOf,typeInfo,hi,Builtin.lenOf,Builtin.firstCells]
 ·simp[Builtin.append_,run_underlying ht,sizeOf,typeInfo,hi,Builtin.lenOf,Builtin.firstCells,hnc,storeCells]
theorem W9{P:Program}{w:World}{o:Oper}{a:Act}{K:Act->World->Prop}{Q:Exit->Act->World->Prop}(s x:Operand)(t:TypeId)
  (ho:o.op= .call {callee:= .builtin .append,args:= #[s,x],argTypes:= #[t,t]})
  (base:Nat) (e:TypeId) (i:TypeInfo) (z:Value) (size bytes:Nat) (ht:P.underlying t=some (.slice e)) (hi:P.info? e=some i) (hz:i.zero=some z)
  (hsize:i.size=size) (hby:i.bytes=bytes) (hzs:z.cells.size=size) (hsz:0<size)
  (v:Value) (n:Nat) (xs:List Value) (hs:a.eval s=v) (hown:w.ownsRow base e size v n xs)
  (A:Option Addr) (m c B:Nat) (news:List Value) (hm:news.length=m*size) (hx:a.eval x= .slice A m c) (hl:zw w B A news) (h1:∀u ∈news,u.oneCell'=true)
  (h63:n+m<=maxLen) (hbytes:(n+m)*bytes<=140737488355328) (hbase:base<=w.heap.size)
  (h:∀v' w',w'.ownsRow base e size v' (n+m) (xs++news)->w.grownBy w' v.ownBlock->K (a.put o.dst v') w'):o.wp P a w K Q:=by
 rcases A with _|ad
 ·have hn:news=[]:=by
   cases news with
   |nil=>rfl
   |cons b r=>
    obtain⟨ad,e,_⟩:=hl 0 b rfl;cases e
  subst hn;have hm0:m=0:=by
   rcases Nat.eq_zero_or_pos m with g|g
   ·exact g
   ·have:0<m*size:=Nat.mul_pos g hsz
    grind
  subst hm0;have hrun:=q33 (P:=P) (w:=w) base t o.type e i size c ht hi v n xs hown;have hk:=h v w (by simpa using hown) (World.grownBy.refl _ _);unfold Oper.wp;simp[execOp,ho,resolve,invoke,builtin,hs,hx,hrun,Result.andThen];exact hk
 ·refine wp_append_own w s x t ho base e i z size bytes ht hi hz hsize hby hzs hsz v n xs hs hown ad m c news hx hm (fun j u hu=> ?_) h1 h63 hbytes hbase (by grind);obtain⟨ad',e,_,hc⟩:=hl j u hu
  grind
theorem Zv{P:Program}{w:World}{ops:Array Oper}{rest:List Oper}{o:Oper}{a:Act}{Q:Exit->Act->World->Prop}(hgd:o.guard=none)(s x:Operand)(t:TypeId)
  (ho:o.op= .call {callee:= .builtin .append,args:= #[s,x],argTypes:= #[t,t]})
  (base:Nat) (e:TypeId) (i:TypeInfo) (z:Value) (size bytes:Nat) (ht:P.underlying t=some (.slice e)) (hi:P.info? e=some i) (hz:i.zero=some z)
  (hsize:i.size=size) (hby:i.bytes=bytes) (hzs:z.cells.size=size) (hsz:0<size)
  (v:Value) (n:Nat) (xs:List Value) (hs:a.eval s=v) (hown:w.ownsRow base e size v n xs)
  (A:Option Addr) (m c B:Nat) (news:List Value) (hm:news.length=m*size) (hx:a.eval x= .slice A m c) (hl:zw w B A news) (h1:∀u ∈news,u.oneCell'=true)
  (h63:n+m<=maxLen) (hbytes:(n+m)*bytes<=140737488355328) (hbase:base<=w.heap.size)
  (h:∀v' w',w'.ownsRow base e size v' (n+m) (xs++news)->w.grownBy w' v.ownBlock->wpList P ops Q rest (a.put o.dst v') w'):wpList P ops Q (o::rest) a w:=
 (by grind [wpList_plain,W9])
theorem gL{P:Program}{w:World}{ops:Array Oper}{o:Oper}{a:Act}{K:Act->World->Prop}{Q:Exit->Act->World->Prop}{E:Prop}(hgd:o.guard=none)(s x:Operand)(t:TypeId)
  (ho:o.op= .call {callee:= .builtin .append,args:= #[s,x],argTypes:= #[t,t]})
  (base:Nat) (e:TypeId) (i:TypeInfo) (z:Value) (size bytes:Nat) (ht:P.underlying t=some (.slice e)) (hi:P.info? e=some i) (hz:i.zero=some z)
  (hsize:i.size=size) (hby:i.bytes=bytes) (hzs:z.cells.size=size) (hsz:0<size)
  (v:Value) (n:Nat) (xs:List Value) (hs:a.eval s=v) (hown:w.ownsRow base e size v n xs)
  (A:Option Addr) (m c B:Nat) (news:List Value) (hm:news.length=m*size) (hx:a.eval x= .slice A m c) (hl:zw w B A news) (h1:∀u ∈news,u.oneCell'=true)
  (h63:n+m<=maxLen) (hbytes:(n+m)*bytes<=140737488355328) (hbase:base<=w.heap.size)
  (h:∀v' w',w'.ownsRow base e size v' (n+m) (xs++news)->w.grownBy w' v.ownBlock->K (a.put o.dst v') w'):
  if Region.wanted o (yielded ops a.tmps)=true then Oper.wp P o a w K Q else E:=by
 have hw:Region.wanted o (yielded ops a.tmps)=true:=by simp[Region.wanted,hgd]
 rw[Xb hw]
 grind [W9]
theorem LD{α β:Type}{f:α->List β}{k:Nat}(hk:0<k)(hf:∀x,(f x).length=k):∀(l:List α) (j:Nat) (u:β),(l.flatMap f)[j]? =some u->∃i r x,j=i*k+r/\r<k/\l[i]? =some x/\(f x)[r]? =some u
 | [],j,u,h=>by simp at h
 |x::l,j,u,h=>by
  rw[List.flatMap_cons]at h;rcases Xl j k with g|g
  ·rw[XO (by rw[hf];exact g)]at h;exact⟨0,j,x,by simp,g,rfl,h⟩
  ·rw[XN (by rw[hf];exact g),hf]at h;obtain⟨i,r,y,hj,hr,hi,hu⟩:=LD hk hf l (j - k) u h;exact⟨i+1,r,y,by grind,hr,hi,hu⟩
theorem YP{α β:Type}{f:α->List β}{k:Nat}(hf:∀x,(f x).length=k):∀(l:List α) (i r:Nat) (x:α),l[i]? =some x->r<k->(l.flatMap f)[i*k+r]? =(f x)[r]?
 | [],i,r,x,h,_=>by simp at h
 |y::l,0,r,x,h,hr=>by
  grind
 |y::l,i+1,r,x,h,hr=>by
  rw[List.flatMap_cons,XN (by rw[hf,Nat.add_mul];omega),hf];rw[show(i+1)*k+r - k=i*k+r by rw[Nat.add_mul];omega];exact YP hf l i r x (by grind) hr
theorem Du{α β:Type}{f:α->List β}{k:Nat}(hf:∀x,(f x).length=k):∀l:List α,(l.flatMap f).length=l.length*k
 | []=>by simp
 |x::l=>by rw[List.flatMap_cons,Xh,hf,Du hf l,XI,Nat.add_mul];omega
def tyC(t:Int×Int):List Value:=[.int .i64 t.1,.int .i64 t.2]
def zN(l:List (Int×Int)):List Value:=l.flatMap tyC
theorem Yt(l:List (Int×Int)):(zN l).length=l.length*2:=Du (f:=tyC) (k:=2) (fun _=>rfl) l
theorem QM(l:List (Int×Int)):∀u ∈zN l,u.oneCell'=true:=fun u hu=>by
 obtain⟨t,_,h⟩:=List.mem_flatMap.mp hu;simp[tyC]at h;rcases h with rfl|rfl<;>rfl
theorem YQ{w:World}{B:Nat}{A:Option Addr}{l:List (Int×Int)}(h:qD zf 2 w B A l):zw w B A (zN l):=fun j u hu=>by
 obtain⟨i,r,t,rfl,hr,hi,hv⟩:=LD (f:=tyC) (k:=2) (by decide) (fun _=>rfl) l j u hu;obtain⟨ad,e,hb,h0,h1⟩:=h i t hi;refine⟨ad,e,hb,?_⟩
 match r,hr,hv with
 |0,_,hv=>simp[tyC]at hv;grind
 |1,_,hv=>
  simp[tyC]at hv;subst hv;rw[<-uK];have e:(ad.add (i*2)).add 1=zc (ad.add (i*2)) 1:=by unfold Addr.add;simp
  grind
theorem lZ{w:World}{B e size n g c:Nat}{xs:List Value}(h:w.ownsRow B e size (.slice (some ⟨g,0,none⟩) n c) n xs):B<=g/\∀j u,xs[j]? =some u->w.cell? ⟨g,j,none⟩=some u/\g<w.heap.size:=by
 rcases h.2 with⟨h1,_⟩|⟨g',cap,cur,h1,hb,hh,_,_,_,hx⟩
 ·cases h1
 ·injection h1 with h1;simp at h1;subst h1;refine⟨hb,fun j u hj=> ?_⟩;have hu:cur.toList[j]? =some u:=by
   grind
  have hc:w.cell? ⟨g,j,none⟩=some u:=by simp[World.cell?,hh];grind
  grind
theorem Je{w:World}{B e size n:Nat}{v:Value}{xs:List Value}(h:w.ownsRow B e size v n xs):(v= .slice none 0 0/\n=0)\/∃g c,v= .slice (some ⟨g,0,none⟩) n c/\n<=c/\c<=9223372036854775807:=by
 rcases h.2 with⟨h1,h2⟩|⟨g',cap,cur,h1,hb,hh,h3,h4,_,hx⟩
 ·grind
 ·exact .inr ⟨g',cap,h1,h3,by unfold maxLen at h4;omega⟩
theorem Yq{w:World}{B e:Nat}{v:Value}{l:List (Int×Int)}(h:w.ownsRow B e 2 v l.length (zN l)):∃A c,v= .slice A l.length c/\zd zf 2 w w.heap.size A c l/\(A=none->c=0):=by
 rcases Je h with⟨rfl,hn⟩|⟨g,c,rfl,h1,h2⟩
 ·have:l=[]:=(by grind)
  subst this;exact⟨none,0,rfl,⟨zn _,by omega,qD.nil⟩,fun _=>rfl⟩
 ·obtain⟨hb,hc⟩:=lZ h;refine⟨_,c,rfl,⟨h1,h2,fun i t hi=> ?_⟩,fun x=>by cases x⟩;have e0:=YP (f:=tyC) (k:=2) (fun _=>rfl) l i 0 t hi (by decide);have e1:=YP (f:=tyC) (k:=2) (fun _=>rfl) l i 1 t hi (by decide);obtain⟨c0,hg⟩:=hc _ _ e0;obtain⟨c1,_⟩:=hc _ _ e1;have ea:(Addr.add ⟨g,0,none⟩ (i*2))=⟨g,i*2,none⟩:=by
   unfold Addr.add;grind
  refine⟨_,rfl,hg,?_,?_⟩;all_goals grind
theorem Ji{w:World}{B e:Nat}{v:Value}{l:List Int}(h:w.ownsRow B e 1 v l.length (l.map (Value.int .i64))):∃A c,v= .slice A l.length c/\zw w w.heap.size A (l.map (Value.int .i64))/\l.length<=c/\c<=9223372036854775807:=by
 rcases Je h with⟨rfl,hn⟩|⟨g,c,rfl,h1,h2⟩
 ·have:l=[]:=(by grind)
  subst this;exact⟨none,0,rfl,zw.nil,zn _,by omega⟩
 grind [zw.of_own]
theorem bJ(w:World)(T:TypeId)(k:Nat):(w.alloc (.cells #[] T)).ownsRow w.heap.size T k (.slice (some ⟨w.heap.size,0,none⟩) 0 0) 0 []:=
 ⟨by simp,.inr ⟨w.heap.size,0,#[],rfl,zn _,Xz _ _,zn _,by omega,by simp,by simp⟩⟩
theorem jx{B:Nat}{w w1 w2:World}{v:Value}{e size n:Nat}{xs:List Value}(hb:Below B w w1)(hown:w1.ownsRow B e size v n xs)(hB:B<=w1.heap.size)(hg:w1.grownBy w2 v.ownBlock):Below B w w2:=
 hb.grown hg hB fun k hk=>by
  rcases hown.2 with⟨rfl,_⟩|⟨g',cap,cur,rfl,hb',_⟩
  ·simp[Value.ownBlock]at hk
  ·have:g'=k:=by simpa[Value.ownBlock]using hk
   omega
def zQ(w:World)(N:Nat)(vs:List Value):Prop:=∀i v,vs[i]? =some v->w.cell? ⟨N,i,none⟩=some v
theorem zQ.keep{w w':World}{N B:Nat}{vs:List Value}(H:zQ w N vs)(hb:Below B w w')(hN:N<B):zQ w' N vs:=fun i v h=>(hb.cell (p:=⟨N,i,none⟩) hN).trans (H i v h)
theorem qr(w:World)(vs:List Value)(T:TypeId):zQ (w.alloc (.cells vs.toArray T)) w.heap.size vs:=fun i v h=>by
 rw[World.cell?_alloc_at _ _ _ _ rfl];simpa using h
theorem qv{w:World}{N:Nat}{v0 v1 v2:Value}{l:List Value}(h:zQ w N (v0::v1::v2::l)):w.cell? ⟨N,0,none⟩=some v0/\w.cell? ⟨N,1,none⟩=some v1/\w.cell? ⟨N,2,none⟩=some v2:=⟨h 0 _ rfl,h 1 _ rfl,h 2 _ rfl⟩
theorem ck7{w:World}{N:Nat}{v0 v1 v2 v3 v4 v5 v6:Value}{l:List Value}(h:zQ w N (v0::v1::v2::v3::v4::v5::v6::l)):w.cell? ⟨N,0,none⟩=some v0/\w.cell? ⟨N,1,none⟩=some v1/\w.cell? ⟨N,2,none⟩=some v2/\w.cell? ⟨N,3,none⟩=some v3/\w.cell? ⟨N,4,none⟩=some v4/\w.cell? ⟨N,5,none⟩=some v5/\w.cell? ⟨N,6,none⟩=some v6:=⟨h 0 _ rfl,h 1 _ rfl,h 2 _ rfl,h 3 _ rfl,h 4 _ rfl,h 5 _ rfl,h 6 _ rfl⟩
theorem qp{w:World}{N:Nat}{v0 v1 v2 v3 v4 v5 v6 v7:Value}{l:List Value}(h:zQ w N (v0::v1::v2::v3::v4::v5::v6::v7::l)):w.cell? ⟨N,0,none⟩=some v0/\w.cell? ⟨N,1,none⟩=some v1/\w.cell? ⟨N,2,none⟩=some v2/\w.cell? ⟨N,3,none⟩=some v3/\w.cell? ⟨N,4,none⟩=some v4/\w.cell? ⟨N,5,none⟩=some v5/\w.cell? ⟨N,6,none⟩=some v6/\w.cell? ⟨N,7,none⟩=some v7:=⟨h 0 _ rfl,h 1 _ rfl,h 2 _ rfl,h 3 _ rfl,h 4 _ rfl,h 5 _ rfl,h 6 _ rfl,h 7 _ rfl⟩
theorem zi{w0 w w':World}(H:Hid (Below w0.heap.size w0 w))(hb:Below w.heap.size w w'):Hid (Below w0.heap.size w0 w'):=zH (H.out.trans (hb.mono H.out.size))
def YW(w:World)(N:Nat)(h:zh)(m:za):Prop:=
 w.cell? ⟨N,0,none⟩=some (.slice h.A0 m.classes.length h.c0)/\w.cell? ⟨N,1,none⟩=some (.slice h.A1 m.statics.length h.c1)/\w.cell? ⟨N,2,none⟩=some (.slice h.A2 m.ints.length h.c2)/\
 w.cell? ⟨N,3,none⟩=some (.slice h.A3 m.methods.length h.c3)/\w.cell? ⟨N,4,none⟩=some (.slice h.A4 m.entries.length h.c4)/\w.cell? ⟨N,5,none⟩=some (.int .i64 m.stack)/\w.cell? ⟨N,6,none⟩=some (.int .i64 m.heap)
theorem YW.keep{w w':World}{N B:Nat}{h:zh}{m:za}(H:YW w N h m)(hb:Below B w w')(hN:N<B):YW w' N h m:=by
 obtain⟨h0,h1,h2,h3,h4,h5,h6⟩:=H;have c:∀i,w'.cell? ⟨N,i,none⟩=w.cell? ⟨N,i,none⟩:=fun i=>hb.cell (p:=⟨N,i,none⟩) hN;exact⟨(c 0).trans h0,(c 1).trans h1,(c 2).trans h2,(c 3).trans h3,(c 4).trans h4,(c 5).trans h5,(c 6).trans h6⟩
abbrev ze(h:zh)(m:za):Obj:=
 .cells #[.slice h.A0 m.classes.length h.c0,.slice h.A1 m.statics.length h.c1,.slice h.A2 m.ints.length h.c2,.slice h.A3 m.methods.length h.c3,.slice h.A4 m.entries.length h.c4,.int .i64 m.stack,.int .i64 m.heap] 29
theorem qd(w:World)(h:zh)(m:za):YW (w.alloc (ze h m)) w.heap.size h m:=by
 refine⟨?_,?_,?_,?_,?_,?_,?_⟩<;>(simp_all)
theorem Jk{α:Type}{f:α->Bool}{l:List α}{k:Nat}(hk:k<l.length)(h:∀x ∈l.take k,f x=true)(hx:f l[k]=true):∀x ∈l.take (k+1),f x=true:=by
 grind [Xx,Xc]
theorem JP{α:Type}{f:α->Bool}{l:List α}{k:Nat}(hk:k<l.length)(hx:f l[k]=false):l.all f=false:=by
 grind
theorem JQ{α:Type}{f:α->Bool}{l:List α}{k:Nat}(h:∀x ∈l.take k,f x=true)(hk:l.length<=k):l.all f=true:=by
 grind [XA]
abbrev I7(N:Nat)(A0 A1 A2 A3 A4:Option Addr)(k0 k1 k2 k3 k4:Nat)(m:za)(w':World)(R:Prop):Prop:=w'.cell? ⟨N,0,none⟩=some (.slice A0 m.classes.length k0)/\w'.cell? ⟨N,1,none⟩=some (.slice A1 m.statics.length k1)/\w'.cell? ⟨N,2,none⟩=some (.slice A2 m.ints.length k2)/\w'.cell? ⟨N,3,none⟩=some (.slice A3 m.methods.length k3)/\w'.cell? ⟨N,4,none⟩=some (.slice A4 m.entries.length k4)/\w'.cell? ⟨N,5,none⟩=some (.int .i64 m.stack)/\w'.cell? ⟨N,6,none⟩=some (.int .i64 m.heap)/\R
abbrev I7h(N:Nat)(h:zh)(m:za)(w':World)(R:Prop):Prop:=I7 N h.A0 h.A1 h.A2 h.A3 h.A4 h.c0 h.c1 h.c2 h.c3 h.c4 m w' R
structure Boxed(w:World)(g:Nat)(h:zh)(m:za):Prop where
 box:YW w g h m
 lt:g<w.heap.size
 img:zr w w.heap.size h m
theorem zr.now{w w':World}{h:zh}{m:za}(H:zr w w.heap.size h m)(hb:Below w.heap.size w w'):zr w' w'.heap.size h m:=
 (H.below_to hb (zn _)).more hb.size
theorem Boxed.keep{w w':World}{g:Nat}{h:zh}{m:za}(H:Boxed w g h m)(hb:Below w.heap.size w w'):Boxed w' g h m:=
 ⟨H.box.keep hb H.lt,Xp H.lt hb.size,H.img.now hb⟩
theorem Boxed.new{w:World}{h:zh}{m:za}(H:zr w w.heap.size h m):Boxed (w.alloc (ze h m)) w.heap.size h m:=
 ⟨qd w h m,by simp,H.now (zk)⟩
theorem vU{w:World}{h:zh}{m:za}:Below w.heap.size w (w.alloc (ze h m)):=zk
theorem mvT{P:Program}{md:Region.Mode}{ops:Array Oper}{Q:Exit->Act->World->Prop}{S:World->Prop}{fuel:Nat}{listed:Array Bool}{a:Act}{w:World}(i:Nat){oi:Oper}{v:Value}(hS:S w)(hi:ops[i]? =some oi:=by rfl)
  (hs:Region.noSelect ops=true:=by kernel_rfl) (hf:Region.free md ops listed i=true:=by kernel_rfl) (hr:(Region.ready md ops listed).contains i=true:=by kernel_rfl)
  (hQ:∀c a w,Q (.panic c) (a.put oi.dst v) w->Q (.panic c) a w:=by exact fun _ _ _ h=>h) (hy:YieldsIf P ops S oi v a:=by(refine Or.inl ⟨by rfl,?_⟩;intro w hSw;(try dsimp only at hSw);go_simp<;>with_reducible rfl))
  (h:wpAnyH P md ops Q S fuel (listed.setIfInBounds i true) (a.put oi.dst v) w):wpAnyH P md ops Q S (fuel+1) listed a w:=(by grind [wpAnyH_take])
theorem mvU{P:Program}{md:Region.Mode}{ops:Array Oper}{Q:Exit->Act->World->Prop}{S:World->Prop}{fuel:Nat}{listed:Array Bool}{a:Act}{w:World}(i:Nat){oi:Oper}(hS:S w)(hi:ops[i]? =some oi:=by rfl)
  (hs:Region.noSelect ops=true:=by kernel_rfl) (hf:Region.free md ops listed i=true:=by kernel_rfl) (hr:(Region.ready md ops listed).contains i=true:=by kernel_rfl)
  (hQ:∀c a w,Q (.panic c) (a.put oi.dst undef) w->Q (.panic c) a w:=by exact fun _ _ _ h=>h) (hy:YieldsIf P ops S oi undef a:=by exact Or.inr ⟨by rfl,rfl⟩)
  (h:wpAnyH P md ops Q S fuel (listed.setIfInBounds i true) (a.put oi.dst undef) w):wpAnyH P md ops Q S (fuel+1) listed a w:=(by grind [wpAnyH_take])
theorem sA{α:Type}{xs:List α}{i:Nat}(h:i<xs.toArray.size):xs.toArray[i]=xs[i]'(by omega):=(by grind)
theorem sB{α:Type}{a:α}{ys:List α}{i:Nat}{h:i+1<(a::ys).length}:(a::ys)[i+1]'h=ys[i]'(by grind):=rfl
theorem sC{α:Type}{a:α}{ys:List α}{h:0<(a::ys).length}:(a::ys)[0]'h=a:=rfl
theorem sD{α:Type}{l:List α}{i:Nat}{a:α}:l.toArray.setIfInBounds i a=(l.set i a).toArray:=(by grind)
theorem sE{α:Type}{x:α}{xs:List α}{a:α}:(x::xs).set 0 a=a::xs:=rfl
theorem sF{α:Type}{x:α}{xs:List α}{i:Nat}{a:α}:(x::xs).set (i+1) a=x::xs.set i a:=rfl
theorem mT{P:Program}{md:Region.Mode}{ops:Array Oper}{Q:Exit->Act->World->Prop}{S:World->Prop}{fuel:Nat}{listed listed':Array Bool}{a a':Act}{w:World}(i:Nat){oi:Oper}{v:Value}(hS:S w:=by assumption)(hi:ops[i]? =some oi:=by rfl)
  (hs:Region.noSelect ops=true:=by kernel_rfl) (hf:Region.free md ops listed i=true:=by kernel_rfl) (hr:(Region.ready md ops listed).contains i=true:=by kernel_rfl)
  (hQ:∀c a w,Q (.panic c) (a.put oi.dst v) w->Q (.panic c) a w:=by exact fun _ _ _ h=>h) (hy:YieldsIf P ops S oi v a:=by(refine Or.inl ⟨by rfl,?_⟩;intro w hSw;(try dsimp only at hSw);go_simp<;>with_reducible rfl))
  (hl:listed.setIfInBounds i true=listed':=by(first|(simp only[sA,sB,sC,Act.put,sD,sE,sF]<;>rfl)|rfl))
  (ha:a.put oi.dst v=a':=by(first|(simp only[sA,sB,sC,Act.put,sD,sE,sF]<;>rfl)|rfl))
  (h:wpAnyH P md ops Q S fuel listed' a' w):wpAnyH P md ops Q S (fuel+1) listed a w:=(by grind [mvT])
theorem mU{P:Program}{md:Region.Mode}{ops:Array Oper}{Q:Exit->Act->World->Prop}{S:World->Prop}{fuel:Nat}{listed listed':Array Bool}{a a':Act}{w:World}(i:Nat){oi:Oper}(hS:S w:=by assumption)(hi:ops[i]? =some oi:=by rfl)
  (hs:Region.noSelect ops=true:=by kernel_rfl) (hf:Region.free md ops listed i=true:=by kernel_rfl) (hr:(Region.ready md ops listed).contains i=true:=by kernel_rfl)
  (hQ:∀c a w,Q (.panic c) (a.put oi.dst undef) w->Q (.panic c) a w:=by exact fun _ _ _ h=>h) (hy:YieldsIf P ops S oi undef a:=by exact Or.inr ⟨by rfl,rfl⟩)
  (hl:listed.setIfInBounds i true=listed':=by(first|(simp only[sA,sB,sC,Act.put,sD,sE,sF]<;>rfl)|rfl))
  (ha:a.put oi.dst undef=a':=by(first|(simp only[sA,sB,sC,Act.put,sD,sE,sF]<;>rfl)|rfl))
  (h:wpAnyH P md ops Q S fuel listed' a' w):wpAnyH P md ops Q S (fuel+1) listed a w:=(by grind [mvU])
theorem mR{P:Program}{md:Region.Mode}{ops:Array Oper}{Q:Exit->Act->World->Prop}{S:World->Prop}{fuel:Nat}{listed:Array Bool}{a:Act}{w:World}(r:Nat){o:Oper}(hr:Region.ready md ops listed=[r]:=by kernel_rfl)(ho:ops[r]? =some o:=by rfl)
  (h:∀K:Act->World->Prop,Shut (∀a w,S w->(S w->wpAnyH P md ops Q S fuel (listed.setIfInBounds r true) a w)->K a w)->if Region.wanted o (yielded ops a.tmps)=true then Oper.wp P o a w K Q else K (a.put o.dst undef) w):wpAnyH P md ops Q S (fuel+1) listed a w:=
 wpAnyH_ready hr (by simp) (AllReadyH.cons ho h AllReadyH.nil)
theorem mK{P:Program}{md:Region.Mode}{ops:Array Oper}{Q:Exit->Act->World->Prop}{S:World->Prop}{fuel r:Nat}{listed listed':Array Bool}{a a':Act}{w:World}{K:Act->World->Prop}(hK:Shut (∀a w,S w->(S w->wpAnyH P md ops Q S fuel (listed.setIfInBounds r true) a w)->K a w))(hS:S w)
  (hl:listed.setIfInBounds r true=listed':=by(first|(simp only[sA,sB,sC,Act.put,sD,sE,sF]<;>rfl)|rfl))
  (ha:a=a':=by(first|(simp only[sA,sB,sC,Act.put,sD,sE,sF]<;>rfl)|rfl))
  (h:S w->wpAnyH P md ops Q S fuel listed' a' w):K a w:=hK.out _ _ hS (by grind)
structure qH where
 A0:Option Addr
 A1:Option Addr
 A4:Option Addr
 A7:Option Addr
 k0:Nat
 k1:Nat
 k4:Nat
 k7:Nat
abbrev ZD(h:qH)(x:zl):Value:=
 .agg #[.slice h.A0 x.args.length h.k0,.slice h.A1 x.locals.length h.k1,.int .i64 x.ret.1,.int .i64 x.ret.2,.slice h.A4 x.code.length h.k4,.int .i64 x.depth,.int .i64 x.pot,.slice h.A7 x.phi.length h.k7]
abbrev qj(h:qH)(x:zl):List Value:=
 [.slice h.A0 x.args.length h.k0,.slice h.A1 x.locals.length h.k1,.int .i64 x.ret.1,.int .i64 x.ret.2,.slice h.A4 x.code.length h.k4,.int .i64 x.depth,.int .i64 x.pot,.slice h.A7 x.phi.length h.k7]
structure jR(w:World)(B:Nat)(h:qH)(x:zl):Prop where
 args:zd zf 2 w B h.A0 h.k0 x.args
 locals:zd zf 2 w B h.A1 h.k1 x.locals
 code:zd ju 3 w B h.A4 h.k4 x.code
 phi:zd zu 1 w B h.A7 h.k7 x.phi
theorem jR.now{w w':World}{h:qH}{x:zl}(H:jR w w.heap.size h x)(hb:Below w.heap.size w w'):jR w' w'.heap.size h x:=
 ⟨(H.args.below_to zf.keeps hb (zn _)).keep' zf.keeps hb.size (fun _ _=>rfl),(H.locals.below_to zf.keeps hb (zn _)).keep' zf.keeps hb.size (fun _ _=>rfl),
  (H.code.below_to ju.keeps hb (zn _)).keep' ju.keeps hb.size (fun _ _=>rfl),(H.phi.below_to zu.keeps hb (zn _)).keep' zu.keeps hb.size (fun _ _=>rfl)⟩
section
variable{α:Type}
theorem oU{l m:List α}(h:l.length=m.length)(k:Nat)(hk:l.take k=m.take k)(hl:l.length<=k):l=m:=by
 rw[XA hl,XA (by omega)]at hk;exact hk
theorem o9{l m:List α}{k:Nat}(hl:k<l.length)(hm:k<m.length)(h:¬l[k]=m[k]):¬l=m:=fun e=>by subst e;exact h rfl
theorem pE{l m:List α}{k:Nat}(hl:k<l.length)(hm:k<m.length)(hk:l.take k=m.take k)(h:l[k]=m[k]):l.take (k+1)=m.take (k+1):=by
 rw[Xx,Xx,Xc hl,Xc hm,hk,h]
end
theorem Ii(l m:List (Int×Int))(A A':Option Addr)(cap cap' B:Nat)(w:World)(hB:B<=w.heap.size)(h:zd zf 2 w B A cap l)(h':zd zf 2 w B A' cap' m):
  Calls Tryz.prog 28 #[.slice A l.length cap,.slice A' m.length cap'] w fun e w'=>e= .returned (.bool (decide (l=m)))/\Below w.heap.size w w':=by
 have hlc:=h.le;have hcm:=h.cap;have Oa:=h'.le;have hcm':=h'.cap;have HL:=zH h;have HM:=zH h';have HB:=zH hB;clear h h' hB;obtain⟨b,hb⟩:=zj (decide (l=m));rw[hb];have E:=zH hb.symm;clear hb;by_cases hn:l.length=m.length
 ·have Zj:=zH hn;have hlen:m.length=l.length:=hn.symm;rw[hlen];clear hn;go_enter Tryz.func28,Tryz.ntmps28;go_wp2
  go_loopw [5] (fun i wr=>∃k:Nat,k<=l.length/\i= .int .i64 k/\Hid (l.take k=m.take k)/\Hid (Below w.heap.size w wr)) (fun i _=>l.length - (intOf i).toNat)
  case atStart=>exact⟨0,by omega,rfl,zH (by simp),zH (zb _ _)⟩
  case round=>
   obtain⟨k,hk,rfl,HN,HX⟩:=hrel;by_cases hlt:k<l.length
   ·have vS:k<m.length:=by omega
    obtain⟨ad,rfl,hab,q0,q1⟩:=(HL.out.below_to zf.keeps HX.out HB.out).row.at_ hlt;obtain⟨ad',rfl,hab',ug,q1'⟩:=(HM.out.below_to zf.keeps HX.out HB.out).row.at_ vS;have jc:=zH (fun g=>o9 hlt vS g);have kG:=zH (fun g=>pE hlt vS HN.out g);generalize l[k]=t at*
    generalize m[k]=s at*
    obtain⟨x,y⟩:=t;obtain⟨x',y'⟩:=s;dsimp only at q0 q1 ug q1';by_cases hx:x=x'/\y=y'
    ·obtain⟨rfl,rfl⟩:=hx;have E2:=zH (kG.out rfl);go_wp2_with fail
     go_quiet (fail)
     go_wp2
     go_roundw;case rel=>exact⟨k+1,by omega,by go_num,E2,zH (jf HX.out _)⟩
     case measure=>simp[intOf];omega
    ·have E2:=zH (show b=false by rw[E.out];exact Xf (jc.out (by simpa using hx)));have qE:¬x=x'\/(x=x'/\¬y=y'):=by omega
     rcases qE with qE|⟨rfl,qE⟩
     all_goals
      go_wp2_with fail
      go_quiet (fail)
      go_wp2
      go_ret;exact⟨by rw[E2.out];rfl,(jf HX.out _)⟩
   ·have E2:=zH (show b=true by rw[E.out];exact Xi (oU Zj.out k HN.out (by omega)));go_wp2_with fail
    go_ret;exact⟨by rw[E2.out];rfl,HX.out⟩
 ·have E2:=zH (show b=false by rw[E.out];exact Xf (fun g=>hn (by rw[g])));have hn':((l.length:Int)==(m.length:Int))=false:=XG.mpr (by omega);go_enter Tryz.func28,Tryz.ntmps28;go_wp2
  go_ret;exact⟨by rw[E2.out];rfl,zb _ _⟩
def zm(w:World)(g:Nat)(vs:List Value)(T:TypeId):Prop:=w.heap[g]? =some (.cells vs.toArray T (0,0))
theorem zm.new(w:World)(vs:List Value)(T:TypeId):zm (w.alloc (.cells vs.toArray T)) w.heap.size vs T:=Xz _ _
theorem zm.at_{w:World}{N:Nat}(hN:w.heap.size=N)(vs:List Value)(T:TypeId):zm (w.alloc (.cells vs.toArray T)) N vs T:=by
 subst hN;exact zm.new w vs T
theorem zm.lt{w:World}{g:Nat}{vs:List Value}{T:TypeId}(h:zm w g vs T):g<w.heap.size:=by
 rcases Xl g w.heap.size with x|x
 ·exact x
 ·unfold zm at h;rw[Array.getElem?_eq_none x]at h;cases h
theorem zm.keep{w w':World}{g B:Nat}{vs:List Value}{T:TypeId}(h:zm w g vs T)(hb:Below B w w')(hg:g<B):zm w' g vs T:=(hb.block g hg).trans h
theorem zm.cells{w:World}{g:Nat}{vs:List Value}{T:TypeId}(h:zm w g vs T):zQ w g vs:=fun i v hi=>by
 unfold zm at h;simp[World.cell?,h,hi]
theorem zm.free{w:World}{g:Nat}{vs:List Value}{T:TypeId}(h:zm w g vs T)(i:Nat):w.frozen? ⟨g,i,none⟩=false:=by
 unfold zm at h;simp[World.frozen?,h]
theorem zm.set{w:World}{g:Nat}{vs:List Value}{T:TypeId}(h:zm w g vs T)(i:Nat)(v:Value):zm (w.setCell ⟨g,i,none⟩ v) g (vs.set i v) T:=by
 have:=heap_setCell_same w g i vs.toArray T v h;unfold zm;rw[this];simp
theorem va{α:Type}{At:qV α}{k:Nat}{w:World}{B:Nat}:zd At k w B none 0 []:=⟨zn _,by omega,qD.nil⟩
theorem Jf{w:World}{N:Nat}(hN:w.heap.size=N)(vs:List Value)(T:TypeId):
  zQ (w.alloc (.cells vs.toArray T)) N vs/\(w.alloc (.cells vs.toArray T)).heap.size=N+1/\Below N w (w.alloc (.cells vs.toArray T)):=by
 subst hN;exact⟨qr w vs T,by simp,zk⟩
theorem Y6{α:Type}{At:qV α}{k:Nat}{w:World}{B g:Nat}{x:α}(h:At w B ⟨g,0,none⟩ x)(hg:g<B):qD At k w B (some ⟨g,0,none⟩) [x]:=fun i y hi=>by
 match i,hi with
 |0,hi=>
  simp at hi;subst hi;refine⟨_,rfl,hg,?_⟩;rw[Nat.zero_mul,show(⟨g,0,none⟩:Addr).add 0=⟨g,0,none⟩by simp[Addr.add]];exact h
theorem gZ(w:World)(v:Value)(T:TypeId):zw (w.alloc (.cells #[v] T)) (w.alloc (.cells #[v] T)).heap.size (some ⟨w.heap.size,0,none⟩) [v]:=fun j u hj=>by
 match j,hj with
 |0,hj=>simp at hj;subst hj;exact⟨_,rfl,by simp,by simp[Addr.add]⟩
 |j+1,hj=>simp at hj
theorem bL{v:Value}(h:v.oneCell'=true):∀u ∈ [v],u.oneCell'=true:=fun u hu=>by
 rw[XR.mp hu];exact h
def kV(EL:List (List Int))(i j:Nat):Prop:=(j:Int) ∈EL[i]?.getD []
inductive qQ(EL:List (List Int))(n:Nat)(i:Nat):Nat->Prop
 |one {j:Nat} (h:kV EL i j):qQ EL n i j
 |snoc {p j:Nat} (h:qQ EL n i p) (hp:p<n) (e:kV EL p j):qQ EL n i j
theorem qQ.more{EL:List (List Int)}{n n' i j:Nat}(h:qQ EL n i j)(hn:n<=n'):qQ EL n' i j:=by
 induction h with
 |one h=>exact .one h
 |snoc _ hp e ih=>exact .snoc ih (by omega) e
theorem qQ.join{EL:List (List Int)}{n i p j:Nat}(h:qQ EL n i p)(hp:p<n)(h':qQ EL n p j):qQ EL n i j:=by
 induction h' with
 |one e=>exact .snoc h hp e
 |snoc _ hq e ih=>exact .snoc ih hq e
theorem qQ.split{EL:List (List Int)}{k i j:Nat}(h:qQ EL (k+1) i j):qQ EL k i j\/(qQ EL k i k/\qQ EL k k j):=by
 induction h with
 |one e=>exact .inl (.one e)
 | @snoc p j _ hp e ih=>
  by_cases hk:p=k
  ·subst hk;rcases ih with h1|⟨h1,_⟩
   ·exact .inr ⟨h1,.one e⟩
   ·exact .inr ⟨h1,.one e⟩
  ·rcases ih with h1|⟨h1,h2⟩
   ·exact .inl (.snoc h1 (by omega) e)
   ·exact .inr ⟨h1,.snoc h2 (by omega) e⟩
open Go.ChangeShapes Go.WideShapes Go.RowKit
def vr(p:Nat->Bool)(n:Nat):List Int:=((List.range n).filter p).map (fun g:Nat=>(g:Int))
theorem q77(p:Nat->Bool)(n:Nat):(vr p n).length<=n:=by
 unfold vr;rw[Xm];exact Xe (List.length_filter_le _ _) (by rw[List.length_range];exact zn _)
theorem pV{p:Nat->Bool}{n:Nat}{x:Int}:x ∈vr p n↔∃g:Nat,x=(g:Int)/\g<n/\p g=true:=by
 unfold vr;rw[X9];constructor
 ·rintro⟨g,hg,rfl⟩;rw[List.mem_filter,Wb]at hg;exact⟨g,rfl,hg⟩
 ·rintro⟨g,rfl,hg⟩;exact⟨g,by rw[List.mem_filter,Wb];exact hg,rfl⟩
theorem Ty{p q:Nat->Bool}{n:Nat}(h:∀g,g<n->p g=q g):vr p n=vr q n:=by
 unfold vr;congr 1;exact List.filter_congr (fun g hg=>h g (Wb.mp hg))
def oN(O:List Int)(t:Nat):Int:=O[t]?.getD 0
theorem VG{O:List Int}{t:Nat}(h:t<O.length):oN O t=O[t]:=by unfold oN;rw[Xc h];rfl
theorem mM{O:List Int}{f t:Nat}{v:Int}(hf:f<O.length):oN (O.set f v) t=if t=f then v else oN O t:=by
 unfold oN;rw[Wf];by_cases h:f=t
 ·subst h;rw[Xb rfl,Xb hf,Xb rfl];rfl
 ·rw[Xa h,Xa (fun e=>h e.symm)]
theorem mi{z v:Value}(hz:z.cells= #[v])(n:Nat):(madeCells z.cells (n*1)).toList=List.replicate n v:=by
 rw[hz];refine List.ext_getElem? fun i=> ?_;unfold madeCells;by_cases hi:i<n
 ·rw[Array.getElem?_toList,Array.getElem?_map,Array.getElem?_range,Xb (by omega),List.getElem?_replicate,Xb hi];simp[Nat.mod_one]
 ·rw[XE (by simp;omega),XE (by simp;omega)]
theorem o5{w:World}{base g n:Nat}{xs:List Value}{T:TypeId}(h:w.ownsRow base T 1 (.slice (some ⟨g,0,none⟩) n n) n xs):zm w g xs T:=by
 obtain⟨h0,h1⟩:=h;rcases h1 with⟨h1,_⟩|⟨g',cap,cur,h1,_,hh,_,_,hs,hx⟩
 ·cases h1
 ·injection h1 with e1 e2 e3;simp at e1;subst e1 e3;have hc:cur.toList=xs:=by rw[<-hx,XA (by rw[Array.length_toList,hs];exact zn _)]
  unfold zm;rw[hh,<-hc]
def qk(w:World)(g:Nat)(O:List Int):Prop:=zm w g (O.map (Value.int .i64)) 3
theorem qk.at_{w:World}{g t:Nat}{O:List Int}(h:qk w g O)(ht:t<O.length):w.cell? ⟨g,t,none⟩=some (.int .i64 (oN O t)):=by
 refine h.cells t _ ?_;rw[XF,Xc ht,VG ht];rfl
theorem qk.set{w:World}{g t:Nat}{O:List Int}(h:qk w g O)(v:Int):qk (w.setCell ⟨g,t,none⟩ (.int .i64 v)) g (O.set t v):=by
 have:=zm.set h t (.int .i64 v);unfold qk;rw[Wd];exact this
theorem qk.keep{w w':World}{g:Nat}{O:List Int}(h:qk w g O)(hb:Below w.heap.size w w'):qk w' g O:=zm.keep h hb (zm.lt h)
theorem qk.slc{w:World}{g n:Nat}{O:List Int}(h:qk w g O)(hn:O.length=n)(hl:n<=1000):zd zu 1 w w.heap.size (some ⟨g,0,none⟩) n O:=
 ⟨by omega,by omega,fun i x hi=>by
  obtain⟨hi',e⟩:=Xv.mp hi;have hc:=h.at_ hi';rw[VG hi',e]at hc;refine⟨_,rfl,zm.lt h,?_⟩;show w.cell? (Addr.add ⟨g,0,none⟩ (i*1))=_;rw[show Addr.add ⟨g,0,none⟩ (i*1)=⟨g,i,none⟩by unfold Addr.add;split<;>simp_all];exact hc⟩
def cO(p:Nat->Bool):Nat->Nat
 |0=>0
 |n+1=>cO p n+if p n then 0 else 1
theorem SI{p:Nat->Bool}{g:Nat}:∀n,n<=g->cO (fun k=>p k||decide (k=g)) n=cO p n
 |0,_=>rfl
 |n+1,h=>by
  unfold cO;rw[SI n (by omega),show decide (n=g)=false from Xf (by omega),Bool.or_false]
theorem DU{p:Nat->Bool}{g:Nat}(hp:p g=false):∀n,g<n->cO (fun k=>p k||decide (k=g)) n+1=cO p n
 |0,h=>by omega
 |n+1,h=>by
  unfold cO;by_cases e:n=g
  ·subst e;rw[SI n (zn _),hp];simp
  ·have:=DU hp n (by omega);rw[show decide (n=g)=false from Xf e,Bool.or_false];omega
theorem Rh:∀n,cO (fun _=>false) n=n
 |0=>rfl
 |n+1=>by unfold cO;rw[Rh n];rfl
open Go.Maps (Keyed)
theorem rq:Keyed Tryz.prog 3:=Go.Maps.int_keyed Tryz.underlying3
theorem qac(w:World):(zeroValue 177).run Tryz.prog w= .ok (.agg #[]) w:=by kernel_rfl
theorem RO(p:Nat->Bool)(n:Nat):(vr p n).Nodup:=by
 unfold vr;refine List.pairwise_map.mpr ((List.nodup_range.filter _).imp ?_);omega
theorem q4w(p:Nat->Bool)(n:Nat):(vr p n).Pairwise (fun a b=>decide (a<=b)=true):=by
 unfold vr;refine List.pairwise_map.mpr ((List.pairwise_lt_range.filter _).imp ?_)
 grind
theorem qb4{p:Nat->Bool}{n:Nat}{ss:List Int}(hd:ss.Nodup)(hm:∀x,x ∈ss↔x ∈vr p n):ss.mergeSort (fun x y=>decide (x<=y))=vr p n:=by
 have tr:∀a b c:Int,decide (a<=b)=true->decide (b<=c)=true->decide (a<=c)=true:=(by grind)
 have tot:∀a b:Int,(decide (a<=b)||decide (b<=a))=true:=(by grind)
 have hp:ss.Perm (vr p n):=(List.perm_ext_iff_of_nodup hd (RO p n)).2 hm
 grind [List.Perm.eq_of_pairwise,List.pairwise_mergeSort,q4w,List.mergeSort_perm]
theorem Sq{p:Nat->Bool}{n:Nat}{ss:List Int}(hd:ss.Nodup)(hm:∀x ∈ss,x ∈vr p n):ss.length<=n:=by
 have h1:ss.Perm ((vr p n).filter (fun x=>decide (x ∈ss))):=by
  grind [List.perm_ext_iff_of_nodup,RO]
 rw[h1.length_eq]
 grind [Xe,List.length_filter_le,q77]
def ve(w:World)(b:Nat)(p:Nat->Bool)(n:Nat):Prop:=
 ∃D:DataW Unit,w.ownsMap Tryz.prog 3 (unitElem (H:=Unit)) b (Go.Maps.size D) D/\∀x:Int,Go.Maps.has D (.int .i64 x)=decide (x ∈vr p n)
theorem q7h{w:World}{b n:Nat}{D:DataW Unit}(h:w.ownsMap Tryz.prog 3 (unitElem (H:=Unit)) b n D):w.ownsMap Tryz.prog 3 (unitElem (H:=Unit)) b (Go.Maps.size D) D:=by
 obtain⟨es,clock,hb,F,_,rfl⟩:=h;exact⟨es,clock,hb,F,by simp[Go.Maps.size,length_sorted],rfl⟩
theorem qce{w:World}{b n:Nat}{D:DataW Unit}(h:w.ownsMap Tryz.prog 3 (unitElem (H:=Unit)) b n D):∃ks:List Int,ks.Nodup/\ks.length=Go.Maps.size D/\∀x:Int,x ∈ks↔Go.Maps.has D (.int .i64 x)=true:=by
 obtain⟨es,hD,hpw,_⟩:=h.entries rq;obtain⟨es',clock,_,F,_,hD'⟩:=h;have hk:∀p ∈es,∃x:Int,p.1= .int .i64 x:=by
  intro p hp;rw[hD]at hD';have e:es=(es'.toList.map (WideElems.rg Tryz.prog 3 (unitElem (H:=Unit)))).foldr DataW.insert []:=by grind
  rw[e]at hp;obtain⟨x,hx,rfl⟩:=X9.1 (mem_sorted.1 hp);obtain⟨y,hy⟩:=F.reads x hx;obtain⟨z,_,hz,_⟩:=Maps.keyOf_int_inv Tryz.underlying3 (WideElems.rd_key hy)
  grind [WideElems.rg_of]
 subst hD;refine⟨es.map (fun p=>match p.1 with| .int _ x=>x|_=>0),?_,by simp[Go.Maps.size],fun x=> ?_⟩
 ·refine List.pairwise_map.2 (hpw.imp_of_mem fun {p q} hp hq hne e=>hne ?_)
  grind
 ·rw[X9];constructor
  ·rintro⟨p,hp,rfl⟩;obtain⟨a,ha⟩:=hk p hp;exact Wn.2 ⟨p,hp,by rw[ha];simp[Lit.sameKey]⟩
  ·intro hx;obtain⟨p,hp,hs⟩:=Wn.1 hx;obtain⟨a,ha⟩:=hk p hp;rw[ha]at hs;exact⟨p,hp,by rw[ha];simpa[Lit.sameKey]using hs⟩
theorem V5{w:World}{b n:Nat}{p:Nat->Bool}{D:DataW Unit}(h:w.ownsMap Tryz.prog 3 (unitElem (H:=Unit)) b (Go.Maps.size D) D)(hh:∀x:Int,Go.Maps.has D (.int .i64 x)=decide (x ∈vr p n)):Go.Maps.size D<=n:=by
 obtain⟨ks,hd,hl,hm⟩:=qce h;rw[<-hl];refine Sq (p:=p) hd (fun x hx=> ?_)
 grind
theorem ve.made(w:World)(n:Nat):ve (w.alloc (.map #[] 0)) w.heap.size (fun _=>false) n:=by
 refine⟨.map [],World.ownsMap_made w Tryz.prog _ _,fun x=> ?_⟩;have:x ∉vr (fun _=>false) n:=(by grind [pV])
 simp[this,Go.Maps.has]
theorem ve.kept{w w':World}{b n:Nat}{p:Nat->Bool}{row:Option Nat}(h:ve w b p n)(hg:w.grownBy w' row)(hne:some b≠row):ve w' b p n:=by
 obtain⟨D,ho,hh⟩:=h;exact⟨D,ho.kept hg hne,hh⟩
theorem ve.lt{w:World}{b n:Nat}{p:Nat->Bool}(h:ve w b p n):b<w.heap.size:=by
 obtain⟨D,ho,hh⟩:=h;exact ho.lt
theorem ve.below{w w':World}{b n B:Nat}{p:Nat->Bool}(h:ve w b p n)(hb:Below B w w')(hB:b<B):ve w' b p n:=by
 obtain⟨D,⟨es,clock,he,r⟩,hh⟩:=h;exact⟨D,⟨es,clock,(hb.block b hB).trans he,r⟩,hh⟩
theorem ve.cong{w:World}{b n:Nat}{p q:Nat->Bool}(h:ve w b p n)(e:∀g,g<n->p g=q g):ve w b q n:=by
 obtain⟨D,ho,hh⟩:=h;exact⟨D,ho,fun x=>by rw[hh x,Ty e]⟩
theorem q04{x:Int}(h:(Lit.int .i64 x).wf=true):keyOf Tryz.prog 3 (.int .i64 x)=some (.int .i64 x):=Go.Maps.keyOf_int_mk Tryz.underlying3 h
theorem q0p{g n:Nat}(hg:g<n)(hn:n<=9223372036854775807):(Lit.int .i64 (g:Int)).wf=true:=WalkArith.wf_i64 (by omega)
theorem ve.put{b n g:Nat}{p:Nat->Bool}{D:DataW Unit}{w':World}(hg:g<n)(hh:∀x:Int,Go.Maps.has D (.int .i64 x)=decide (x ∈vr p n))(h:w'.ownsMap Tryz.prog 3 (unitElem (H:=Unit)) b (Go.Maps.size D+1) (D.put (.int .i64 (g:Int)) (.agg [])))(hm:Go.Maps.IsMap D):
  ve w' b (fun k=>p k||decide (k=g)) n:=by
 refine⟨_,q7h h,fun x=> ?_⟩;by_cases hx:x=(g:Int)
 ·subst hx;rw[Go.Maps.has_put_same hm (k:= .int .i64 (g:Int)) (by simp[WideAt.IsKeyLit])]
  grind [Xi,pV]
 ·rw[Go.Maps.has_put_other (by grind),hh x,XQ,Xw,Xw,pV,pV]
  grind
section
variable{ops:Array Oper}{rest:List Oper}{o:Oper}{a:Act}{Q:Exit->Act->World->Prop}
theorem Pg(w:World)(hg:o.guard=none)(m x v:Operand)(t:TypeId)(hop:o.op=Op.mapUpdate t m x v\/o.op=Op.insert t m x v)(ht:Tryz.prog.underlying t=some (.map 3 177))(b n g:Nat)(p:Nat->Bool)
  (hm:a.eval m= .map (some b)) (H:ve w b p n) (hgn:g<n) (hn:n<=1048576) (hx:a.eval x= .int .i64 (g:Int)) (hv:a.eval v= .agg #[])
  (hK:∀w',ve w' b (fun k=>p k||decide (k=g)) n->w.grownBy w' (some b)->wpList Tryz.prog ops Q rest (a.put o.dst undef) w'):
  wpList Tryz.prog ops Q (o::rest) a w:=by
 refine wpList_plain hg fun K' hK'=> ?_;obtain⟨D,ho,hh⟩:=H;have hs:=V5 ho hh;obtain⟨w',hrun,r1,r2⟩:=ho.update rq ht (by unfold maxLen;omega) (q04 (q0p hgn (by omega))) (val:= .agg #[]) unitElem_mk;unfold Oper.wp;rcases hop with hop|hop<;>
 ·simp[execOp,hop,hm,hx,hv,hrun,Result.andThen];exact hK' _ _ (hK w' (ve.put hgn hh r1 ho.isMap) r2)
theorem PM(w:World)(hg:o.guard=none)(m x:Operand)(t:TypeId)(hop:o.op=Op.lookup t m x true)(ht:Tryz.prog.underlying t=some (.map 3 177))(b n g:Nat)(p:Nat->Bool)(r:Bool)
  (hm:a.eval m= .map (some b)) (H:ve w b p n) (hgn:g<n) (hn:n<=1048576) (hx:a.eval x= .int .i64 (g:Int)) (hr:p g=r)
  (hK:wpList Tryz.prog ops Q rest (a.put o.dst (.tuple #[.agg #[],.bool r])) w):
  wpList Tryz.prog ops Q (o::rest) a w:=by
 obtain⟨D,ho,hh⟩:=H;have hk:=q04 (q0p hgn (by omega));refine wpList_lookup_own_unit w hg m x t hop _ _ rq ht (qac w) b _ D hm ho _ _ hx hk ?_;have e:Go.Maps.has D (.int .i64 (g:Int))=r:=by
  rw[hh,<-hr,XQ,Xw,pV]
  grind
 grind
end
theorem q9j(x:Int)(w:World):Calls Tryz.prog 188 #[.int .i64 x] w fun e w'=>e= .returned (.bool false)/\w=w':=by
 go_enter Tryz.func188,Tryz.ntmps188;go_wp2
 go_ret;exact⟨by simp,rfl⟩
theorem Dh(x:Int)(w:World):Calls Tryz.prog 159 #[.int .i64 x] w fun e w'=>e= .returned (.bool false)/\w=w':=by
 go_enter Tryz.func159,Tryz.ntmps159;go_wp2
 go_ret;exact⟨by simp,rfl⟩
theorem Q8(x y:Int)(w:World):Calls Tryz.prog 158 #[.int .i64 x,.int .i64 y] w fun e w'=>e= .returned (.bool (decide (x<y)))/\w=w':=by
 go_enter Tryz.func158,Tryz.ntmps158;go_wp2_with(go_at_call 188;(with_reducible refine(q9j _ _).mono ?_);rintro e w' ⟨rfl,rfl⟩)
 go_ret;exact⟨rfl,rfl⟩
theorem wG{l:List Int}{t:Nat}(h:t<l.length):l.getD t 0=l[t]:=by simp[List.getD,Xc h]
theorem Lt{l:List Int}(h:l.Pairwise (· < ·)){a b:Nat}(hab:a<=b)(hb:b<l.length):l.getD a 0<=l.getD b 0:=by
 rcases Xl a b with g|g
 ·have:=List.pairwise_iff_getElem.mp h a b (by omega) hb g;rw[wG (by omega),wG hb];omega
 ·obtain rfl:a=b:=by omega
  exact Int.le_refl _
theorem qje{l:List Int}{x:Int}{lo:Nat}(h1:∀t,t<lo->l.getD t 0<x)(h2:∀t,lo<=t->t<l.length->x<=l.getD t 0)(h:l.Pairwise (· < ·)):qb l x=(decide (lo<l.length)&& decide (l.getD lo 0=x)):=by
 unfold qb;rw[XQ];simp only[Xw,Xt];constructor
 ·intro hm;obtain⟨t,ht,e⟩:=List.mem_iff_getElem.mp hm;have et:l.getD t 0=x:=by rw[wG ht];exact e
  have hlt:lo<=t:=by
   rcases Xl t lo with g|g
   ·have:=h1 t g;omega
   ·exact g
  refine⟨by omega,?_⟩;have:=Lt h hlt ht;have:=h2 lo (zn _) (by omega);omega
 ·rintro⟨hl,e⟩;rw[wG hl]at e;rw[<-e];exact Xd hl
def q0g(b:Bool)(w:World)(e:Ending)(w':World):Prop:=∃p:Int,e= .returned (.tuple #[.int .i64 p,.bool b])/\Below w.heap.size w w'
set_option maxHeartbeats 4000000 in
theorem Ry(l:List Int)(x:Int)(A:Option Addr)(cap:Nat)(w:World)(hl:l.length<=1048576)(h:zw w w.heap.size A (l.map (Value.int .i64)))(hs:l.Pairwise (· < ·)):
  Calls Tryz.prog 118 #[.slice A l.length cap,.int .i64 x] w (q0g (qb l x) w):=by
 have HL:=zH h;have HS:=zH hs;obtain⟨b,hb⟩:=zj (qb l x);have E:=zH hb;rw[hb];clear h hs hb;obtain⟨n,hn⟩:=zj (l.length);have HN:=zH hn;rw[hn]at hl⊢
 clear hn;go_enter Tryz.func118,Tryz.ntmps118;go_wp2
 go_loopg [7,8] n (fun g s7 s8 wr=>∃lo hi:Nat,s7= .int .i64 lo/\s8= .int .i64 hi/\lo<=hi/\hi<=n/\hi - lo<=g/\Hid (Below w.heap.size w wr)/\Hid ((∀t,t<lo->l.getD t 0<x)/\(∀t,hi<=t->t<n->x<=l.getD t 0)))
 case atStart=>exact⟨0,n,rfl,rfl,Xn _,zn _,by omega,zH (zb _ _),zH ⟨fun t ht=>absurd ht (Nat.not_lt_zero _),fun t h1 h2=>by omega⟩⟩
 case round=>
  obtain⟨lo,hi,rfl,rfl,hlh,hin,hg,HX,I⟩:=hrel;by_cases hlt:lo<hi
  ·have VN:(lo+hi) / 2<n:=by omega
   obtain⟨ad,rfl,hab,hc0⟩:=(HL.out.below HX.out).at_ (k:=(lo+hi) / 2) (by rw[Xm,HN.out];exact VN);have Y:=zH (show l.getD ((lo+hi) / 2) 0=l[(lo+hi) / 2]'(by rw[HN.out];exact VN)from wG _);rw[List.getElem_map]at hc0;generalize l[(lo+hi) / 2]'(by rw[HN.out];exact VN)=y at*
   by_cases hyx:y<x
   ·go_wp2_with(first|(go_at_call 158;(with_reducible refine(Q8 _ _ _).mono ?_);rintro e w' ⟨rfl,rfl⟩)|(go_at_call 159;(with_reducible refine(Dh _ _).mono ?_);rintro e w' ⟨rfl,rfl⟩))
    go_roundg (hi - ((lo+hi) / 2+1))
    case measure=>omega
    case rel=>
     refine⟨(lo+hi) / 2+1,hi,by rw[show((lo:Int)+(hi:Int)) / 2+1=(((lo+hi) / 2+1:Nat):Int)by omega],rfl,by omega,hin,zn _,HX,zH ⟨fun t ht=> ?_,I.out.2⟩⟩;have:=Lt HS.out (a:=t) (b:=(lo+hi) / 2) (by omega) (by rw[HN.out];exact VN);rw[Y.out]at this;omega
   ·go_wp2_with(first|(go_at_call 158;(with_reducible refine(Q8 _ _ _).mono ?_);rintro e w' ⟨rfl,rfl⟩)|(go_at_call 159;(with_reducible refine(Dh _ _).mono ?_);rintro e w' ⟨rfl,rfl⟩))
    go_roundg ((lo+hi) / 2 - lo)
    case measure=>omega
    case rel=>
     refine⟨lo,(lo+hi) / 2,rfl,by rw[show((lo:Int)+(hi:Int)) / 2=(((lo+hi) / 2:Nat):Int)by omega],by omega,by omega,zn _,HX,zH ⟨I.out.1,fun t ht htn=> ?_⟩⟩;have:=Lt HS.out (a:=(lo+hi) / 2) (b:=t) ht (by rw[HN.out];exact htn);rw[Y.out]at this;omega
  ·obtain rfl:lo=hi:=by omega
   have E2:=zH (E.out.symm.trans (qje I.out.1 (fun t h0 h1=>I.out.2 t h0 (by rw[<-HN.out];exact h1)) HS.out));by_cases hln:lo<n
   ·obtain⟨ad,rfl,hab,hc0⟩:=(HL.out.below HX.out).at_ (k:=lo) (by rw[Xm,HN.out];exact hln);have Y:=zH (show l.getD lo 0=l[lo]'(by rw[HN.out];exact hln)from wG _);rw[List.getElem_map]at hc0;generalize l[lo]'(by rw[HN.out];exact hln)=y at*
    have E3:Hid (b=decide (y=x)):=zH (by rw[E2.out,Y.out,HN.out];simp[hln]);by_cases hyx:y=x
    ·subst hyx;go_wp2_with(go_at_call 159;(with_reducible refine(Dh _ _).mono ?_);rintro e w' ⟨rfl,rfl⟩)
     go_ret2
     exact⟨(lo:Int),by rw[E3.out];simp,HX.out⟩
    ·have hne:((y:Int)==x)=false:=by simpa using hyx
     go_wp2_with(go_at_call 159;(with_reducible refine(Dh _ _).mono ?_);rintro e w' ⟨rfl,rfl⟩)
     go_ret2
     exact⟨(lo:Int),by rw[E3.out];simp[hyx],HX.out⟩
   ·have E3:Hid (b=false):=zH (by rw[E2.out,HN.out];simp[hln]);go_wp2_with fail
    go_ret2
    exact⟨_,by rw[E3.out];rfl,HX.out⟩
theorem Wu{w:World}{B c g i:Nat}{A:Option Addr}{L:List Int}{v:Value}(h:zd zu 1 w B A c L)(hA:∀ad,A=some ad->ad.block≠g):zd zu 1 (w.setCell ⟨g,i,none⟩ v) B A c L:=
 ⟨h.le,h.cap,fun j x hj=>by
  obtain⟨ad,e,hb,hc⟩:=h.row j x hj;exact⟨ad,e,hb,(XU (w:=w) (XJ w ⟨g,i,none⟩ v _ (by rw[zC];exact hA ad e))).trans hc⟩⟩
structure YD(w:World)(g:Nat)(EL:List (List Int))(n k:Nat)(vs:List Value):Prop where
 blk:zm w g vs 27
 len:vs.length=n
 row:∀(i:Nat) (L:List Int),i<k->EL[i]? =some L->∃A c,vs[i]? =some (.slice A L.length c)/\zd zu 1 w w.heap.size A c L/\∀ad,A=some ad->g<ad.block
 rest:∀i:Nat,k<=i->i<n->vs[i]? =some (.slice none 0 0)
section
variable{w w':World}{g n k:Nat}{EL:List (List Int)}{vs:List Value}
theorem YD.keep(h:YD w g EL n k vs)(hb:Below w.heap.size w w'):YD w' g EL n k vs:=
 ⟨zm.keep h.blk hb (zm.lt h.blk),h.len,fun i L hi hL=>by
  obtain⟨A,c,h1,h2,h3⟩:=h.row i L hi hL;exact⟨A,c,h1,h2.keep' zu.keeps hb.size (fun q hq=>hb.cell hq),h3⟩,h.rest⟩
theorem YD.put(h:YD w g EL n k vs){A:Option Addr}{c:Nat}{L:List Int}(hk:k<n)(hL:EL[k]? =some L)(hs:zd zu 1 w w.heap.size A c L)(hA:∀ad,A=some ad->g<ad.block):YD (w.setCell ⟨g,k,none⟩ (.slice A L.length c)) g EL n (k+1) (vs.set k (.slice A L.length c)):=by
 have hz:(w.setCell ⟨g,k,none⟩ (.slice A L.length c)).heap.size=w.heap.size:=by simp
 refine⟨zm.set h.blk k _,by rw[XH];exact h.len,fun i M hi hM=> ?_,fun i hi hn=>by rw[Wf,Xa (by omega)];exact h.rest i (by omega) hn⟩;rw[hz];rcases Xl i k with q|q
 ·obtain⟨A',c',h1,h2,h3⟩:=h.row i M q hM;exact⟨A',c',by grind,(by grind [Wu]),h3⟩
 ·obtain rfl:i=k:=by omega
  have e:L=M:=by grind
  subst e;exact⟨A,c,by rw[Wf,Xb rfl,Xb (by rw[h.len];exact hk)],(by grind [Wu]),hA⟩
theorem YD.skip(h:YD w g EL n k vs)(hk:k<n)(hL:EL[k]? =some []):YD w g EL n (k+1) vs:=
 ⟨h.blk,h.len,fun i M hi hM=>by
  rcases Xl i k with q|q
  ·exact h.row i M q hM
  ·obtain rfl:i=k:=by omega
   have e:([]:List Int)=M:=by grind
   subst e;exact⟨none,0,h.rest i (zn _) hk,va,(by grind)⟩,fun i hi hn=>h.rest i (by omega) hn⟩
theorem YD.cell(h:YD w g EL n k vs){i:Nat}(hi:i<n):∃v,w.cell? ⟨g,i,none⟩=some v:=
 ⟨_,(zm.cells h.blk) i _ (Xc (by rw[h.len];exact hi))⟩
theorem YD.slc(h:YD w g EL n k vs)(hn:EL.length=n)(hk:n<=k)(hc:n<=9223372036854775807):zd (zM zu 1) 1 w w.heap.size (some ⟨g,0,none⟩) n EL:=
 ⟨by omega,hc,fun i L hi=>by
  have hi':=(Xv.mp hi).1;obtain⟨A,c,h1,h2,h3⟩:=h.row i L (by omega) hi;refine⟨_,rfl,zm.lt h.blk,A,c,?_,h2⟩;have:=(zm.cells h.blk) i _ h1;rw[show Addr.add ⟨g,0,none⟩ (i*1)=⟨g,i,none⟩by unfold Addr.add;grind];exact this⟩
end
open Go.Shelf
def qft:Go.Shelf.Ren:=⟨fun|189=>186|125=>200|257=>199|128=>217|129=>218|294=>209|295=>210|296=>211|297=>212|298=>213|299=>214|216=>158|300=>215|301=>216|328=>220|329=>221|330=>222|331=>223|332=>224|215=>188|343=>225|n=>n,fun|28=>27|3=>3|46=>34|0=>0|51=>247|53=>249|4=>4|183=>242|182=>241|131=>117|5=>5|9=>9|218=>250|222=>254|228=>256|229=>184|n=>n,fun|n=>n⟩
theorem Kn:Go.Proofs.Lays.n189 Tryz.prog qft:={
 mixed:=by kernel_rfl
 f125:=Tryz.func200.trans (congrArg some (by kernel_rfl))
 f128:=Tryz.func217.trans (congrArg some (by kernel_rfl))
 f129:=Tryz.func218.trans (congrArg some (by kernel_rfl))
 f189:=Tryz.func186.trans (congrArg some (by kernel_rfl))
 f215:=Tryz.func188.trans (congrArg some (by kernel_rfl))
 f216:=Tryz.func158.trans (congrArg some (by kernel_rfl))
 f257:=Tryz.func199.trans (congrArg some (by kernel_rfl))
 f294:=Tryz.func209.trans (congrArg some (by kernel_rfl))
 f295:=Tryz.func210.trans (congrArg some (by kernel_rfl))
 f296:=Tryz.func211.trans (congrArg some (by kernel_rfl))
 f297:=Tryz.func212.trans (congrArg some (by kernel_rfl))
 f298:=Tryz.func213.trans (congrArg some (by kernel_rfl))
 f299:=Tryz.func214.trans (congrArg some (by kernel_rfl))
 f300:=Tryz.func215.trans (congrArg some (by kernel_rfl))
 f301:=Tryz.func216.trans (congrArg some (by kernel_rfl))
 f328:=Tryz.func220.trans (congrArg some (by kernel_rfl))
 f329:=Tryz.func221.trans (congrArg some (by kernel_rfl))
 f330:=Tryz.func222.trans (congrArg some (by kernel_rfl))
 f331:=Tryz.func223.trans (congrArg some (by kernel_rfl))
 f332:=Tryz.func224.trans (congrArg some (by kernel_rfl))
 f343:=Tryz.func225.trans (congrArg some (by kernel_rfl))
 t0:=Tryz.underlying0
 a0:=Tryz.isAgg0
 z0:=Tryz.sizeOf0
 v0:=Tryz.zeroValue0
 t3:=Tryz.underlying3
 a3:=Tryz.isAgg3
 z3:=Tryz.sizeOf3
 v3:=Tryz.zeroValue3
 t4:=Tryz.underlying4
 a4:=Tryz.isAgg4
 z4:=Tryz.sizeOf4
 v4:=Tryz.zeroValue4
 t5:=Tryz.underlying5
 a5:=Tryz.isAgg5
 z5:=Tryz.sizeOf5
 v5:=Tryz.zeroValue5
 t9:=Tryz.underlying9
 a9:=Tryz.isAgg9
 z9:=Tryz.sizeOf9
 v9:=Tryz.zeroValue9
 t28:=Tryz.underlying27
 a28:=Tryz.isAgg27
 z28:=Tryz.sizeOf27
 v28:=Tryz.zeroValue27
 t46:=Tryz.underlying34
 a46:=Tryz.isAgg34
 z46:=Tryz.sizeOf34
 v46:=Tryz.zeroValue34
 t51:=Tryz.underlying247
 a51:=Tryz.isAgg247
 z51:=Tryz.sizeOf247
 v51:=Tryz.zeroValue247
 t53:=Tryz.underlying249
 a53:=Tryz.isAgg249
 z53:=Tryz.sizeOf249
 v53:=Tryz.zeroValue249
 t131:=Tryz.underlying117
 a131:=Tryz.isAgg117
 z131:=Tryz.sizeOf117
 v131:=Tryz.zeroValue117
 t182:=Tryz.underlying241
 a182:=Tryz.isAgg241
 z182:=Tryz.sizeOf241
 v182:=Tryz.zeroValue241
 t183:=Tryz.underlying242
 a183:=Tryz.isAgg242
 z183:=Tryz.sizeOf242
 v183:=Tryz.zeroValue242
 t218:=Tryz.underlying250
 a218:=Tryz.isAgg250
 z218:=Tryz.sizeOf250
 v218:=Tryz.zeroValue250
 t222:=Tryz.underlying254
 a222:=Tryz.isAgg254
 z222:=Tryz.sizeOf254
 v222:=Tryz.zeroValue254
 t228:=Tryz.underlying256
 a228:=Tryz.isAgg256
 z228:=Tryz.sizeOf256
 v228:=Tryz.zeroValue256
 t229:=Tryz.underlying184
 a229:=Tryz.isAgg184
 z229:=Tryz.sizeOf184
 v229:=Tryz.zeroValue184}
open Go.Sort (Holds putRow)
def Got(D:DataW Unit)(left:Lit->Bool)(ss:List Int):Prop:=ss.Nodup/\∀x:Int,x ∈ss↔(Go.Maps.has D (.int .i64 x)=true/\left (.int .i64 x)=false)
theorem Got.start(D:DataW Unit):Got D (Go.Maps.has D) []:=⟨List.nodup_nil,fun x=>by cases Go.Maps.has D (.int .i64 x)<;>simp⟩
theorem Got.step{D:DataW Unit}{left:Lit->Bool}{ss:List Int}(h:Got D left ss){x:Int}(hx:Go.Maps.has D (.int .i64 x)=true)(hlk:left (.int .i64 x)=true):Got D (fun z=>left z&& !z.sameKey (.int .i64 x)) (ss++[x]):=by
 have hnew:x ∉ss:=fun hx=>by have:=((h.2 x).1 hx).2;rw[hlk]at this;cases this
 refine⟨List.nodup_append.2 ⟨h.1,by simp,fun a ha b hb=>by simp at hb;subst hb;exact fun e=>hnew (e ▸ ha)⟩,fun y=> ?_⟩;by_cases hy:y=x
 ·subst hy;simp[hx,Lit.sameKey]
 ·simp[h.2 y,hy,Lit.sameKey]
theorem qj5(blk cap:Nat)(zs:List Int)(w:World)(hH:Holds (Value.int .i64) w blk 0 zs.toArray)(hblk:blk<w.heap.size)(hsz:zs.length<4611686018427387904):
  Calls Tryz.prog 186 #[.slice (some ⟨blk,0,none⟩) zs.length cap] w fun e w'=>
   e= .returned (.tuple #[])/\∃n os,w'=Go.Sort.grow (putRow (Value.int .i64) (Go.Sort.ahead w n) blk 0 (zs.mergeSort fun x y=>decide (x<=y)).toArray) os:=
 Any.slices_Sort_int Kn blk 0 cap zs w hH hblk hsz
theorem qb5(p:Option Addr)(cap:Nat)(w:World):Calls Tryz.prog 186 #[.slice p 0 cap] w fun e w'=>e= .returned (.tuple #[])/\w'=w:=
 Any.slices_Sort_int_none Kn p cap w
set_option maxHeartbeats 1600000 in
theorem q6t(b n:Nat)(p:Nat->Bool)(w:World)(H:ve w b p n)(hn:n<=1048576):
  Calls Tryz.prog 154 #[.map (some b)] w (ZR (vr p n) w):=by
 obtain⟨i0,hi,hz0,hz1,hz2⟩:=info_parts ZL;obtain⟨D,ho,hh⟩:=H;have hs:=V5 ho hh;have HH:=zH hh;have hbl:=ho.lt;clear hh;go_enter Tryz.func154,Tryz.ntmps154;go_wp2_with(at_range;refine wpList_range_own _ rfl _ 207 rfl 3 177 rq Tryz.underlying207 _ b _ D rfl ho ?_;intro w0 hrg0 hg0 hs0)
 go_frame
 go_loopw [3] (fun v wr=>∃(left:Lit->Bool) (cnt:Nat) (ss:List Int),wr.ranges Tryz.prog 3 (unitElem (H:=Unit)) b w.heap.size (Go.Maps.size D) D left cnt/\ss.length+cnt<=Go.Maps.size D/\
   wr.ownsRow w.heap.size 3 1 v ss.length (ss.map (Value.int .i64))/\Hid (Got D left ss)/\Hid (Below w.heap.size w wr)) (fun _ wr=>wr.rangeLeft b w.heap.size)
 case atStart=>
  exact⟨_,_,[],hrg0,by simp,XM _ _ _ _,zH (Got.start D),zH ((zb _ _).grown hg0 (zn _) (fun j hj=>by cases hj))⟩
 case round=>
  obtain⟨left,cnt,ss,hrg,hcs,hrow,HC,HX⟩:=hrel;go_wp2_with(at_next;refine wpList_next_ranges _ rfl _ rfl 3 rq (unitElem (H:=Unit)) (Value.int .i64) (fun _:Unit=> .agg #[]) (fun key kl hk=>by obtain⟨x,hx,_⟩:=Maps.keyOf_int_inv Tryz.underlying3 hk;exact⟨x,hx⟩) (fun v y hv=>by obtain⟨rfl,_⟩:=unitElem_inv hv;exact⟨(),rfl⟩) b w.heap.size _ _ _ _ rfl hrg ?_ ?_)
  ·intro hc0 hl0;have hm:∀x,x ∈ss↔x ∈vr p n:=fun x=>by rw[HC.out.2 x,hl0,HH.out x];simp
   have hsort:=qb4 HC.out.1 hm;rcases hrow.2 with⟨rfl,hz⟩|⟨g,cap,cur,rfl,hbase,hb,h1,h2,h3,h4⟩
   ·have hsn:ss=[]:=Wp hz;subst hsn;have hpe:vr p n=[]:=by rw[<-hsort];simp
    have CE:=zH hpe;clear hsort hm hpe;go_wp2_with(go_at_call 186;refine(qb5 _ _ _).mono ?_;rintro e w' ⟨rfl,rfl⟩)
    go_ret;rw[CE.out];exact⟨_,rfl,XM _ _ _ _,HX.out⟩
   ·have hH:Holds (Value.int .i64) wr g 0 ss.toArray:=holds_of_blockI hb (by simpa using h4);have hgl:g<wr.heap.size:=(Array.getElem?_eq_some_iff.1 hb).1;have hc:=qj5 g cap ss wr hH hgl (by omega);have hle:(vr p n).length=ss.length:=by rw[<-hsort];simp
    rw[hsort]at hc;have HS:=zH (And.intro hle (And.intro hbase (And.intro hb (And.intro h1 (And.intro h2 h3)))));clear hsort hm hle hbase hb h1 h2 h3 h4 hrow;go_wp2_with(go_at_call 186;refine hc.mono ?_;rintro e w' ⟨rfl,nn,os,rfl⟩)
    go_ret;obtain⟨hle,hbase,hb,h1,h2,h3⟩:=HS.out;refine⟨_,rfl,?_,HX.out.grown (grownBy_sortedI _) HX.out.size (fun j hj=>by cases hj;exact hbase)⟩;have q:=ownsRow_sortedI (n:=nn) (os:=os) hle hbase hb h1 h2 h3;rw[<-hle]at q⊢
    exact q
  ·intro x c kl y w2 cnt2 hkey hlk hv hat hrg2 hlt hg2 hs2 hen;obtain⟨x',ex,rfl,_⟩:=Maps.keyOf_int_inv Tryz.underlying3 hkey;cases ex;have hrow2:=hrow.kept hg2 (Or.inr (row_ne_iter hrow hrg).symm);have HX2:=zH (HX.out.grown hg2 HX.out.size (fun j hj=>by cases hj;exact zn _));have hsz2:=HX2.out.size;have HG:=zH (HC.out.step (Go.Maps.has_true_of_atKey hat) hlk);clear hs2 hkey hv;go_wp2_with(at_builtin;refine Zv rfl _ _ 27 rfl _ 3 i0 (.int .i64 0) 1 8 Tryz.underlying27 hi hz0 hz1 hz2 rfl (by decide) _ ss.length (ss.map (Value.int .i64)) rfl (hrow2.alloc _) (some ⟨w2.heap.size,0,none⟩) 1 1 _ [.int .i64 x] rfl rfl (gZ w2 _ _) (bL rfl) (by unfold maxLen;omega) (by omega) (by simp;omega) ?_;intro v6 w6 hown hgrow)
   have hrg3:=(hrg2.alloc (.cells #[.int .i64 x] 3)).kept hgrow (row_ne_low hrow2 hbl) (row_ne_iter hrow2 hrg2);go_roundw;case rel=>exact⟨_,cnt2,ss++[x],hrg3,by simp;omega,by simpa using hown,HG,zH (jx (HX2.out.alloc hsz2 _) (hrow2.alloc _) (by simp;omega) hgrow)⟩
   case measure=>rw[hrg3.left_eq,hrg.left_eq];exact hlt
theorem qbv{b n:Nat}{p:Nat->Bool}{w:World}(H:Hid (ve w b p n))(hn:n<=1048576){L:List Int}(HL:Hid (vr p n=L)):
  Calls Tryz.prog 154 #[.map (some b)] w (ZR L w):=by
 have h:=q6t b n p w H.out hn;rw[HL.out]at h;exact h
theorem TC{w:World}{B n k:Nat}{v:Value}{xs:List Value}{T:TypeId}(h:w.ownsRow B T k v n xs)(hn:0<n):∃g c rest,v= .slice (some ⟨g,0,none⟩) n c/\B<=g/\zm w g (xs++rest) T:=by
 rcases h.2 with⟨_,h2⟩|⟨g',cap,cur,h1,hb,hh,_,_,_,hx⟩
 ·omega
 ·refine⟨g',cap,cur.toList.drop (n*k),h1,hb,?_⟩;unfold zm;rw[<-hx,List.take_append_drop];exact hh
theorem q3g(l m:List Int)(A A':Option Addr)(cap cap' B:Nat)(w:World)(hB:B<=w.heap.size)(h:zd zu 1 w B A cap l)(h':zd zu 1 w B A' cap' m):
  Calls Tryz.prog 29 #[.slice A l.length cap,.slice A' m.length cap'] w fun e w'=>e= .returned (.bool (decide (l=m)))/\Below w.heap.size w w':=by
 have hlc:=h.le;have hcm:=h.cap;have Oa:=h'.le;have hcm':=h'.cap;have HL:=zH h;have HM:=zH h';have HB:=zH hB;clear h h' hB;obtain⟨b,hb⟩:=zj (decide (l=m));rw[hb];have E:=zH hb.symm;clear hb;by_cases hn:l.length=m.length
 ·have Zj:=zH hn;have hlen:m.length=l.length:=hn.symm;rw[hlen];clear hn;go_enter Tryz.func29,Tryz.ntmps29;go_wp2
  go_loopw [5] (fun i wr=>∃k:Nat,k<=l.length/\i= .int .i64 k/\Hid (l.take k=m.take k)/\Hid (Below w.heap.size w wr)) (fun i _=>l.length - (intOf i).toNat)
  case atStart=>exact⟨0,by omega,rfl,zH (by simp),zH (zb _ _)⟩
  case round=>
   obtain⟨k,hk,rfl,HN,HX⟩:=hrel;by_cases hlt:k<l.length
   ·have vS:k<m.length:=by omega
    obtain⟨ad,rfl,hab,q0⟩:=(HL.out.below_to zu.keeps HX.out HB.out).row.at_ hlt;obtain⟨ad',rfl,hab',ug⟩:=(HM.out.below_to zu.keeps HX.out HB.out).row.at_ vS;have jc:=zH (fun g=>o9 hlt vS g);have kG:=zH (fun g=>pE hlt vS HN.out g);generalize l[k]=t at*
    generalize m[k]=s at*
    rw[Xq]at q0 ug;have r0:wr.cell? (ad.add k)=some (.int .i64 t):=q0;have r0':wr.cell? (ad'.add k)=some (.int .i64 s):=ug;by_cases hx:t=s
    ·obtain rfl:=hx;have E2:=zH (kG.out rfl);go_wp2_with fail
     go_quiet (fail)
     go_wp2
     go_roundw;case rel=>exact⟨k+1,by omega,by go_num,E2,zH (jf HX.out _)⟩
     case measure=>simp[intOf];omega
    ·have E2:=zH (show b=false by rw[E.out];exact Xf (jc.out (by simpa using hx)));go_wp2_with fail
     go_quiet (fail)
     go_wp2
     go_ret;exact⟨by rw[E2.out];rfl,(jf HX.out _)⟩
   ·have E2:=zH (show b=true by rw[E.out];exact Xi (oU Zj.out k HN.out (by omega)));go_wp2_with fail
    go_ret;exact⟨by rw[E2.out];rfl,HX.out⟩
 ·have E2:=zH (show b=false by rw[E.out];exact Xf (fun g=>hn (by rw[g])));have hn':((l.length:Int)==(m.length:Int))=false:=XG.mpr (by omega);go_enter Tryz.func29,Tryz.ntmps29;go_wp2
  go_ret;exact⟨by rw[E2.out];rfl,zb _ _⟩
def wR(Q:Exit->Act->World->Prop):Exit->Act->World->Prop
 | .normal,a,w=>Q .normal a w
 |_,_,_=>False
theorem wR.normal{Q:Exit->Act->World->Prop}{a:Act}{w:World}(h:Q .normal a w):wR Q .normal a w:=h
theorem q7l{l n:Nat}{P:Program}{o:Oper}{a:Act}{w:World}{K K':Act->World->Prop}{Q:Exit->Act->World->Prop}(hnd:∀c,o.op≠ .defer c)(hk:∀a w,K a w->K' a w)
  (h:o.wp P a w K (wR Q)):o.wpIn (Fence.wide.inRound l) n P a w K' Q:=by
 unfold Oper.wp at h;unfold Oper.wpIn;refine⟨fun _ _=>Xs,?_⟩;rw[Oper.semAt_eq _ _ _ hnd];generalize(execOp a.eval o).run P w=r at h;cases r with
 |ok x w'=>
  cases x<;>simp only[Oper.upon,Oper.uponIn]at h⊢
  case value v=>grind
  case skip=>grind
  case defer d=>grind
  case enter f args=>
   refine⟨fun h0=>(by cases h0),CallsIn.inRound l (callsIn_wide.2 (h.mono fun e w'' he=> ?_))⟩;cases e with
   |returned v=>grind
   |panicked chain=>exact(he:False).elim
   |outgrown=>obtain⟨_,_,hf⟩:=he;exact(hf:False).elim
  case row row args=>
   refine⟨fun h0=>(by cases h0),fun c cs _=> ?_⟩;obtain⟨v,w2,hv,hs⟩:=h c cs;exact⟨v,w2,hk _ _ hv,stepsIn_wide.2 hs⟩
 |halt x w'=>
  cases x<;>simp only[Oper.upon,Oper.uponIn]at h⊢
  all_goals exact(h:False).elim
theorem D9{l n:Nat}{P:Program}{ops:Array Oper}{Q:Exit->Act->World->Prop}(hnd:∀(i:Nat) o,ops[i]? =some o->∀c,o.op≠ .defer c):∀(is:List Nat) (a:Act) (w:World),wpOps P ops (wR Q) is a w->wpOpsIn (Fence.wide.inRound l) n P ops Q is a w
 | [],a,w,h=>h
 |i::rest,a,w,h=>by
  simp only[wpOps]at h;simp only[wpOpsIn];cases ho:ops[i]? with
  |none=>simp only[ho]at h⊢;exact D9 hnd rest a w h
  |some o=>
   simp only[ho]at h⊢
   by_cases hw:Region.wanted o (yielded ops a.tmps)=true
   ·rw[Xb hw]at h⊢
    rcases h with h|⟨_,_,_,h⟩
    ·exact q7l (hnd i o ho) (fun a w=>D9 hnd rest a w) h
    ·exact(h:False).elim
   ·rw[Xa hw]at h⊢
    exact⟨fun _ _=>Xs,D9 hnd rest _ _ h⟩
theorem q34{l n:Nat}{P:Program}{id:Nat}{ops:Array Oper}{Q:Exit->Act->World->Prop}{S:World->Prop}{a:Act}{w:World}(hm:P.follows .mixedOrders=true)(hnd:ops.all (fun o=>match o.op with| .defer _=>false|_=>true)=true)(hS:S w.drew)
  (h:S w.drew->wpAnyH P .any ops (wR Q) S ops.size (Array.replicate ops.size false) a w.drew):(Code.region id ops true).wpIn (Fence.wide.inRound l) n P Q a w:=
 wpIn_region_draw fun t=>D9 (by grind) _ _ _ (by
   simp only[Region.schedule,hm,Bool.true_or,if_true];exact wpAny_sound ops.size t _ a _ (wpAny_of_held _ _ _ _ (h hS)))
theorem q0v(op:Int)(h0:7<=op)(h1:op<=17)(w:World):Calls Tryz.prog 175 #[.int .i64 op] w fun e w'=>e= .returned (.bool true)/\w=w':=by
 have h:op=7\/op=8\/op=9\/op=10\/op=11\/op=12\/op=13\/op=14\/op=15\/op=16\/op=17:=by omega
 clear h0 h1;rcases h with rfl|rfl|rfl|rfl|rfl|rfl|rfl|rfl|rfl|rfl|rfl;all_goals
  go_enter Tryz.func175,Tryz.ntmps175;go_wp2
  go_ret;simp_all
theorem is_no(op:Int)(h:op<7\/17<op)(w:World):Calls Tryz.prog 175 #[.int .i64 op] w fun e w'=>e= .returned (.bool false)/\w=w':=by
 have n7:¬op=7:=by omega
 have n8:¬op=8:=by omega
 have n9:¬op=9:=by omega
 have n10:¬op=10:=by omega
 have n11:¬op=11:=by omega
 have n12:¬op=12:=by omega
 have n13:¬op=13:=by omega
 have n14:¬op=14:=by omega
 have n15:¬op=15:=by omega
 have n16:¬op=16:=by omega
 have n17:¬op=17:=by omega
 clear h;go_enter Tryz.func175,Tryz.ntmps175;go_wp2
 go_ret;simp_all
def qL(S:Nat->Bool)(w:World):World:={w with heap:=w.heap.mapIdx fun i o=>if S i then .cells #[] 0 (0,0)else o}
theorem Vv(S:Nat->Bool)(w:World):(qL S w).heap.size=w.heap.size:=by simp[qL]
theorem gQ{S:Nat->Bool}{w:World}{q:Addr}{v:Value}:(qL S w).cell? q=some v↔S q.block=false/\w.cell? q=some v:=by
 unfold qL World.cell?
 grind
theorem q53{S:Nat->Bool}{w:World}{q:Addr}(h:S q.block=false):(qL S w).frozen? q=w.frozen? q:=by
 unfold qL World.frozen?
 grind
def old(w:World):Nat->Bool:=fun b=>decide (b<w.heap.size)
theorem Yv{w:World}{b:Nat}:old w b=false↔w.heap.size<=b:=by unfold old;simp
def Jz{α:Type}(At:qV α):Prop:=∀ ⦃w w':World⦄ ⦃B C:Nat⦄ ⦃p:Addr⦄ ⦃x:α⦄,At w B p x->p.block<B->B<=C->(∀q v,q.block<B->w.cell? q=some v->w'.cell? q=some v)->At w' C p x
theorem qD.mono{α:Type}{At:qV α}(hK:Jz At){k:Nat}{w w':World}{B C:Nat}{A:Option Addr}{l:List α}(h:qD At k w B A l)(hC:B<=C)(hc:∀q v,q.block<B->w.cell? q=some v->w'.cell? q=some v):qD At k w' C A l:=fun i x hi=>by
 obtain⟨ad,e,hb,ha⟩:=h i x hi;exact⟨ad,e,(by omega),hK ha (by exact zZ hb) hC hc⟩
theorem zd.mono{α:Type}{At:qV α}(hK:Jz At){k:Nat}{w w':World}{B C:Nat}{A:Option Addr}{cap:Nat}{l:List α}(h:zd At k w B A cap l)(hC:B<=C)(hc:∀q v,q.block<B->w.cell? q=some v->w'.cell? q=some v):zd At k w' C A cap l:=
 ⟨h.le,h.cap,h.row.mono hK hC hc⟩
theorem zu.mono:Jz zu:=fun _ _ _ _ p _ h hp _ hc=>hc _ _ hp h
theorem Jt.mono:Jz Jt:=fun _ _ _ _ p _ h hp _ hc=>⟨hc _ _ hp h.1,h.2⟩
theorem zf.mono:Jz zf:=fun _ _ _ _ p _ h hp _ hc=>⟨hc _ _ hp h.1,hc (zc p 1) _ hp h.2⟩
theorem ju.mono:Jz ju:=fun _ _ _ _ p _ h hp _ hc=>⟨hc _ _ hp h.1,hc (zc p 1) _ hp h.2.1,hc (zc p 2) _ hp h.2.2⟩
theorem zM.mono{α:Type}{At:qV α}(hK:Jz At)(k:Nat):Jz (zM At k):=fun _ _ _ _ _ _ ⟨A,cap,h,hs⟩ hp hC hc=>⟨A,cap,hc _ _ hp h,hs.mono hK hC hc⟩
theorem vw.mono:Jz vw:=fun _ _ _ _ _ _ h hp hC hc=>⟨hc _ _ hp h.sup,zM.mono zf.mono 2 h.fields hp hC hc,zM.mono zu.mono 1 h.slots hp hC hc,h.rng⟩
theorem kd.mono:Jz kd:=fun _ _ _ _ p _ h hp hC hc=>
 ⟨zM.mono zf.mono 2 h.args hp hC hc,zM.mono zf.mono 2 h.locals hp hC hc,hc (zc p 2) _ hp h.ret0,hc (zc p 3) _ hp h.ret1,zM.mono ju.mono 3 h.code hp hC hc,
  hc (zc p 5) _ hp h.depth,hc (zc p 6) _ hp h.pot,zM.mono zu.mono 1 h.phi hp hC hc⟩
theorem zd.hole{α:Type}{At:qV α}(hK:Jz At){k:Nat}{S S':Nat->Bool}{w w':World}{B C:Nat}{A:Option Addr}{cap:Nat}{l:List α}(h:zd At k (qL S w) B A cap l)(hC:B<=C)
  (hs:∀b,b<B->S b=false->S' b=false/\w'.heap[b]? =w.heap[b]?):zd At k (qL S' w') C A cap l:=
 h.mono hK hC fun q v hq hc=>by
  obtain⟨h1,h2⟩:=gQ.mp hc;obtain⟨g1,g2⟩:=hs _ hq h1;exact gQ.mpr (by grind [XU])
theorem zd.of_hole{α:Type}{At:qV α}(hK:Jz At){k:Nat}{S:Nat->Bool}{w:World}{B:Nat}{A:Option Addr}{cap:Nat}{l:List α}(h:zd At k (qL S w) B A cap l):zd At k w B A cap l:=
 h.mono hK (zn _) fun q v hq hc=>(gQ.mp hc).2
theorem wh{w w1:World}{N b:Nat}{o:Obj}(h:w.heap[b]? =some o)(hg:w.grownBy w1 (some N))(hne:b≠N):w1.heap[b]? =some o:=by
 rw[hg.block b (lt_of_block h) (by grind),h]
theorem Us{w:World}{b i:Nat}{vs:List Value}{T:TypeId}{fr:Nat×Nat}(h:w.heap[b]? =some (.cells vs.toArray T fr))(v:Value):(w.setCell ⟨b,i,none⟩ v).heap[b]? =some (.cells (vs.set i v).toArray T fr):=by
 have hlt:=lt_of_block h;have h':w.heap[b]= .cells vs.toArray T fr:=by grind
 show(w.heap.modify b _)[b]? =_
 grind
theorem Rb{w:World}{b:Nat}{o:Obj}(h:w.heap[b]? =some o){a:Addr}(ha:b≠a.block)(v:Value):(w.setCell a v).heap[b]? =some o:=(by grind [XJ])
theorem zR{w:World}{b:Nat}{vs:List Value}{T:TypeId}{fr:Nat×Nat}(h:w.heap[b]? =some (.cells vs.toArray T fr))(i:Nat)(v:Value)(hv:vs[i]? =some v):w.cell? ⟨b,i,none⟩=some v:=by
 simp[World.cell?,h,hv]
theorem zU{w:World}{b:Nat}{vs:List Value}{T:TypeId}(h:w.heap[b]? =some (.cells vs.toArray T (0,0)))(i:Nat):w.frozen? ⟨b,i,none⟩=false:=by
 simp[World.frozen?,h]
abbrev ElP(α:Type):=World->List Value->α->Prop
def YZ{α:Type}(El:ElP α):Prop:=∀ ⦃W W':World⦄ ⦃vs:List Value⦄ ⦃x:α⦄,El W vs x->W.heap.size<=W'.heap.size->(∀q v,q.block<W.heap.size->W.cell? q=some v->W'.cell? q=some v/\W'.frozen? q=W.frozen? q)->El W' vs x
def fw:ElP Int:=fun _ vs n=>vs=[.int .i64 n]
def rG:ElP Int:=fun _ vs n=>vs=[.int .i32 n]/\ -2147483648<=n/\n<=2147483647
def rZ:ElP (Int×Int):=fun _ vs t=>vs=[.int .i64 t.1,.int .i64 t.2]
def rH:ElP (Int×Int×Int):=fun _ vs i=>vs=[.int .i64 i.1,.int .i64 i.2.1,.int .i64 i.2.2]
def ni:ElP zW:=fun W vs c=>∃A1 k1 A2 k2,vs=[.int .i64 c.sup,.slice A1 c.fields.length k1,.slice A2 c.slots.length k2]/\zd zf 2 W W.heap.size A1 k1 c.fields/\zd zu 1 W W.heap.size A2 k2 c.slots/\ -9223372036854775808<=c.sup/\c.sup<=9223372036854775807
def ng:ElP zl:=fun W vs x=>∃A0 k0 A1 k1 A4 k4 A7 k7,vs=[.slice A0 x.args.length k0,.slice A1 x.locals.length k1,.int .i64 x.ret.1,.int .i64 x.ret.2,.slice A4 x.code.length k4,.int .i64 x.depth,.int .i64 x.pot,.slice A7 x.phi.length k7]/\
 zd zf 2 W W.heap.size A0 k0 x.args/\zd zf 2 W W.heap.size A1 k1 x.locals/\zd ju 3 W W.heap.size A4 k4 x.code/\zd zu 1 W W.heap.size A7 k7 x.phi
theorem fw.mono:YZ fw:=fun _ _ _ _ h _ _=>h
theorem rG.mono:YZ rG:=fun _ _ _ _ h _ _=>h
theorem rZ.mono:YZ rZ:=fun _ _ _ _ h _ _=>h
theorem rH.mono:YZ rH:=fun _ _ _ _ h _ _=>h
theorem ni.mono:YZ ni:=fun _ _ _ _ ⟨A1,k1,A2,k2,e,h1,h2,h3⟩ hs hc=>⟨A1,k1,A2,k2,e,h1.mono zf.mono hs (by grind),h2.mono zu.mono hs (by grind),h3⟩
theorem ng.mono:YZ ng:=fun _ _ _ _ ⟨A0,k0,A1,k1,A4,k4,A7,k7,e,h0,h1,h4,h7⟩ hs hc=>⟨A0,k0,A1,k1,A4,k4,A7,k7,e,h0.mono zf.mono hs (by grind),h1.mono zf.mono hs (by grind),h4.mono ju.mono hs (by grind),h7.mono zu.mono hs (by grind)⟩
def nH{α:Type}(El:ElP α)(At:qV α)(k:Nat):Prop:=∀ ⦃W:World⦄ ⦃vs:List Value⦄ ⦃x:α⦄ ⦃p:Addr⦄,El W vs x->(∀j u,vs[j]? =some u->W.cell? (p.add j)=some u)->vs.length=k/\At W W.heap.size p x
theorem wu(p:Addr):p.add 0=p:=by simp[Addr.add]
theorem aD{n:Nat}(p:Addr)(h:0<n):p.add n=zc p n:=by
 unfold Addr.add zc
 grind
theorem fw.at_:nH fw zu 1:=fun W vs x p e hc=>by subst e;exact⟨rfl,by have:=hc 0 _ rfl;rwa [wu]at this⟩
theorem rG.at_:nH rG Jt 1:=fun W vs x p e hc=>by obtain⟨rfl,h⟩:=e;exact⟨rfl,by have:=hc 0 _ rfl;rwa [wu]at this,h⟩
theorem rZ.at_:nH rZ zf 2:=fun W vs x p e hc=>by
 subst e;exact⟨rfl,by have:=hc 0 _ rfl;rwa [wu]at this,by have:=hc 1 _ rfl;grind [aD]⟩
theorem rH.at_:nH rH ju 3:=fun W vs x p e hc=>by
 subst e;exact⟨rfl,by have:=hc 0 _ rfl;rwa [wu]at this,by have:=hc 1 _ rfl;grind [aD],by have:=hc 2 _ rfl;grind [aD]⟩
theorem ni.at_:nH ni vw 3:=fun W vs x p e hc=>by
 obtain⟨A1,k1,A2,k2,rfl,h1,h2,h3⟩:=e;exact⟨rfl,by have:=hc 0 _ rfl;rwa [wu]at this,⟨A1,k1,by have:=hc 1 _ rfl;grind [aD],h1⟩,⟨A2,k2,by have:=hc 2 _ rfl;grind [aD],h2⟩,h3⟩
theorem ng.at_:nH ng kd 8:=fun W vs x p e hc=>by
 obtain⟨A0,k0,A1,k1,A4,k4,A7,k7,rfl,h0,h1,h4,h7⟩:=e;refine⟨rfl,⟨A0,k0,?_,h0⟩,⟨A1,k1,?_,h1⟩,?_,?_,⟨A4,k4,?_,h4⟩,?_,?_,⟨A7,k7,?_,h7⟩⟩
 ·have:=hc 0 _ rfl;rwa [wu]at this
 ·have:=hc 1 _ rfl;grind [aD]
 ·have:=hc 2 _ rfl;grind [aD]
 ·have:=hc 3 _ rfl;grind [aD]
 ·have:=hc 4 _ rfl;grind [aD]
 ·have:=hc 5 _ rfl;grind [aD]
 ·have:=hc 6 _ rfl;grind [aD]
 ·have:=hc 7 _ rfl;grind [aD]
theorem wL{α:Type}{El:ElP α}(hM:YZ El){S S':Nat->Bool}{w w':World}{vs:List Value}{x:α}(h:El (qL S w) vs x)(hz:w.heap.size<=w'.heap.size)
  (hs:∀b,b<w.heap.size->S b=false->S' b=false/\w'.heap[b]? =w.heap[b]?):El (qL S' w') vs x:=
 hM h (by grind [Vv]) fun q v hq hc=>by
  rw[Vv]at hq;obtain⟨h1,h2⟩:=gQ.mp hc;obtain⟨g1,g2⟩:=hs _ hq h1;exact⟨gQ.mpr (by grind [XU]),by grind [q53,World.frozen?_of_block]⟩
theorem Q5{k:Nat}:∀(vI:List (List Value)) (i r:Nat) (vs:List Value),(∀vs ∈vI,vs.length=k)->vI[i]? =some vs->r<k->vI.flatten[i*k+r]? =vs[r]?
 | [],i,r,x,_,h,_=>by simp at h
 |y::l,0,r,x,hf,h,hr=>by
  grind
 |y::l,i+1,r,x,hf,h,hr=>by
  have e:=hf y XV;rw[List.flatten_cons,XN (by rw[e,Nat.add_mul];omega),e];rw[show(i+1)*k+r - k=i*k+r by rw[Nat.add_mul];omega];exact Q5 l i r x (by grind) (by grind) hr
def rowS(base:Nat)(v:Value):Nat->Bool:=fun b=>decide (b<base)||decide (v.ownBlock=some b)
theorem AU{base b:Nat}{v:Value}:rowS base v b=false↔base<=b/\¬v.ownBlock=some b:=by unfold rowS;simp
def ZV{α:Type}(El:ElP α)(w:World)(base e k:Nat)(v:Value)(l:List α):Prop:=
 ∃vI:List (List Value),vI.length=l.length/\(∀vs ∈vI,vs.length=k)/\w.ownsRow base e k v l.length vI.flatten/\∀(i:Nat) (vs:List Value) (x:α),vI[i]? =some vs->l[i]? =some x->El (qL (rowS base v) w) vs x
section
variable{α:Type}{El:ElP α}{w w':World}{base e k:Nat}{v:Value}{l:List α}
theorem ZV.nil(w:World):ZV El w base e k (.slice none 0 0) ([]:List α):=⟨[],rfl,by simp,XM _ _ _ _,(by grind)⟩
theorem ZV.keep(hM:YZ El)(h:ZV El w base e k v l){N:Nat}(hg:w.grownBy w' (some N))(hN:N<base):ZV El w' base e k v l:=by
 obtain⟨vI,h1,h2,h3,h4⟩:=h;refine⟨vI,h1,h2,h3.kept hg ?_,fun i vs x hi hx=>wL hM (h4 i vs x hi hx) hg.size fun b hb hs=>⟨hs,hg.block b hb ?_⟩⟩
 ·rcases hv:v.ownBlock with _|g
  ·grind
  ·exact .inr (fun e=>by injection e with e;have:=(h3.lt g hv).1;omega)
 ·intro e;injection e with e;have:=(AU.mp hs).1;omega
theorem ZV.alloc(hM:YZ El)(h:ZV El w base e k v l)(o:Obj):ZV El (w.alloc o) base e k v l:=by
 obtain⟨vI,h1,h2,h3,h4⟩:=h;exact⟨vI,h1,h2,h3.alloc o,fun i vs x hi hx=>wL hM (h4 i vs x hi hx) (by simp) (by grind [Below.heap_alloc])⟩
theorem ZV.snoc(hM:YZ El){vI:List (List Value)}(h1:vI.length=l.length)(h2:∀vs ∈vI,vs.length=k)(h3:w.ownsRow base e k v l.length vI.flatten)
  (h4:∀(i:Nat) (vs:List Value) (x:α),vI[i]? =some vs->l[i]? =some x->El (qL (rowS base v) w) vs x) {vs:List Value} {x:α} (hk:vs.length=k) {n:Nat} (hn:base<=n) (hv:∀g,v.ownBlock=some g->g<n)
  (hx:El (qL (fun b=>decide (b<n)) w) vs x) {g c:Nat} (hown:w'.ownsRow base e k (.slice (some ⟨g,0,none⟩) (l.length+1) c) (l.length+1) (vI.flatten++vs)) (hgrow:w.grownBy w' v.ownBlock) (hor:v.ownBlock=some g\/g=w.heap.size):
  ZV El w' base e k (.slice (some ⟨g,0,none⟩) (l.length+1) c) (l++[x]):=by
 have hS:∀b,b<w.heap.size->rowS base v b=false->rowS base (.slice (some ⟨g,0,none⟩) (l.length+1) c) b=false/\w'.heap[b]? =w.heap[b]? :=fun b hb hs=>by
  obtain⟨s1,s2⟩:=AU.mp hs;refine⟨AU.mpr ⟨s1,fun e=> ?_⟩,hgrow.block b hb (fun e=>s2 e.symm)⟩;have e:g=b:=by simpa[Value.ownBlock]using e
  grind
 refine⟨vI++[vs],by simp[h1],fun y hy=> ?_,by grind,fun i ys y hi hy=> ?_⟩
 ·grind
 ·rcases Xl i l.length with hlt|hge
  ·rw[XO (by omega)]at hi hy;exact wL hM (h4 i ys y hi hy) hgrow.size hS
  ·rw[XN (by omega)]at hi hy;have e1:i=l.length:=by
    grind
   subst e1;simp[h1]at hi hy;subst hi hy;exact wL hM hx hgrow.size fun b hb hs=>hS b hb (AU.mpr (by grind))
theorem ZV.slice{At:qV α}(hE:nH El At k)(hM:YZ El)(hk:0<k)(h:ZV El w base e k v l):
  ∃A c,v= .slice A l.length c/\zd At k (qL (fun b=>decide (b<base)) w) w.heap.size A c l:=by
 obtain⟨vI,h1,h2,h3,h4⟩:=h;rcases Je h3 with⟨rfl,hn⟩|⟨g,c,rfl,hc,hm⟩
 ·have:l=[]:=(by grind)
  subst this;exact⟨none,0,rfl,⟨zn _,by omega,qD.nil⟩⟩
 ·refine⟨_,c,rfl,⟨hc,hm,fun i x hx=> ?_⟩⟩;obtain⟨hb,hcell⟩:=lZ h3;have hi:i<l.length:=by
   grind
  have hvs:vI[i]? =some vI[i]:=(by grind)
  have hl:=h2 _ (Xd (show i<vI.length by omega));have hel:=h4 i _ x hvs hx;have hcs:∀j u,vI[i][j]? =some u->w.cell? ((Addr.add ⟨g,0,none⟩ (i*k)).add j)=some u/\g<w.heap.size:=fun j u hu=>by
   have hj:j<k:=by
    grind
   have:=hcell (i*k+j) u (by rw[Q5 vI i j _ h2 hvs hj];exact hu);rw[uK];have e:(Addr.add ⟨g,0,none⟩ (i*k+j))=⟨g,i*k+j,none⟩:=by
    unfold Addr.add;grind
   grind
  have hgw:g<w.heap.size:=by
   cases hv:vI[i]with
   |nil=>grind
   |cons a t=>exact(hcs 0 a (by rw[hv];rfl)).2
  refine⟨_,rfl,hgw,?_⟩;have hA:=hE (W:=qL (fun b=>decide (b<base)) w) (p:=Addr.add ⟨g,0,none⟩ (i*k)) (wL hM hel (zn _) fun b hb' hs=>⟨by have:=(AU.mp hs).1;simp;omega,rfl⟩) fun j u hu=>gQ.mpr (by grind [zC])
  grind [Vv]
end
theorem pJ{P:Program}{t:TypeId}{k b:Nat}(h:(P.info? t).map (fun i=>(i.zero.map (fun z=>z.cells.size),i.size,i.bytes))=some (some k,k,b)):∃i z,P.info? t=some i/\i.zero=some z/\z.cells.size=k/\i.size=k/\i.bytes=b:=by
 cases hi:P.info? t with
 |none=>grind
 |some i=>
  simp_all
section
variable{α:Type}{At:qV α}{k:Nat}{S:Nat->Bool}{wa w w1:World}{A:Option Addr}{cap:Nat}{l:List α}
theorem qbb(hK:Jz At)(h:zd At k (qL (old wa) w) w.heap.size A cap l){N:Nat}(hg:w.grownBy w1 (some N))(hN:N<wa.heap.size):zd At k (qL (old wa) w1) w1.heap.size A cap l:=
 h.hole hK hg.size fun b hb hs=>⟨hs,hg.block b hb (fun e=>by injection e with e;have:=Yv.mp hs;omega)⟩
theorem qj6(hK:Jz At)(h:zd At k (qL (old wa) w) w.heap.size A cap l){a:Addr}(ha:a.block<wa.heap.size)(v:Value):zd At k (qL (old wa) (w.setCell a v)) (w.setCell a v).heap.size A cap l:=
 h.hole hK (by simp) fun b hb hs=>⟨hs,XJ w a v b (by have:=Yv.mp hs;omega)⟩
theorem aA(hK:Jz At){B:Nat}(h:zd At k (qL (old w) w1) B A cap l)(hz:wa.heap.size<=w.heap.size):zd At k (qL (old wa) w1) B A cap l:=
 h.hole hK (zn _) fun b hb hs=>⟨Yv.mpr (Xe hz (Yv.mp hs)),rfl⟩
end
theorem q0u{n:Nat}{w:World}(h:n<=w.heap.size)(a:Addr)(v:Value):n<=(w.setCell a v).heap.size:=by simpa using h
def vD(n:Int):Bool:=decide (n> -4611686018427387904)&& decide (n<4611686018427387904)
theorem mo{n:Int}:vD n=true↔ -4611686018427387904<n/\n<4611686018427387904:=by
 unfold vD;rw[Xt,Xw,Xw]
def iq(a b:Int):Option Int:=if vD a=true/\vD b=true/\vD (a*b)=true then some (a*b)else none
def rO(a b:Int):Option Int:=if vD a=true/\vD b=true/\vD (a+b)=true then some (a+b)else none
def Vx(s:Int):List (Int×Int)->Option Int
 | []=>some s
 |p::l=>match iq p.1 p.2 with
  |none=>none
  |some x=>match rO s x with
   |none=>none
   |some y=>Vx y l
def rU(a b:List Int):Option Int:=Vx 0 (a.zip b)
theorem qhv{s:Int}{p:Int×Int}{l:List (Int×Int)}(h:iq p.1 p.2=none):Vx s (p::l)=none:=by unfold Vx;rw[h]
theorem qhu{s x:Int}{p:Int×Int}{l:List (Int×Int)}(h:iq p.1 p.2=some x)(g:rO s x=none):Vx s (p::l)=none:=by unfold Vx;rw[h];dsimp only;rw[g]
theorem WI{s x y:Int}{p:Int×Int}{l:List (Int×Int)}(h:iq p.1 p.2=some x)(g:rO s x=some y):Vx s (p::l)=Vx y l:=by
 conv=>lhs;unfold Vx
 rw[h];dsimp only;rw[g]
abbrev Inq:=List Int×Int
def Be:qV Inq:=fun w B p q=>zM zu 1 w B p q.1/\w.cell? (zc p 1)=some (.int .i64 q.2)
theorem Be.keeps:ZC Be:=fun _ _ _ _ p _ h hp hC hc=>⟨zM.keeps zu.keeps 1 h.1 hp hC hc,(hc (zc p 1) hp).trans h.2⟩
abbrev inqV(q:Inq)(A:Option Addr)(c:Nat):Value:= .agg #[.slice A q.1.length c,.int .i64 q.2]
def VA(q:Inq)(at_:List Int):Option Bool:=if q.1.length=at_.length then(rU q.1 at_).map (fun n=>decide (n<=q.2))else none
def Bf(r:Option Bool)(w:World)(e:Ending)(w':World):Prop:=e= .returned (.tuple #[.bool (r.getD false),.int .i64 (if r.isSome then 0 else 14)])/\Below w.heap.size w w'
def aM:List Int->List Int->Int
 |a::l,b::m=>a*b+aM l m
 | [],_=>0
 |_::_,[]=>0
theorem q38(a:List Int):aM a []=0:=by cases a<;>rfl
theorem WC{n:Int}(h:n.natAbs<4611686018427387904):vD n=true:=mo.mpr (by omega)
theorem Pf(P Q:Nat)(hP:P<4611686018427387904)(hQ:Q<4611686018427387904)(Nu:P*Q<4611686018427387904):∀(a b:List Int) (s:Int),(∀x ∈a,x.natAbs<=P)->(∀y ∈b,y.natAbs<=Q)->s.natAbs+a.length*(P*Q)<4611686018427387904->
  Vx s (a.zip b)=some (s+aM a b)
 | [],b,s,_,_,_=>by simp[Vx,aM]
 |a::l,[],s,_,_,_=>by simp[Vx,aM]
 |a::l,b::m,s,ha,hb,hs=>by
  have h1:=ha a (by simp);have h2:=hb b (by simp);have h3:(a*b).natAbs<=P*Q:=by rw[Int.natAbs_mul];exact Nat.mul_le_mul h1 h2
  have h4:(s+a*b).natAbs<=s.natAbs+P*Q:=(by omega)
  have h5:(l.length+1)*(P*Q)=l.length*(P*Q)+P*Q:=Nat.succ_mul _ _;rw[XI,h5]at hs;have ht:iq a b=some (a*b):=Xb (by grind [WC]);have hp:rO s (a*b)=some (s+a*b):=Xb (by grind [WC]);rw[List.zip_cons_cons,WI (p:=(a,b)) ht hp,Pf P Q hP hQ Nu l m (s+a*b) (by grind) (by grind) (by omega)];show some (s+a*b+aM l m)=some (s+(a*b+aM l m))
  grind
theorem q99{P Q:Nat}(hP:P<4611686018427387904)(hQ:Q<4611686018427387904)(Nu:P*Q<4611686018427387904){a b:List Int}(ha:∀x ∈a,x.natAbs<=P)(hb:∀y ∈b,y.natAbs<=Q)(h:a.length*(P*Q)<4611686018427387904):rU a b=some (aM a b):=by
 have:=Pf P Q hP hQ Nu a b 0 ha hb (by omega);rw[Int.zero_add]at this;exact this
def ofO(n:Int):Option Int:=if vD n=true then some n else none
def dn:Option Int->Option Int->Option Int
 |some a,some b=>ofO (a+b)
 |_,_=>none
def Vf:Option Int->Option Int->Option Int
 |some a,some b=>ofO (a*b)
 |_,_=>none
def ZW(r:Option Int):Prop:=∀n,r=some n->vD n=true
theorem EB(n:Int):ZW (ofO n):=fun k e=>by
 unfold ofO at e
 grind
theorem Uw(a b:Option Int):ZW (dn a b):=by
 cases a with
 |none=>intro k e;cases e
 |some x=>cases b with
  |none=>intro k e;cases e
  |some y=>exact EB _
theorem TP(a b:Option Int):ZW (Vf a b):=by
 cases a with
 |none=>intro k e;cases e
 |some x=>cases b with
  |none=>intro k e;cases e
  |some y=>exact EB _
theorem qdq:ZW (some 0):=fun n e=>by injection e with e;subst e;rfl
theorem TN(a b:Int):Vf (ofO a) (ofO b)=iq a b:=by
 unfold iq ofO;cases ha:vD a with
 |false=>cases hb:vD b with
  |false=>simp[Vf]
  |true=>simp[Vf]
 |true=>cases hb:vD b with
  |false=>simp[Vf]
  |true=>cases hc:vD (a*b)with
   |false=>simp[Vf,ofO,hc]
   |true=>simp[Vf,ofO,hc]
theorem Rj{a b n:Int}(h:iq a b=some n):vD n=true:=by
 rw[<-TN]at h;exact TP _ _ n h
theorem WU{a b:Int}(ha:vD a=true)(hb:vD b=true):dn (some a) (some b)=rO a b:=by
 unfold rO;cases hc:vD (a+b)with
 |false=>simp[dn,ofO,hc]
 |true=>simp[dn,ofO,hc,ha,hb]
def Bi(s:Option Int)(p:Int×Int):Option Int:=dn s (Vf (ofO p.1) (ofO p.2))
theorem q5x(s:Option Int)(p:Int×Int):ZW (Bi s p):=Uw _ _
def wS(s:Option Int)(l:List (Int×Int)):Option Int:=l.foldl Bi s
theorem Ka:∀l:List (Int×Int),wS none l=none
 | []=>rfl
 |p::l=>Ka l
theorem Uh:∀(l:List (Int×Int)) (s:Int),vD s=true->wS (some s) l=Vx s l
 | [],s,h=>rfl
 |p::l,s,h=>by
  show wS (Bi (some s) p) l=_;unfold Bi;rw[TN];cases hx:iq p.1 p.2 with
  |none=>rw[qhv hx];exact Ka l
  |some x=>
   rw[WU h (Rj hx)];cases hy:rO s x with
   |none=>grind [qhu,Ka]
   |some y=>
    rw[WI hx hy];have hf:vD y=true:=by
     rw[<-WU h (Rj hx)]at hy;exact Uw _ _ y hy
    exact Uh l y hf
def VF(L M:List Int)(i:Nat):Option Int:=wS (some 0) ((L.zip M).take i)
theorem Sd:∀(l:List (Int×Int)) (s:Option Int),ZW s->ZW (wS s l)
 | [],s,h=>h
 |p::l,s,h=>Sd l (Bi s p) (q5x s p)
theorem q7f(L M:List Int)(i:Nat):ZW (VF L M i):=Sd _ _ qdq
theorem q7e{L M:List Int}{i:Nat}{x y:Int}(h1:L[i]? =some x)(h2:M[i]? =some y):VF L M (i+1)=dn (VF L M i) (Vf (ofO x) (ofO y)):=by
 have hz:(L.zip M)[i]? =some (x,y):=by grind
 unfold VF;rw[Xx,hz];unfold wS;rw[Wg];rfl
theorem qcd{L M:List Int}{n:Nat}(h:(L.zip M).length<=n):VF L M n=rU L M:=by
 unfold VF;rw[XA h,Uh _ _ rfl];rfl
theorem UC{x y n:Int}(hx:vD x=true)(hy:vD y=true)(h0:y≠0)(hn:IntKind.i64.wrap (x*y)=n):(-9223372036854775808<=Int.tdiv n y/\Int.tdiv n y<9223372036854775808)/\(Int.tdiv n y=x->n=x*y):=by
 have⟨x1,x2⟩:=mo.mp hx;have⟨y1,y2⟩:=mo.mp hy;have hr: -9223372036854775808<=n/\n<9223372036854775808/\∃k:Int,n=x*y+k*18446744073709551616:=by
  rw[IntKind.wrap_i64]at hn;refine⟨by omega,by omega,?_⟩;refine⟨(n - x*y) / 18446744073709551616,?_⟩;omega
 obtain⟨n1,n2,k,hk⟩:=hr;have hd:=Int.mul_tdiv_add_tmod n y;have hm1:(Int.tmod n y).natAbs<y.natAbs:=by
  rw[Int.natAbs_tmod];exact Nat.mod_lt _ (by omega)
 have hq:(Int.tdiv n y).natAbs=n.natAbs / y.natAbs:=by rw[Int.natAbs_tdiv];rfl
 have hback:Int.tdiv n y=x->n=x*y:=(by grind [Int.mul_comm])
 refine⟨?_,hback⟩;by_cases e1:y= -1
 ·grind
 ·have hle:n.natAbs / y.natAbs<=n.natAbs:=Nat.div_le_self _ _;by_cases e2:y=1
  ·grind
  ·have h2:2<=y.natAbs:=by omega
   have:n.natAbs / y.natAbs<=n.natAbs / 2:=Nat.div_le_div_left h2 (by decide);omega
theorem qgx{x y n:Int}(hx:vD x=true)(hy:vD y=true)(h0:y≠0)(hn:IntKind.i64.wrap (x*y)=n):(Int.tdiv n y≠x->vD (x*y)=false)/\(Int.tdiv n y=x->n=x*y):=by
 have⟨_,hb⟩:=UC hx hy h0 hn;refine⟨fun h=> ?_,hb⟩;cases hf:vD (x*y)with
 |false=>rfl
 |true=>
  have⟨a,b⟩:=mo.mp hf
  grind [IntWalk.i64_in,Int.mul_tdiv_cancel]
def numC(r:Option Int):List Value:=[.int .i64 (r.getD 0),.bool r.isNone]
abbrev vx(r:Option Int):Value:= .agg #[.int .i64 (r.getD 0),.bool r.isNone]
theorem qck{w:World}{g:Nat}{s r:Option Int}{T:TypeId}(h:zm w g (numC s) T):zm ((w.setCell ⟨g,0,none⟩ (.int .i64 (r.getD 0))).setCell ⟨g,1,none⟩ (.bool r.isNone)) g (numC r) T:=(h.set 0 _).set 1 _
theorem zm.drew'{w:World}{g:Nat}{vs:List Value}{T:TypeId}(h:zm w g vs T):zm w.drew g vs T:=h
def zG(n:Nat):List Int:=if h:n<128 then [(n:Int)]else(128+(n:Int) % 128)::zG (n / 128)
termination_by n
decreasing_by omega
theorem uF{n:Nat}(h:n<128):zG n=[(n:Int)]:=by rw[zG,dif_pos h]
theorem yJ{n:Nat}(h:128<=n):zG n=(128+(n:Int) % 128)::zG (n / 128):=by rw[zG,dif_neg (by omega)]
theorem Dx(k:Nat):∀n,n<128 ^ (k+1)->(zG n).length<=k+1:=by
 induction k with
 |zero=>grind [uF]
 |succ k ih=>
  grind [uF,yJ,Nat.div_lt_iff_lt_mul,Nat.pow_succ]
theorem vT{n:Nat}(h:n<=9223372036854775807):(zG n).length<=9:=Dx 8 n (by omega)
theorem lT(n:Nat):0<(zG n).length:=by
 rw[zG];grind
theorem QL(n:Nat):∀b ∈zG n,0<=b/\b<=255:=by
 induction n using Nat.strongRecOn with
 |ind n ih=>
  by_cases hs:n<128
  ·grind [uF]
  ·rw[yJ (by omega)]
   grind
theorem mF:(Tryz.prog.info? 5).map (fun i=>(i.zero,i.size,i.bytes))=some (some (.int .u8 0),1,1):=by kernel_rfl
def eP(l:List Int)(w:World)(e:Ending)(w':World):Prop:=
 ∃v,e= .returned v/\w'.ownsRow w.heap.size 5 1 v l.length (l.map (Value.int .u8))/\Below w.heap.size w w'
theorem U3{B:Nat}{w w1:World}{e:TypeId}{v v':Value}{pre:List Int}{b:Int}{o:Obj}{wr:World}
  (hown:wr.ownsRow B e 1 v pre.length (pre.map (Value.int .u8))) (hB:B<=wr.heap.size) (hnx:Below B w wr)
  (hown':w1.ownsRow B e 1 v' (pre.length+1) (pre.map (Value.int .u8)++[.int .u8 b])) (hgrow:(wr.alloc o).grownBy w1 v.ownBlock):
  w1.ownsRow B e 1 v' (pre++[b]).length ((pre++[b]).map (Value.int .u8))/\Below B w w1:=
 ⟨by grind,(hnx.alloc hB o).grown hgrow (by simp;omega) (fun j hj=>(hown.lt j hj).1)⟩
set_option maxRecDepth 1000000 in
set_option maxHeartbeats 1600000 in
theorem Qj(n:Int)(h1:n<=9223372036854775807)(w:World):Calls Tryz.prog 21 #[.int .i64 n] w (eP (zG n.toNat) w):=by
 obtain⟨i0,hi,hz0,hz1,hz2⟩:=info_parts mF;by_cases hn:n<0;all_goals
  have L:=vT (n:=n.toNat) (by omega);go_enter Tryz.func21,Tryz.ntmps21;go_wp2
  go_loopw [0,3] (fun a v wr=>∃(m:Nat) (pre:List Int),a= .int .i64 m/\(m:Int)<=9223372036854775807/\pre++zG m=zG n.toNat/\
    wr.ownsRow w.heap.size 5 1 v pre.length (pre.map (Value.int .u8))/\Below w.heap.size w wr) (fun a _ _=>(intOf a).toNat)
  case atStart=>
   refine⟨n.toNat,[],?_,by omega,rfl,⟨rfl,.inr ⟨w.heap.size,0,#[],rfl,zn _,Xz _ _,zn _,by omega,rfl,rfl⟩⟩,(zb _ _).alloc (zn _) _⟩
   grind
  case round=>
   obtain⟨m,pre,rfl,hm,hpre,hown,hnx⟩:=hrel;have HP:=zH hpre;have hlen:pre.length+(zG m).length<=9:=by grind
   have hpos:=lT m;clear hpre;by_cases hlt:128<=m
   ·have G:=zH (yJ hlt);go_wp2_with(at_builtin;refine wpList_append_own _ rfl _ _ 22 rfl w.heap.size 5 i0 (.int .u8 0) 1 1 Tryz.underlying22 hi hz0 hz1 hz2 rfl (by decide) _ _ _ rfl (hown.alloc _) ⟨_,0,none⟩ 1 1 [.int .u8 (128+(m:Int) % 128)] rfl rfl ?c1 ?c2 ?c3 ?c4 ?c5 ?_)
    case c1=>
     intro j u hj
     match j,hj with
     |0,hj=>simp at hj;subst hj;simp[Addr.add]
    case c2=>intro u hu;simp at hu;subst hu;rfl
    case c3=>unfold maxLen;omega
    case c4=>omega
    case c5=>have:=hnx.size;simp;omega
    intro v' w1 hown' hgrow _;have R:=U3 hown hnx.size hnx hown' hgrow;clear hown' hgrow hown;go_wp2
    go_roundw;case rel=>exact⟨m / 128,pre++[128+(m:Int) % 128],by simp,by omega,by rw[<-HP.out,G.out];simp,R.1,R.2⟩
    case measure=>simp[intOf];omega
   ·have G:=zH (uF (n:=m) (by omega));go_wp2_with(at_builtin;refine wpList_append_own _ rfl _ _ 22 rfl w.heap.size 5 i0 (.int .u8 0) 1 1 Tryz.underlying22 hi hz0 hz1 hz2 rfl (by decide) _ _ _ rfl (hown.alloc _) ⟨_,0,none⟩ 1 1 [.int .u8 (m:Int)] rfl rfl ?d1 ?d2 ?d3 ?d4 ?d5 ?_)
    case d1=>
     intro j u hj
     match j,hj with
     |0,hj=>simp at hj;subst hj;simp[Addr.add]
    case d2=>intro u hu;simp at hu;subst hu;rfl
    case d3=>unfold maxLen;omega
    case d4=>omega
    case d5=>have:=hnx.size;simp;omega
    intro v' w1 hown' hgrow _;have R:=U3 hown hnx.size hnx hown' hgrow;clear hown' hgrow hown;go_wp2
    go_ret;refine⟨v',rfl,?_,R.2⟩;rw[<-HP.out,G.out];exact R.1
theorem qec{P:Program}{w:World}{B:Nat}{A:Option Addr}{l:List Int}{cap:Nat}{src dst e:TypeId}(hs:P.underlying src=some (.slice e))(he:P.underlying e=some (.int .u8))(hd:P.underlying dst=some .string)
  (h:zw w B A (l.map (Value.int .u8))):(convert src dst (.slice A l.length cap)).run P w= .ok (.string (strOfNums l)) w:=by
 rcases A with _|ad
 ·have hl:l=[]:=by
   cases l with
   |nil=>rfl
   |cons b r=>
    obtain⟨ad,e,_⟩:=h 0 (.int .u8 b) rfl;cases e
  subst hl;rw[run_convert_bytes_nil w src e hs he _ _ dst hd];rfl
 ·obtain⟨g,off,spot⟩:=ad;by_cases hl:l=[]
  ·subst hl;rw[run_convert_bytes_string w src dst e _ _ _ hs he hd];exact(run_bytesToString (P:=P) w ⟨g,off,spot⟩ 0 cap [] (run_loadCells_list (P:=P) w _ [] (fun j v hj=>by simp at hj))).trans rfl
  ·have hpos:0<l.length:=List.length_pos_iff.mpr hl;have hspot:spot=none:=by
    obtain⟨ad,e,_,hc⟩:=h.at_ (k:=0) (by simpa using hpos);injection e with e;subst e;simpa[Addr.add]using World.cell?_spot hc
   subst hspot;refine run_convert_bytes_arg w src e hs he g off l.length cap l rfl (fun i hi=> ?_) dst hd;obtain⟨ad,e,_,hc⟩:=h.at_ (k:=i) (by simpa using hi);injection e with e;subst e;have e:(Addr.add ⟨g,off,none⟩ i)=⟨g,off+i,none⟩:=by
    unfold Addr.add;split
    ·rename_i h0;subst h0;rfl
    ·rfl
   rw[<-e,hc];simp[List.getD,Xc hi]
theorem Pi(l:List Int):(strOfNums l).toList=l.map fun n=>UInt8.ofNat n.toNat:=by
 rw[ByteArray.toList_eq,strOfNums_data]
theorem qgs{l m:List Int}(hl:∀b ∈l,0<=b/\b<=255)(hm:∀b ∈m,0<=b/\b<=255)(h:(l.map fun n=>UInt8.ofNat n.toNat)=m.map fun n=>UInt8.ofNat n.toNat):l=m:=by
 induction l generalizing m with
 |nil=>
  cases m with
  |nil=>rfl
  |cons b r=>simp at h
 |cons a r ih=>
  cases m with
  |nil=>simp at h
  |cons b s=>
   simp only[List.map_cons,List.cons.injEq]at h;obtain⟨a0,a1⟩:=hl a XV;obtain⟨b0,b1⟩:=hm b XV;have e:a=b:=by
    have:=congrArg UInt8.toNat h.1;simp at this;omega
   rw[e,ih (fun c hc=>hl c (XY _ hc)) (fun c hc=>hm c (XY _ hc)) h.2]
theorem q0l{l m:List Int}(hl:∀b ∈l,0<=b/\b<=255)(hm:∀b ∈m,0<=b/\b<=255):((strOfNums l).toList==(strOfNums m).toList)=decide (l=m):=by
 by_cases h:l=m
 ·subst h;simp
 ·rw[Xf h,XG,Pi,Pi];exact fun g=>h (qgs hl hm g)
theorem mG{w:World}{B:Nat}{A:Option Addr}{l:List Int}{cap:Nat}(h:zw w B A (l.map (Value.int .u8))):(convert 22 9 (.slice A l.length cap)).run Tryz.prog w= .ok (.string (strOfNums l)) w:=
 qec Tryz.underlying22 Tryz.underlying5 Tryz.underlying9 h
def zig(n:Int):Int:=if n<0 then -2*n - 1 else 2*n
def Jq(fuel k n u:Nat):List Int->Nat×Nat
 | []=>(0,0)
 |b::r=>match fuel with
  |0=>(0,0)
  |f+1=>if b<128 then(if 0<k/\b=0 then(0,0)else(n+u*(b.toNat % 128),k+1))else Jq f (k+1) (n+u*(b.toNat % 128)) (u*128) r
def vt(l:List Int):Nat×Nat:=Jq 5 0 0 1 l
def IsPair(p:Nat×Nat)(w:World)(e:Ending)(w':World):Prop:=e= .returned (.tuple #[.int .i64 p.1,.int .i64 p.2])/\w=w'
def ql(rest:List Int)(bad:Bool)(most:Int):Int×List Int×Bool:=
 if bad=false/\0<(vt rest).2/\((vt rest).1:Int)<=most then((vt rest).1,rest.drop (vt rest).2,false)else(0,rest,true)
def zag(n:Int):Int:=if n % 2=0 then n / 2 else -((n+1) / 2)
theorem Po(f k N U n:Nat)(r:List Int)(hs:n<128)(hk:k=0\/0<n):Jq (f+1) k N U (zG n++r)=(N+U*n,k+(zG n).length):=by
 rw[uF hs];simp only[List.singleton_append,Jq]
 grind
theorem q40(f:Nat):∀(k N U n:Nat) (r:List Int),n<128 ^ (f+1)->(k=0\/0<n)->Jq (f+1) k N U (zG n++r)=(N+U*n,k+(zG n).length):=by
 induction f with
 |zero=>
  grind [Po]
 |succ f ih=>
  intro k N U n r hn hk;by_cases hs:n<128
  ·grind [Po]
  ·rw[yJ (by omega)];simp only[List.cons_append,Jq];rw[Xa (by omega)];have hf:n / 128<128 ^ (f+1):=by omega
   rw[ih (k+1) _ _ (n / 128) r hf (.inr (by omega))];have e:(128+(n:Int) % 128).toNat % 128=n % 128:=by omega
   rw[e];have e2:U*128*(n / 128)=U*(128*(n / 128)):=Nat.mul_assoc _ _ _;have e3:U*n=U*(n % 128)+U*(128*(n / 128)):=by rw[<-Nat.mul_add];grind
   grind
theorem q7p{n:Nat}(r:List Int)(h:n<34359738368):vt (zG n++r)=(n,(zG n).length):=by
 have:=q40 4 0 0 1 n r (by omega) (.inl rfl);unfold vt
 grind
theorem q4z(f:Nat):∀(k N U v s:Nat) (l:List Int),(∀b ∈l,0<=b/\b<=255)->Jq f k N U l=(v,s)->0<s->
  ∃n,v=N+U*n/\s=k+(zG n).length/\l.take (zG n).length=zG n/\(0<k->0<n)/\n<128 ^ f:=by
 induction f with
 |zero=>
  intro k N U v s l hl h hs;cases l<;>(simp only[Jq,Prod.mk.injEq]at h;omega)
 |succ f ih=>
  intro k N U v s l hl h hs;cases l with
  |nil=>simp only[Jq,Prod.mk.injEq]at h;omega
  |cons b r=>
   obtain⟨b0,b1⟩:=hl b XV;simp only[Jq]at h;by_cases h1:b<128
   ·rw[Xb h1]at h;by_cases h2:0<k/\b=0
    ·grind
    ·rw[Xa h2,Prod.mk.injEq]at h;have e:(zG b.toNat)=[b]:=by
      grind [uF]
     refine⟨b.toNat,?_,?_,?_,?_,?_⟩
     ·grind
     all_goals grind
   ·rw[Xa h1]at h;obtain⟨n',e1,e2,e3,e4,e5⟩:=ih (k+1) _ _ v s r (by grind) h hs;have hn':=e4 (by omega);have eb:zG (b.toNat % 128+128*n')=b::zG n':=by
     rw[yJ (by omega)]
     grind
    refine⟨b.toNat % 128+128*n',?_,?_,?_,?_,?_⟩
    ·grind
    all_goals grind
theorem TH{l:List Int}(hl:∀b ∈l,0<=b/\b<=255)(hs:0<(vt l).2):
  (vt l).1<34359738368/\(vt l).2=(zG (vt l).1).length/\l.take (vt l).2=zG (vt l).1/\(vt l).2<=l.length:=by
 obtain⟨n,e1,e2,e3,_,e5⟩:=q4z 5 0 0 1 (vt l).1 (vt l).2 l hl rfl hs
 grind
theorem zig_lo{n:Int}:0<=zig n:=by unfold zig;omega
theorem Fa{n:Int}(h0: -2147483648<=n)(h1:n<=2147483647):zig n<=4294967295:=by unfold zig;omega
theorem qiu(n:Int):zag (zig n)=n:=by
 unfold zag zig;omega
theorem qit{n:Int}(h:0<=n):zig (zag n)=n:=by
 unfold zag zig;omega
theorem qad{n:Int}(h:0<=n)(h1:n<=4294967295): -2147483648<=zag n/\zag n<=2147483647:=by
 unfold zag;omega
theorem q4y(f:Nat):∀(k N U:Nat) (l:List Int),(Jq f k N U l).2=0->Jq f k N U l=(0,0):=by
 induction f with
 |zero=>intro k N U l _;cases l<;>rfl
 |succ f ih=>
  intro k N U l h;cases l with
  |nil=>rfl
  |cons b r=>
   simp only[Jq]at h⊢
   grind
theorem qcl{l:List Int}(h:(vt l).2=0):(vt l).1=0:=by
 have:=q4y 5 0 0 1 l h;unfold vt;rw[this]
theorem qjy{rest:List Int}{bad:Bool}{most:Int}(h:bad=true\/(vt rest).2=0\/most<((vt rest).1:Int)):ql rest bad most=(0,rest,true):=by
 unfold ql
 grind
theorem qgn{w:World}{B e m:Nat}{v:Value}{xs:List Value}(h:w.ownsRow B e 1 v (0+m) ([]++xs)):w.ownsRow B e 1 v m xs:=by simpa using h
open Go.ChangeShapes Go.WideShapes Go.Deep Go.Joins Go.RowKit
theorem gather{α:Type}{R:Nat->α->Prop}(n:Nat)(h:∀i,i<n->∃s,R i s):∃l:List α,l.length=n/\∀i s,l[i]? =some s->R i s:=by
 induction n with
 |zero=>simp_all
 |succ n ih=>
  obtain⟨l,hl,hr⟩:=ih fun i hi=>h i (by omega);obtain⟨s,hs⟩:=h n (by omega);refine⟨l++[s],by simp[hl],fun i t ht=> ?_⟩
  grind
section
variable{H:Type}{enc:TypeId×Value->H}{P:Program}{w:World}{base:Nat}{held:Bool}
theorem qgq{t e:TypeId}{k:IntKind}{A:Option Addr}{len cap:Nat}{d:DataW H}{p:List MemPlace}(ht:P.underlying t=some (.slice e))(he:P.underlying e=some (.int k))(hC:P.cellsOf e=1)
  (h:DataW.Trod enc P w base (fun _=>true) held t (.slice A len cap) d p):
  ∃z:List Int,z.length=len/\zw w w.heap.size A (z.map (Value.int k))/\(∀n ∈z,(Lit.int k n).wf=true)/\z.length<=cap/\cap<=9223372036854775807/\(A=none->cap=0):=by
 obtain⟨fuel,hf⟩:=h;rcases open_ints ht he hC hf with⟨hcs,_⟩|⟨x,l,c,zs,hcs,_,hl,hm,hz,_,hcell,hwz⟩
 ·simp[Value.cells]at hcs;obtain⟨rfl,rfl,rfl⟩:=hcs;exact⟨[],rfl,zw.nil,by simp,zn _,by omega,fun _=>rfl⟩
 ·simp[Value.cells]at hcs;obtain⟨rfl,rfl,rfl⟩:=hcs;have hzl:zs.length=cap:=by grind
  refine⟨zs.take len,by grind,fun j u hj=> ?_,(by grind),by grind,by unfold maxLen at hm;omega,fun h=>by cases h⟩;rw[XF,List.getElem?_take]at hj;split at hj
  ·rename_i hjl;have hjz:j<zs.length:=by omega
   rw[Xc hjz]at hj;simp at hj;subst hj;have hc:=hcell j hjz;refine⟨x,rfl,?_,?_⟩
   ·have:=World.block_lt_of_cell? w _ hc
    rwa [zC]at this
   grind
  grind
end
theorem wf_u8{a:Int}(h:(Lit.int .u8 a).wf=true):0<=a/\a<=255:=by
 simpa[Lit.wf,IntKind.min,IntKind.max,IntKind.signed,IntKind.bits]using h
theorem q0i{a:Int}(h:(Lit.int .u16 a).wf=true):0<=a/\a<=65535:=by
 simpa[Lit.wf,IntKind.min,IntKind.max,IntKind.signed,IntKind.bits]using h
theorem q0j{a:Int}(h:(Lit.int .i32 a).wf=true): -2147483648<=a/\a<=2147483647:=by
 simpa[Lit.wf,IntKind.min,IntKind.max,IntKind.signed,IntKind.bits]using h
theorem wf_i64{a:Int}(h:(Lit.int .i64 a).wf=true): -9223372036854775808<=a/\a<=9223372036854775807:=by
 simpa[Lit.wf,IntKind.min,IntKind.max,IntKind.signed,IntKind.bits]using h
theorem rQ(p:Addr):p.add 0=p:=by simp[Addr.add]
theorem aG{n:Nat}(p:Addr)(h:0<n):p.add n=zc p n:=by
 unfold Addr.add zc
 grind
section
variable{α H:Type}{enc:TypeId×Value->H}{P:Program}{w:World}{base:Nat}{held:Bool}{spare:Nat->Bool}
def mZ(enc:TypeId×Value->H)(P:Program)(w:World)(base:Nat)(spare:Nat->Bool)(held:Bool)(e:TypeId)(k:Nat)(At:qV α):Prop:=
 ∀(n:Nat) (cs:List Value) (y:DataW H×List MemPlace) (p:Addr),(∀j u,cs[j]? =some u->w.cell? (p.add j)=some u)->DataW.trod enc P w base spare held n e cs=some y->cs.length=k->∃x:α,At w w.heap.size p x
theorem uO{t e:TypeId}{k fuel:Nat}{cs:List Value}{x:DataW H×List MemPlace}{At:qV α}(ht:P.underlying t=some (.slice e))(hC:P.cellsOf e=k)(hk:0<k)(hO:mZ enc P w base spare held e k At)
  (h:DataW.trod enc P w base spare held fuel t cs=some x):∃A cap l,cs=[.slice A l.length cap]/\zd At k w w.heap.size A cap l/\(A=none->cap=0):=by
 rcases open_slice ht h with⟨hcs,_⟩|⟨a,len,cap,m,n,D,Pl,hcs,_,hl,hm,hmm,_,hi⟩
 ·exact⟨none,0,[],hcs,⟨zn _,by omega,qD.nil⟩,fun _=>rfl⟩
 ·have hml:len<=m:=by grind
  obtain⟨l,Qx,hL⟩:=gather (R:=fun i (x:α)=>At w w.heap.size (a.add (i*k)) x/\a.block<w.heap.size) len fun i hil=>by
   obtain⟨cs',hc,ht'⟩:=hi i (by omega);rw[hC]at hc;obtain⟨_,hcl,hat⟩:=World.cells?_some hc;have hat':∀j u,cs'[j]? =some u->w.cell? ((a.add (i*k)).add j)=some u:=(by grind)
   obtain⟨x,hx⟩:=hO n cs' _ (a.add (i*k)) hat' ht' hcl;refine⟨x,hx,?_⟩;have h0:=hat' 0 (cs'[0]'(by omega)) (Xc (by omega));have:=World.block_lt_of_cell? w _ h0
   grind [zC]
  refine⟨some a,cap,l,by grind,⟨by omega,by unfold maxLen at hm;omega,fun i x hx=> ?_⟩,fun h=>by cases h⟩
  grind
end
section
variable{H:Type}{enc:TypeId×Value->H}{w:World}{base:Nat}{held:Bool}{spare:Nat->Bool}
theorem uZ:Tryz.prog.cellsOf 3=1:=by kernel_rfl
theorem Ke:Tryz.prog.cellsOf 27=1:=by kernel_rfl
section
variable{α β:Type}{k:Nat}{At:qV α}
theorem eT{n:Nat}{cs:List Value}{y:DataW H×List MemPlace}(h:DataW.trod enc Tryz.prog w base spare held n 3 cs=some y):∃v:Int,cs=[.int .i64 v]:=by
 grind [DataW.trod_int,Tryz.underlying3]
theorem qhn{n:Nat}{cs:List Value}{y:DataW H×List MemPlace}(h:DataW.trod enc Tryz.prog w base spare held n 3 cs=some y):∃v:Int,cs=[.int .i64 v]/\ -9223372036854775808<=v/\v<=9223372036854775807:=by
 obtain⟨v,rfl,_,hw⟩:=DataW.trod_int Tryz.underlying3 h;exact⟨v,rfl,(wf_i64 hw).1,(wf_i64 hw).2⟩
theorem kN{γ:Type}{xs:List γ}{i n:Nat}{o:Option γ}(h:o=xs[i]?)(hl:xs.length=n)(hi:i<n):∃y,o=some y:=(by grind)
end
theorem qcj:mZ enc Tryz.prog w base spare held 3 1 zu:=fun n cs y p hc h _=>by
 obtain⟨v,rfl⟩:=eT h;exact⟨v,by have:=hc 0 _ rfl;rwa [rQ]at this⟩
theorem KZ{n:Nat}{cs:List Value}{y:DataW H×List MemPlace}(h:DataW.trod enc Tryz.prog w base spare held n 27 cs=some y):∃A cap l,cs=[.slice A l.length cap]/\zd zu 1 w w.heap.size A cap l/\(A=none->cap=0):=
 uO Tryz.underlying27 uZ (by decide) qcj h
end
section
variable{H:Type}{enc:TypeId×Value->H}{w:World}{base:Nat}{held:Bool}{spare:Nat->Bool}
theorem Sz:Tryz.prog.cellsOf 45=2:=by kernel_rfl
theorem IQ:Tryz.prog.cellsOf 24=1:=by kernel_rfl
theorem q7m:mZ enc Tryz.prog w base spare held 21 1 Jt:=fun n cs y p hc h _=>by
 obtain⟨v,rfl,_,hw⟩:=DataW.trod_int Tryz.underlying21 h;exact⟨v,by have:=hc 0 _ rfl;rwa [rQ]at this,(q0j hw).1,(q0j hw).2⟩
theorem RQ:mZ enc Tryz.prog w base spare held 45 2 zf:=fun n cs y p hc h hl=>by
 obtain⟨xs,m,_,_,_,hx,hf⟩:=DataW.trod_struct Tryz.underlying45 h
 match cs,hl with
 | [c0,c1],_=>
  obtain⟨y0,g0⟩:=kN (hf 0 _ rfl) hx (by decide);change DataW.trod enc Tryz.prog w base spare held m 3 (List.take (Tryz.prog.cellsOf 3) (List.drop 0 _))=_ at g0;obtain⟨y1,g1⟩:=kN (hf 1 _ rfl) hx (by decide);change DataW.trod enc Tryz.prog w base spare held m 3 (List.take (Tryz.prog.cellsOf 3) (List.drop 1 _))=_ at g1;rw[uZ]at g0 g1;obtain⟨v0,e0⟩:=eT g0;obtain⟨v1,e1⟩:=eT g1;simp at e0 e1;subst e0 e1;refine⟨(v0,v1),?_,?_⟩
  ·have:=hc 0 _ rfl;rwa [rQ]at this
  ·have:=hc 1 _ rfl;grind [aG]
theorem q7n:mZ enc Tryz.prog w base spare held 50 3 ju:=fun n cs y p hc h hl=>by
 obtain⟨xs,m,_,_,_,hx,hf⟩:=DataW.trod_struct Tryz.underlying50 h
 match cs,hl with
 | [c0,c1,c2],_=>
  obtain⟨y0,g0⟩:=kN (hf 0 _ rfl) hx (by decide);change DataW.trod enc Tryz.prog w base spare held m 3 (List.take (Tryz.prog.cellsOf 3) (List.drop 0 _))=_ at g0;obtain⟨y1,g1⟩:=kN (hf 1 _ rfl) hx (by decide);change DataW.trod enc Tryz.prog w base spare held m 3 (List.take (Tryz.prog.cellsOf 3) (List.drop 1 _))=_ at g1;obtain⟨y2,g2⟩:=kN (hf 2 _ rfl) hx (by decide);change DataW.trod enc Tryz.prog w base spare held m 3 (List.take (Tryz.prog.cellsOf 3) (List.drop 2 _))=_ at g2;rw[uZ]at g0 g1 g2;obtain⟨v0,e0⟩:=eT g0;obtain⟨v1,e1⟩:=eT g1;obtain⟨v2,e2⟩:=eT g2;simp at e0 e1 e2;subst e0 e1 e2;refine⟨(v0,v1,v2),?_,?_,?_⟩
  ·have:=hc 0 _ rfl;rwa [rQ]at this
  ·have:=hc 1 _ rfl;grind [aG]
  ·have:=hc 2 _ rfl;grind [aG]
theorem DX{n:Nat}{cs:List Value}{y:DataW H×List MemPlace}(h:DataW.trod enc Tryz.prog w base spare held n 24 cs=some y):∃A cap l,cs=[.slice A l.length cap]/\zd zf 2 w w.heap.size A cap l/\(A=none->cap=0):=
 uO Tryz.underlying24 Sz (by decide) RQ h
theorem qfz{n:Nat}{cs:List Value}{y:DataW H×List MemPlace}(h:DataW.trod enc Tryz.prog w base spare held n 46 cs=some y):∃A cap l,cs=[.slice A l.length cap]/\zd ju 3 w w.heap.size A cap l/\(A=none->cap=0):=
 uO Tryz.underlying46 (by kernel_rfl) (by decide) q7n h
theorem qba{n:Nat}{cs:List Value}{y:DataW H×List MemPlace}(h:DataW.trod enc Tryz.prog w base spare held n 25 cs=some y):∃A cap l,cs=[.slice A l.length cap]/\zd Jt 1 w w.heap.size A cap l/\(A=none->cap=0):=
 uO Tryz.underlying25 (by kernel_rfl) (by decide) q7m h
theorem q9o:Tryz.prog.cellsOf 46=1:=by kernel_rfl
theorem q4x:mZ enc Tryz.prog w base spare held 60 3 vw:=fun n cs y p hc h hl=>by
 obtain⟨xs,m,_,_,_,hx,hf⟩:=DataW.trod_struct Tryz.underlying60 h
 match cs,hl with
 | [c0,c1,c2],_=>
  obtain⟨y0,g0⟩:=kN (hf 0 _ rfl) hx (by decide);change DataW.trod enc Tryz.prog w base spare held m 3 (List.take (Tryz.prog.cellsOf 3) (List.drop 0 _))=_ at g0;obtain⟨y1,g1⟩:=kN (hf 1 _ rfl) hx (by decide);change DataW.trod enc Tryz.prog w base spare held m 24 (List.take (Tryz.prog.cellsOf 24) (List.drop 1 _))=_ at g1;obtain⟨y2,g2⟩:=kN (hf 2 _ rfl) hx (by decide);change DataW.trod enc Tryz.prog w base spare held m 27 (List.take (Tryz.prog.cellsOf 27) (List.drop 2 _))=_ at g2;rw[uZ]at g0;rw[IQ]at g1;rw[Ke]at g2;obtain⟨v0,e0,r0⟩:=qhn g0;obtain⟨A1,k1,l1,e1,s1,_⟩:=DX g1;obtain⟨A2,k2,l2,e2,s2,_⟩:=KZ g2;simp at e0 e1 e2;subst e0 e1 e2;refine⟨⟨v0,l1,l2⟩,?_,⟨A1,k1,?_,s1⟩,⟨A2,k2,?_,s2⟩,r0⟩
  ·have:=hc 0 _ rfl;rwa [rQ]at this
  ·have:=hc 1 _ rfl;grind [aG]
  ·have:=hc 2 _ rfl;grind [aG]
theorem q3z:mZ enc Tryz.prog w base spare held 48 8 kd:=fun n cs y p hc h hl=>by
 obtain⟨xs,m,_,_,_,hx,hf⟩:=DataW.trod_struct Tryz.underlying48 h
 match cs,hl with
 | [c0,c1,c2,c3,c4,c5,c6,c7],_=>
  obtain⟨y0,g0⟩:=kN (hf 0 _ rfl) hx (by decide);change DataW.trod enc Tryz.prog w base spare held m 24 (List.take (Tryz.prog.cellsOf 24) (List.drop 0 _))=_ at g0;obtain⟨y1,g1⟩:=kN (hf 1 _ rfl) hx (by decide);change DataW.trod enc Tryz.prog w base spare held m 24 (List.take (Tryz.prog.cellsOf 24) (List.drop 1 _))=_ at g1;obtain⟨y2,g2⟩:=kN (hf 2 _ rfl) hx (by decide);change DataW.trod enc Tryz.prog w base spare held m 45 (List.take (Tryz.prog.cellsOf 45) (List.drop 2 _))=_ at g2;obtain⟨y3,g3⟩:=kN (hf 3 _ rfl) hx (by decide);change DataW.trod enc Tryz.prog w base spare held m 46 (List.take (Tryz.prog.cellsOf 46) (List.drop 4 _))=_ at g3;obtain⟨y4,g4⟩:=kN (hf 4 _ rfl) hx (by decide);change DataW.trod enc Tryz.prog w base spare held m 3 (List.take (Tryz.prog.cellsOf 3) (List.drop 5 _))=_ at g4;obtain⟨y5,g5⟩:=kN (hf 5 _ rfl) hx (by decide);change DataW.trod enc Tryz.prog w base spare held m 3 (List.take (Tryz.prog.cellsOf 3) (List.drop 6 _))=_ at g5;obtain⟨y6,g6⟩:=kN (hf 6 _ rfl) hx (by decide);change DataW.trod enc Tryz.prog w base spare held m 27 (List.take (Tryz.prog.cellsOf 27) (List.drop 7 _))=_ at g6;rw[IQ]at g0 g1;rw[Sz]at g2;rw[q9o]at g3;rw[uZ]at g4 g5;rw[Ke]at g6;obtain⟨A0,k0,l0,e0,s0,_⟩:=DX g0;obtain⟨A1,k1,l1,e1,s1,_⟩:=DX g1;obtain⟨A3,k3,l3,e3,s3,_⟩:=qfz g3;obtain⟨v4,e4⟩:=eT g4;obtain⟨v5,e5⟩:=eT g5;obtain⟨A6,k6,l6,e6,s6,_⟩:=KZ g6;obtain⟨r,hr0,hr1⟩:=RQ m _ y2 (zc p 2) (fun j u hu=>by
   match j,hu with
   |0,hu=>grind [aG,rQ]
   |1,hu=>grind [aG]
   |j+2,hu=>simp at hu) g2 (by simp)
  simp at e0 e1 e3 e4 e5 e6;subst e0 e1 e3 e4 e5 e6;refine⟨⟨l0,l1,r,l3,v4,v5,l6⟩,⟨A0,k0,?_,s0⟩,⟨A1,k1,?_,s1⟩,hr0,?_,⟨A3,k3,?_,s3⟩,?_,?_,⟨A6,k6,?_,s6⟩⟩
  ·have:=hc 0 _ rfl;rwa [rQ]at this
  ·have:=hc 1 _ rfl;grind [aG]
  ·exact hr1
  ·have:=hc 4 _ rfl;grind [aG]
  ·have:=hc 5 _ rfl;grind [aG]
  ·have:=hc 6 _ rfl;rwa [aG _ (by decide)]at this
  ·have:=hc 7 _ rfl;rwa [aG _ (by decide)]at this
theorem q7o{r:Reach}{b0:Nat}{v:Value}{d:DataW H}{p:List MemPlace}(hv:Value.okWide Tryz.prog w r b0 29 v)(h:DataW.Trod enc Tryz.prog w base spare held 29 v d p):
  ∃(hd:zh) (m:za),v=zv hd m/\zr w w.heap.size hd m:=by
 obtain⟨cs,rfl,hsz⟩:=okWide_struct Tryz.underlying29 hv;obtain⟨fuel,hf⟩:=h;have hsz':cs.size=7:=hsz.trans (by kernel_rfl);obtain⟨xs,m,_,_,_,hx,hf⟩:=DataW.trod_struct Tryz.underlying29 hf;obtain⟨l⟩:=cs;have hl:l.length=7:=hsz'
 match l,hl with
 | [c0,c1,c2,c3,c4,c5,c6],_=>
  obtain⟨y0,g0⟩:=kN (hf 0 _ rfl) hx (by decide);change DataW.trod enc Tryz.prog w base spare held m 23 (List.take (Tryz.prog.cellsOf 23) (List.drop 0 _))=_ at g0;obtain⟨y1,g1⟩:=kN (hf 1 _ rfl) hx (by decide);change DataW.trod enc Tryz.prog w base spare held m 24 (List.take (Tryz.prog.cellsOf 24) (List.drop 1 _))=_ at g1;obtain⟨y2,g2⟩:=kN (hf 2 _ rfl) hx (by decide);change DataW.trod enc Tryz.prog w base spare held m 25 (List.take (Tryz.prog.cellsOf 25) (List.drop 2 _))=_ at g2;obtain⟨y3,g3⟩:=kN (hf 3 _ rfl) hx (by decide);change DataW.trod enc Tryz.prog w base spare held m 26 (List.take (Tryz.prog.cellsOf 26) (List.drop 3 _))=_ at g3;obtain⟨y4,g4⟩:=kN (hf 4 _ rfl) hx (by decide);change DataW.trod enc Tryz.prog w base spare held m 27 (List.take (Tryz.prog.cellsOf 27) (List.drop 4 _))=_ at g4;obtain⟨y5,g5⟩:=kN (hf 5 _ rfl) hx (by decide);change DataW.trod enc Tryz.prog w base spare held m 3 (List.take (Tryz.prog.cellsOf 3) (List.drop 5 _))=_ at g5;obtain⟨y6,g6⟩:=kN (hf 6 _ rfl) hx (by decide);change DataW.trod enc Tryz.prog w base spare held m 3 (List.take (Tryz.prog.cellsOf 3) (List.drop 6 _))=_ at g6;rw[show Tryz.prog.cellsOf 23=1 by kernel_rfl]at g0;rw[IQ]at g1;rw[show Tryz.prog.cellsOf 25=1 by kernel_rfl]at g2;rw[show Tryz.prog.cellsOf 26=1 by kernel_rfl]at g3;rw[Ke]at g4;rw[uZ]at g5 g6;obtain⟨A0,k0,l0,e0,s0,_⟩:=uO Tryz.underlying23 (by kernel_rfl) (by decide) q4x g0;obtain⟨A1,k1,l1,e1,s1,_⟩:=DX g1;obtain⟨A2,k2,l2,e2,s2,_⟩:=qba g2;obtain⟨A3,k3,l3,e3,s3,_⟩:=uO Tryz.underlying26 (by kernel_rfl) (by decide) q3z g3;obtain⟨A4,k4,l4,e4,s4,_⟩:=KZ g4;obtain⟨v5,e5⟩:=eT g5;obtain⟨v6,e6⟩:=eT g6;simp[Value.cells]at e0 e1 e2 e3 e4 e5 e6;subst e0 e1 e2 e3 e4 e5 e6;exact⟨⟨A0,A1,A2,A3,A4,k0,k1,k2,k3,k4⟩,⟨l0,l1,l2,l3,l4,v5,v6⟩,rfl,s0,s1,s2,s3,s4⟩
end
def qiq(c:zW):Prop:=c.fields.length*16<=140737488351232/\c.slots.length*8<=140737488351232
def qio(x:zl):Prop:=x.args.length*16<=140737488351232/\x.locals.length*16<=140737488351232/\x.code.length*24<=140737488351232/\x.phi.length*8<=140737488351232
structure ImgSized(m:za):Prop where
 classes:m.classes.length*56<=140737488351232
 statics:m.statics.length*16<=140737488351232
 ints:m.ints.length*4<=140737488351232
 methods:m.methods.length*128<=140737488351232
 entries:m.entries.length*8<=140737488351232
 ct:∀c ∈m.classes,qiq c
 mt:∀x ∈m.methods,qio x
section
variable{α H:Type}{enc:TypeId×Value->H}{P:Program}{w:World}{base:Nat}{held:Bool}{spare:Nat->Bool}
def Light(P:Program)(t:TypeId)(d:DataW H):Prop:=∀n ∈d.weights P t,n<=140737488351232
def q0z(enc:TypeId×Value->H)(P:Program)(w:World)(base:Nat)(spare:Nat->Bool)(held:Bool)(e:TypeId)(k:Nat)(At:qV α)(Z:α->Prop):Prop:=
 ∀(n:Nat) (cs:List Value) (y:DataW H×List MemPlace) (p:Addr),(∀j u,cs[j]? =some u->w.cell? (p.add j)=some u)->DataW.trod enc P w base spare held n e cs=some y->cs.length=k->∃x:α,At w w.heap.size p x/\(Light P e y.1->Z x)
theorem q0z.of{e:TypeId}{k:Nat}{At:qV α}(h:mZ enc P w base spare held e k At):q0z enc P w base spare held e k At (fun _=>True):=fun n cs y p h1 h2 h3=>by
 obtain⟨x,hx⟩:=h n cs y p h1 h2 h3
 grind
end
section
variable{H:Type}{enc:TypeId×Value->H}{w:World}{base:Nat}{held:Bool}{spare:Nat->Bool}
end
open Go.ChangeShapes
abbrev VK:zh:=⟨none,none,none,none,none,0,0,0,0,0⟩
abbrev Fs:List Value:=[.slice none 0 0,.slice none 0 0,.slice none 0 0,.slice none 0 0,.slice none 0 0,.int .i64 0,.int .i64 0]
abbrev jV:Obj:= .cells #[.slice none 0 0,.slice none 0 0,.slice none 0 0,.slice none 0 0,.slice none 0 0,.int .i64 0,.int .i64 0] 29 (0,0)
theorem pg{w w':World}(h:Below w.heap.size w w')(a b c d e f g:Value):
  Below w.heap.size w (((((((w'.setCell ⟨w.heap.size,0,none⟩ a).setCell ⟨w.heap.size,1,none⟩ b).setCell ⟨w.heap.size,2,none⟩ c).setCell ⟨w.heap.size,3,none⟩ d).setCell ⟨w.heap.size,4,none⟩ e).setCell ⟨w.heap.size,5,none⟩ f).setCell ⟨w.heap.size,6,none⟩ g):=
 ((((((h.setCell (zn _) _).setCell (zn _) _).setCell (zn _) _).setCell (zn _) _).setCell (zn _) _).setCell (zn _) _).setCell (zn _) _
theorem K3{w:World}{N b:Nat}(hb:b≠N)(a b1 c d e f g:Value):
  (((((((w.setCell ⟨N,0,none⟩ a).setCell ⟨N,1,none⟩ b1).setCell ⟨N,2,none⟩ c).setCell ⟨N,3,none⟩ d).setCell ⟨N,4,none⟩ e).setCell ⟨N,5,none⟩ f).setCell ⟨N,6,none⟩ g).heap[b]? =w.heap[b]? :=by
 rw[XJ _ _ _ _ (by exact hb),XJ _ _ _ _ (by exact hb),XJ _ _ _ _ (by exact hb),XJ _ _ _ _ (by exact hb),XJ _ _ _ _ (by exact hb),XJ _ _ _ _ (by exact hb),XJ _ _ _ _ (by exact hb)]
theorem q4q(n:Int)(h0: -2147483648<=n)(h1:n<=2147483647)(w:World):Calls Tryz.prog 24 #[.int .i32 n] w (eP (zG (zig n).toNat) w):=by
 by_cases hn:n<0
 ·have Z:=zH (show zig n= -2*n - 1 by unfold zig;rw[Xb hn]);go_enter Tryz.func24,Tryz.ntmps24;go_wp2_with(go_at_call 21;(with_reducible refine(Qj _ (by omega) _).mono ?_);rintro e w' ⟨v,rfl,ho,hb⟩)
  go_ret;rw[Z.out];exact⟨v,rfl,ho,hb⟩
 ·have Z:=zH (show zig n=2*n by unfold zig;rw[Xa hn]);go_enter Tryz.func24,Tryz.ntmps24;go_wp2_with(go_at_call 21;(with_reducible refine(Qj _ (by omega) _).mono ?_);rintro e w' ⟨v,rfl,ho,hb⟩)
  go_ret;rw[Z.out];exact⟨v,rfl,ho,hb⟩
