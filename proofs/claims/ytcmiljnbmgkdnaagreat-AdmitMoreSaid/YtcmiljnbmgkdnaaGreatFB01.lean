import Derived.RowKit
import Derived.WalkKit
import Derived.Laws.BitsLemmas
import Derived.Laws.Entries
import Derived.Laws.OwnMore
import Derived.Laws.AppendOwnNone
import Derived.Deep.AppendLies
import Derived.Deep.Draws
import Derived.Test.YtcmiljnbmgkdnaaGreatRows
import Derived.ProofKit
import Derived.OpenShut
import Derived.Outline
import Derived.Deep.QuietTactic
import Derived.BigQuiet
import Derived.Deep.Cut
import Derived.Deep.RegionHeld3
import Derived.RegionTactic
import Derived.Shelf.Sort.Plain
import Derived.Shelf.Slices.In.SortNone
import Derived.Test.YtcmiljnbmgkdnaaGreatProg
import Derived.RangeFuncCalls
import Derived.OrdersHeld
import Derived.OwnWalkIn
import Derived.Laws.BytesArg
import Derived.Deep.Slices
import Derived.Deep.Fields
import Derived.ChangeSame
import Derived.Lib.SmallJoins
import Derived.SizedLaws
import Derived.Test.YtcmiljnbmgkdnaaGreatFB00
namespace Go.Proofs.YtcmiljnbmgkdnaaGreat
set_option maxRecDepth 100000
set_option linter.unusedVariables false
set_option linter.unusedSimpArgs false
open Go.RowKit
theorem q6u{k:IntKind}{a b:Int}(h:a=b):Ending.returned (.int k a)= .returned (.int k b):=by rw[h]
theorem q6b{a b:Bool}(h:a=b):Ending.returned (.bool a)= .returned (.bool b):=by rw[h]
theorem zu(a:Addr)(n:Nat):(a.add n).block=a.block:=by
 unfold Addr.add;split<;>rfl
theorem Vz(a:Addr)(i j:Nat):(a.add i).add j=a.add (i+j):=by
 unfold Addr.add;by_cases hi:i=0<;>by_cases hj:j=0<;>simp[hi,hj,Nat.add_assoc]
def zq(w:World)(B:Nat)(A:Option Addr)(xs:List Value):Prop:=
 ∀j u,xs[j]? =some u→∃ad,A=some ad∧ad.block<B∧w.cell? (ad.add j)=some u
section
variable{w w':World}{B B':Nat}{A:Option Addr}{xs:List Value}
theorem zq.nil:zq w B A []:=fun _ _ h=>by simp at h
theorem zq.at_{k:Nat}(h:zq w B A xs)(hk:k<xs.length):∃ad,A=some ad∧ad.block<B∧w.cell? (ad.add k)=some xs[k]:=
 h k _ (Xc hk)
theorem zq.keep(h:zq w B A xs)(hk:∀p:Addr,p.block<B→w'.cell? p=w.cell? p):zq w' B A xs:=fun j u hu=>by
 obtain⟨ad,e,hb,hc⟩:=h j u hu;exact⟨ad,e,hb,(hk _ (by rw[zu];exact hb)).trans hc⟩
theorem zq.more(h:zq w B A xs)(hB:B≤B'):zq w B' A xs:=fun j u hu=>by
 obtain⟨ad,e,hb,hc⟩:=h j u hu;exact⟨ad,e,Xj hb hB,hc⟩
theorem zq.below(h:zq w B A xs)(hb:Below B w w'):zq w' B A xs:=h.keep fun _ hp=>hb.cell hp
theorem zq.below_to{C:Nat}(h:zq w B A xs)(hb:Below C w w')(hC:B≤C):zq w' B A xs:=h.keep fun _ hp=>hb.cell (Xj hp hC)
theorem zq.drew(h:zq w B A xs):zq w.drew B A xs:=h
theorem zq.drewN(h:zq w B A xs)(k:Nat):zq (w.drewN k) B A xs:=h
theorem zq.drop_(h:zq w B A xs)(k:Nat):zq w B (A.map (·.add k)) (xs.drop k):=fun j u hu=>by
 rw[List.getElem?_drop]at hu;obtain⟨ad,e,hb,hc⟩:=h _ _ hu;exact⟨ad.add k,by rw[e];rfl,by rw[zu];exact hb,by rw[Vz];exact hc⟩
theorem zq.take_(h:zq w B A xs)(k:Nat):zq w B A (xs.take k):=fun j u hu=>by
 rw[List.getElem?_take]at hu;split at hu
 ·exact h j u hu
 ·cases hu
theorem zq.cut(h:zq w B A xs){k cap:Nat}(hc:xs.length≤cap):zq w B (if cap=k then A else A.map (·.add k)) (xs.drop k):=by
 split
 ·rename_i e;rw[List.drop_eq_nil_of_le (by omega)];exact zq.nil
 ·exact h.drop_ k
theorem zq.of_own{base e n c:Nat}(h:w.ownsRow base e 1 (.slice A n c) n xs):zq w w.heap.size A xs:=by
 rcases h.2 with⟨hv,hn⟩|⟨g,cap,cur,hv,hb,hh,h1,h2,h3,h4⟩
 ·have:xs=[]:=X6 (by rw[h.1,hn]);rw[this];exact zq.nil
 ·intro j u hu;have hA:A=some ⟨g,0,none⟩:=by injection hv
  have hg:g<w.heap.size:=by
   rcases Xk g w.heap.size with hlt|hge
   ·exact hlt
   ·rw[Array.getElem?_eq_none hge]at hh;cases hh
  refine⟨⟨g,0,none⟩,hA,hg,?_⟩;have hju:cur.toList[j]? =some u:=by
   rw[←h4,List.getElem?_take]at hu;split at hu
   ·exact hu
   ·cases hu
  have hcell:w.cell? ⟨g,j,none⟩=cur[j]? :=cell_of_row w g j cur e (0,0) hh;have:(Addr.add ⟨g,0,none⟩ j)=⟨g,j,none⟩:=by
   unfold Addr.add;split
   ·rename_i h0;subst h0;rfl
   ·simp
  rw[this,hcell,←hju];simp
end
theorem qbc{w:World}{base e n:Nat}{v:Value}{xs:List Value}(h:w.ownsRow base e 1 v n xs):∃A c,v= .slice A n c∧zq w w.heap.size A xs:=by
 rcases h.2 with⟨rfl,rfl⟩|⟨g,cap,cur,rfl,_⟩
 ·exact⟨none,0,rfl,zq.of_own h⟩
 ·exact⟨_,cap,rfl,zq.of_own h⟩
theorem ja{w:World}{base base' e size n:Nat}{v:Value}{xs:List Value}(h:w.ownsRow base e size v n xs)(hb:base'≤base):w.ownsRow base' e size v n xs:=by
 refine⟨h.1,?_⟩;rcases h.2 with h0|⟨g,cap,cur,hv,hg,rest⟩
 ·exact .inl h0
 ·exact .inr ⟨g,cap,cur,hv,Xd hb hg,rest⟩
theorem zT{w w':World}{base e size n B:Nat}{v:Value}{xs:List Value}(h:w.ownsRow base e size v n xs)(hb:Below B w w')(hB:∀g,v.ownBlock=some g→g<B):w'.ownsRow base e size v n xs:=by
 refine⟨h.1,?_⟩;rcases h.2 with h0|⟨g,cap,cur,hv,hg,hh,rest⟩
 ·exact .inl h0
 ·refine .inr ⟨g,cap,cur,hv,hg,?_,rest⟩;rw[hb.block g (hB g (by rw[hv];rfl))];exact hh
theorem zL{w:World}{base e size n:Nat}{v:Value}{xs:List Value}(h:w.ownsRow base e size v n xs):∀g,v.ownBlock=some g→g<w.heap.size:=by
 intro g hg;rcases h.2 with⟨rfl,_⟩|⟨g',cap,cur,rfl,hb,hh,_⟩
 ·simp[Value.ownBlock]at hg
 ·have:g'=g:=by simpa[Value.ownBlock]using hg
  subst this;rcases Xk g' w.heap.size with hlt|hge
  ·exact hlt
  ·rw[Array.getElem?_eq_none hge]at hh;cases hh
theorem qf1{P:Program}{w:World}{o:Oper}{a:Act}{K:Act→World→Prop}{Q:Exit→Act→World→Prop}(s x:Operand)(t:TypeId)
  (ho:o.op= .call {callee:= .builtin .append,args:= #[s,x],argTypes:= #[t,t]})
  (base:Nat) (e:TypeId) (i:TypeInfo) (z:Value) (bytes:Nat) (ht:P.underlying t=some (.slice e)) (hi:P.info? e=some i) (hz:i.zero=some z)
  (hsize:i.size=1) (hby:i.bytes=bytes) (hzs:z.cells.size=1)
  (v:Value) (n:Nat) (xs:List Value) (hs:a.eval s=v) (hown:w.ownsRow base e 1 v n xs)
  (A:Option Addr) (m c B:Nat) (news:List Value) (hm:news.length=m) (hx:a.eval x= .slice A m c) (hA:A=none→c=0) (hl:zq w B A news) (h1:∀u ∈news,u.oneCell'=true)
  (h63:n+m≤maxLen) (hbytes:(n+m)*bytes≤140737488355328) (hbase:base≤w.heap.size)
  (h:∀v' w',w'.ownsRow base e 1 v' (n+m) (xs++news)→w.grownBy w' v.ownBlock→K (a.put o.dst v') w'):o.wp P a w K Q:=by
 subst hm;rcases A with _|ad
 ·have hc:c=0:=hA rfl;subst hc;have hn:news=[]:=by
   cases news with
   |nil=>rfl
   |cons b r=>
    obtain⟨ad,e,_⟩:=hl 0 b rfl;cases e
  subst hn;have hrun:=run_append_owned_none (P:=P) (w:=w) base t o.type e i 1 ht hi v n xs hown;have hk:=h v w (by simpa using hown) (World.grownBy.refl _ _);unfold Oper.wp;simp[execOp,ho,resolve,invoke,builtin,hs,hx,hrun,Result.andThen];exact hk
 ·refine wp_append_own w s x t ho base e i z 1 bytes ht hi hz hsize hby hzs (by decide) v n xs hs hown ad news.length c news hx (by simp) (fun j u hu=> ?_) h1 h63 hbytes hbase fun v' w' h2 h3 _=>h v' w' h2 h3;obtain⟨ad',e,_,hc⟩:=hl j u hu;injection e with e;subst e;exact hc
theorem QR{P:Program}{w:World}{ops:Array Oper}{rest:List Oper}{o:Oper}{a:Act}{Q:Exit→Act→World→Prop}(hgd:o.guard=none)(s x:Operand)(t:TypeId)
  (ho:o.op= .call {callee:= .builtin .append,args:= #[s,x],argTypes:= #[t,t]})
  (base:Nat) (e:TypeId) (i:TypeInfo) (z:Value) (bytes:Nat) (ht:P.underlying t=some (.slice e)) (hi:P.info? e=some i) (hz:i.zero=some z)
  (hsize:i.size=1) (hby:i.bytes=bytes) (hzs:z.cells.size=1)
  (v:Value) (n:Nat) (xs:List Value) (hs:a.eval s=v) (hown:w.ownsRow base e 1 v n xs)
  (A:Option Addr) (m c B:Nat) (news:List Value) (hm:news.length=m) (hx:a.eval x= .slice A m c) (hA:A=none→c=0) (hl:zq w B A news) (h1:∀u ∈news,u.oneCell'=true)
  (h63:n+m≤maxLen) (hbytes:(n+m)*bytes≤140737488355328) (hbase:base≤w.heap.size)
  (h:∀v' w',w'.ownsRow base e 1 v' (n+m) (xs++news)→w.grownBy w' v.ownBlock→wpList P ops Q rest (a.put o.dst v') w'):wpList P ops Q (o::rest) a w:=
 wpList_plain hgd fun _ hK=>qf1 s x t ho base e i z bytes ht hi hz hsize hby hzs v n xs hs hown A m c B news hm hx hA hl h1 h63 hbytes hbase fun v' w' h2 h3=>hK _ _ (h v' w' h2 h3)
theorem q3b{P:Program}{w:World}{ops:Array Oper}{o:Oper}{a:Act}{K:Act→World→Prop}{Q:Exit→Act→World→Prop}{E:Prop}(hgd:o.guard=none)(s x:Operand)(t:TypeId)
  (ho:o.op= .call {callee:= .builtin .append,args:= #[s,x],argTypes:= #[t,t]})
  (base:Nat) (e:TypeId) (i:TypeInfo) (z:Value) (bytes:Nat) (ht:P.underlying t=some (.slice e)) (hi:P.info? e=some i) (hz:i.zero=some z)
  (hsize:i.size=1) (hby:i.bytes=bytes) (hzs:z.cells.size=1)
  (v:Value) (n:Nat) (xs:List Value) (hs:a.eval s=v) (hown:w.ownsRow base e 1 v n xs)
  (A:Option Addr) (m c B:Nat) (news:List Value) (hm:news.length=m) (hx:a.eval x= .slice A m c) (hA:A=none→c=0) (hl:zq w B A news) (h1:∀u ∈news,u.oneCell'=true)
  (h63:n+m≤maxLen) (hbytes:(n+m)*bytes≤140737488355328) (hbase:base≤w.heap.size)
  (h:∀v' w',w'.ownsRow base e 1 v' (n+m) (xs++news)→w.grownBy w' v.ownBlock→K (a.put o.dst v') w'):
  if Region.wanted o (yielded ops a.tmps)=true then Oper.wp P o a w K Q else E:=by
 have hw:Region.wanted o (yielded ops a.tmps)=true:=by simp[Region.wanted,hgd]
 rw[Xb hw];exact qf1 s x t ho base e i z bytes ht hi hz hsize hby hzs v n xs hs hown A m c B news hm hx hA hl h1 h63 hbytes hbase h
theorem VN(w:World)(T:TypeId):(w.alloc (.cells #[] T)).ownsRow w.heap.size T 1 (.slice (some ⟨w.heap.size,0,none⟩) 0 0) 0 []:=
 ⟨rfl,.inr ⟨w.heap.size,0,#[],rfl,zn _,Xw _ _,zn _,by unfold maxLen;omega,rfl,rfl⟩⟩
theorem jC(l:List Int):∀u ∈l.map (Value.int .u8),u.oneCell'=true:=by
 intro u hu;obtain⟨n,_,rfl⟩:=XW.mp hu;rfl
abbrev zU(k n:Int):Value:= .agg #[.int .i64 k,.int .i64 n]
def qY(w:World)(B:Nat)(A:Option Addr)(sup:List Int):Prop:=
 ∀i s,sup[i]? =some s→∃ad,A=some ad∧ad.block<B∧w.cell? (ad.add (i*3))=some (.int .i64 s)
theorem qY.below_to{w w':World}{B C:Nat}{A:Option Addr}{sup:List Int}(h:qY w B A sup)(hb:Below C w w')(hC:B≤C):qY w' B A sup:=fun i s hs=>by
 obtain⟨ad,e,hlt,hc⟩:=h i s hs;exact⟨ad,e,hlt,(hb.cell (by rw[zu];omega)).trans hc⟩
theorem q5i{w:World}{B e:Nat}{v:Value}{l:List Int}(h:w.ownsRow B e 1 v l.length (l.map (Value.int .u8)))(hl:0<l.length):
  ∃g cap,v= .slice (some ⟨g,0,none⟩) l.length cap∧l.length≤cap∧cap≤9223372036854775807∧B≤g∧g<w.heap.size∧zq w w.heap.size (some ⟨g,0,none⟩) (l.map (Value.int .u8)):=by
 have hlt:=zL h;rcases h.2 with⟨_,hn⟩|⟨g,cap,cur,rfl,hb,_,h1,h2,_⟩
 ·omega
 ·exact⟨g,cap,rfl,h1,by unfold maxLen at h2;omega,hb,hlt g rfl,zq.of_own h⟩
theorem qot{w:World}{B g:Nat}{xs:List Value}(h:zq w B (some ⟨g,0,none⟩) xs)(j:Nat)(hj:j<xs.length):w.cell? ⟨g,j,none⟩=some xs[j]:=by
 obtain⟨ad,e,_,hc⟩:=h.at_ hj;injection e with e;subst e;have e:(Addr.add ⟨g,0,none⟩ j)=⟨g,j,none⟩:=by
  unfold Addr.add;split
  ·rename_i h0;subst h0;rfl
  ·simp
 rw[←e];exact hc
theorem qZ{B:Nat}{a w:World}(h:Below B a w)(n:Nat):Below B a (w.drewN n):=⟨h.os,h.tape,h.output,h.size,h.block⟩
theorem jI{B:Nat}{w w1 w2:World}{e:TypeId}{v v':Value}{n m:Nat}{xs ys:List Int}(hb:Below B w w1)(hown:w1.ownsRow B e 1 v n (xs.map (Value.int .u8)))(hB:B≤w1.heap.size)
  (hown':w2.ownsRow B e 1 v' (n+m) (xs.map (Value.int .u8)++ys.map (Value.int .u8))) (hgrow:w1.grownBy w2 v.ownBlock):w2.ownsRow B e 1 v' (n+m) ((xs++ys).map (Value.int .u8))∧Below B w w2:=
 ⟨by simpa using hown',hb.grown hgrow hB (fun k hk=>(hown.lt k hk).1)⟩
theorem ZH{w:World}{base e n:Nat}{v:Value}{xs:List Value}(h:w.ownsRow base e 1 v n xs):∃A c,v= .slice A n c∧zq w w.heap.size A xs∧(A=none→c=0):=by
 rcases h.2 with⟨rfl,rfl⟩|⟨g,cap,cur,rfl,_⟩
 ·exact⟨none,0,rfl,zq.of_own h,fun _=>rfl⟩
 ·exact⟨_,cap,rfl,zq.of_own h,fun h=>by cases h⟩
def q7r(w:World)(p:Addr)(x y z:Int):Prop:=w.cell? p=some (.int .i64 x)∧w.cell? ⟨p.block,p.off+1,none⟩=some (.int .i64 y)∧w.cell? ⟨p.block,p.off+2,none⟩=some (.int .i64 z)
theorem q7r.keep{w w':World}{p:Addr}{x y z:Int}{B:Nat}(h:q7r w p x y z)(hb:Below B w w')(hp:p.block<B):q7r w' p x y z:=
 ⟨(hb.cell hp).trans h.1,(hb.cell (p:=⟨p.block,p.off+1,none⟩) hp).trans h.2.1,(hb.cell (p:=⟨p.block,p.off+2,none⟩) hp).trans h.2.2⟩
abbrev AtP(α:Type):=World→Nat→Addr→α→Prop
def vm{α:Type}(At:AtP α):Prop:=∀ ⦃w w':World⦄ ⦃B C:Nat⦄ ⦃p:Addr⦄ ⦃x:α⦄,At w B p x→p.block<B→B≤C→(∀q:Addr,q.block<B→w'.cell? q=w.cell? q)→At w' C p x
def qv{α:Type}(At:AtP α)(k:Nat)(w:World)(B:Nat)(A:Option Addr)(l:List α):Prop:=
 ∀i x,l[i]? =some x→∃ad,A=some ad∧ad.block<B∧At w B (ad.add (i*k)) x
section
variable{α:Type}{At:AtP α}{k:Nat}{w w':World}{B C:Nat}{A:Option Addr}{l:List α}
theorem qv.nil:qv At k w B A []:=fun _ _ h=>by simp at h
theorem qv.keep'(hK:vm At)(h:qv At k w B A l)(hC:B≤C)(hc:∀q:Addr,q.block<B→w'.cell? q=w.cell? q):qv At k w' C A l:=fun i x hi=>by
 obtain⟨ad,e,hb,ha⟩:=h i x hi;exact⟨ad,e,Xj hb hC,hK ha (by rw[zu];exact hb) hC hc⟩
theorem qv.below(hK:vm At)(h:qv At k w B A l)(hb:Below B w w'):qv At k w' B A l:=h.keep' hK (zn _) fun _ hq=>hb.cell hq
theorem qv.below_to(hK:vm At)(h:qv At k w B A l)(hb:Below C w w')(hC:B≤C):qv At k w' B A l:=h.keep' hK (zn _) fun _ hq=>hb.cell (Xj hq hC)
theorem qv.more(hK:vm At)(h:qv At k w B A l)(hC:B≤C):qv At k w C A l:=h.keep' hK hC fun _ _=>rfl
theorem qv.at_{i:Nat}(h:qv At k w B A l)(hi:i<l.length):∃ad,A=some ad∧ad.block<B∧At w B (ad.add (i*k)) l[i]:=h i _ (Xc hi)
theorem qv.take_(h:qv At k w B A l)(n:Nat):qv At k w B A (l.take n):=fun i x hi=>by
 rw[List.getElem?_take]at hi;split at hi
 ·exact h i x hi
 ·cases hi
end
abbrev zf(p:Addr)(n:Nat):Addr:=⟨p.block,p.off+n,none⟩
def zl:AtP Int:=fun w _ p n=>w.cell? p=some (.int .i64 n)
theorem zl.keeps:vm zl:=fun _ _ _ _ p _ h hp _ hc=>(hc _ hp).trans h
def qQ:AtP Int:=fun w _ p n=>w.cell? p=some (.int .i32 n)∧ -2147483648≤n∧n≤2147483647
theorem qQ.keeps:vm qQ:=fun _ _ _ _ p _ h hp _ hc=>⟨(hc _ hp).trans h.1,h.2⟩
def zc:AtP (Int×Int):=fun w _ p t=>w.cell? p=some (.int .i64 t.1)∧w.cell? (zf p 1)=some (.int .i64 t.2)
theorem zc.keeps:vm zc:=fun _ _ _ _ p _ h hp _ hc=>⟨(hc _ hp).trans h.1,(hc (zf p 1) hp).trans h.2⟩
def qi:AtP (Int×Int×Int):=fun w _ p i=>w.cell? p=some (.int .i64 i.1)∧w.cell? (zf p 1)=some (.int .i64 i.2.1)∧w.cell? (zf p 2)=some (.int .i64 i.2.2)
theorem qi.keeps:vm qi:=fun _ _ _ _ p _ h hp _ hc=>⟨(hc _ hp).trans h.1,(hc (zf p 1) hp).trans h.2.1,(hc (zf p 2) hp).trans h.2.2⟩
structure ze{α:Type}(At:AtP α)(k:Nat)(w:World)(B:Nat)(A:Option Addr)(cap:Nat)(l:List α):Prop where
 le:l.length≤cap
 cap:cap≤9223372036854775807
 row:qv At k w B A l
def zI{α:Type}(At:AtP α)(k:Nat):AtP (List α):=fun w B p l=>∃A cap,w.cell? p=some (.slice A l.length cap)∧ze At k w B A cap l
theorem ze.keep'{α:Type}{At:AtP α}(hK:vm At){k:Nat}{w w':World}{B C:Nat}{A:Option Addr}{cap:Nat}{l:List α}(h:ze At k w B A cap l)(hC:B≤C)(hc:∀q:Addr,q.block<B→w'.cell? q=w.cell? q):ze At k w' C A cap l:=
 ⟨h.le,h.cap,h.row.keep' hK hC hc⟩
theorem ze.below_to{α:Type}{At:AtP α}(hK:vm At){k:Nat}{w w':World}{B C:Nat}{A:Option Addr}{cap:Nat}{l:List α}(h:ze At k w B A cap l)(hb:Below C w w')(hC:B≤C):ze At k w' B A cap l:=
 h.keep' hK (zn _) fun _ hq=>hb.cell (Xj hq hC)
theorem zI.keeps{α:Type}{At:AtP α}(hK:vm At)(k:Nat):vm (zI At k):=fun _ _ _ _ _ _ ⟨A,cap,h,hs⟩ hp hC hc=>⟨A,cap,(hc _ hp).trans h,hs.keep' hK hC hc⟩
structure zJ where
 sup:Int
 fields:List (Int×Int)
 slots:List Int
deriving DecidableEq
structure zh where
 args:List (Int×Int)
 locals:List (Int×Int)
 ret:Int×Int
 code:List (Int×Int×Int)
 depth:Int
 pot:Int
 phi:List Int
deriving DecidableEq
structure za where
 classes:List zJ
 statics:List (Int×Int)
 ints:List Int
 methods:List zh
 entries:List Int
 stack:Int
 heap:Int
deriving DecidableEq
structure qj(w:World)(B:Nat)(p:Addr)(c:zJ):Prop where
 sup:w.cell? p=some (.int .i64 c.sup)
 fields:zI zc 2 w B (zf p 1) c.fields
 slots:zI zl 1 w B (zf p 2) c.slots
 rng: -9223372036854775808≤c.sup∧c.sup≤9223372036854775807
theorem qj.keeps:vm qj:=fun _ _ _ _ _ _ h hp hC hc=>⟨(hc _ hp).trans h.sup,zI.keeps zc.keeps 2 h.fields hp hC hc,zI.keeps zl.keeps 1 h.slots hp hC hc,h.rng⟩
structure qC(w:World)(B:Nat)(p:Addr)(x:zh):Prop where
 args:zI zc 2 w B p x.args
 locals:zI zc 2 w B (zf p 1) x.locals
 ret0:w.cell? (zf p 2)=some (.int .i64 x.ret.1)
 ret1:w.cell? (zf p 3)=some (.int .i64 x.ret.2)
 code:zI qi 3 w B (zf p 4) x.code
 depth:w.cell? (zf p 5)=some (.int .i64 x.depth)
 pot:w.cell? (zf p 6)=some (.int .i64 x.pot)
 phi:zI zl 1 w B (zf p 7) x.phi
theorem qC.keeps:vm qC:=fun _ _ _ _ p _ h hp hC hc=>
 ⟨zI.keeps zc.keeps 2 h.args hp hC hc,zI.keeps zc.keeps 2 h.locals hp hC hc,(hc (zf p 2) hp).trans h.ret0,(hc (zf p 3) hp).trans h.ret1,zI.keeps qi.keeps 3 h.code hp hC hc,
  (hc (zf p 5) hp).trans h.depth,(hc (zf p 6) hp).trans h.pot,zI.keeps zl.keeps 1 h.phi hp hC hc⟩
structure zi where
 A0:Option Addr
 A1:Option Addr
 A2:Option Addr
 A3:Option Addr
 A4:Option Addr
 c0:Nat
 c1:Nat
 c2:Nat
 c3:Nat
 c4:Nat
abbrev zp(h:zi)(m:za):Value:=
 .agg #[.slice h.A0 m.classes.length h.c0,.slice h.A1 m.statics.length h.c1,.slice h.A2 m.ints.length h.c2,.slice h.A3 m.methods.length h.c3,.slice h.A4 m.entries.length h.c4,.int .i64 m.stack,.int .i64 m.heap]
structure zm(w:World)(B:Nat)(h:zi)(m:za):Prop where
 classes:ze qj 3 w B h.A0 h.c0 m.classes
 statics:ze zc 2 w B h.A1 h.c1 m.statics
 ints:ze qQ 1 w B h.A2 h.c2 m.ints
 methods:ze qC 8 w B h.A3 h.c3 m.methods
 entries:ze zl 1 w B h.A4 h.c4 m.entries
theorem zm.keep'{w w':World}{B C:Nat}{h:zi}{m:za}(H:zm w B h m)(hC:B≤C)(hc:∀q:Addr,q.block<B→w'.cell? q=w.cell? q):zm w' C h m:=
 ⟨H.classes.keep' qj.keeps hC hc,H.statics.keep' zc.keeps hC hc,H.ints.keep' qQ.keeps hC hc,H.methods.keep' qC.keeps hC hc,H.entries.keep' zl.keeps hC hc⟩
theorem zm.below_to{w w':World}{B C:Nat}{h:zi}{m:za}(H:zm w B h m)(hb:Below C w w')(hC:B≤C):zm w' B h m:=H.keep' (zn _) fun _ hq=>hb.cell (Xj hq hC)
theorem zm.more{w:World}{B C:Nat}{h:zi}{m:za}(H:zm w B h m)(hC:B≤C):zm w C h m:=H.keep' hC fun _ _=>rfl
open Go.ChangeShapes Go.WideShapes Go.ChangeAt Go.RowKit
def zX(l:List Int)(n:Int):Bool:=decide (n ∈l)
theorem qv3(n:Int):zX [] n=false:=rfl
theorem q05(l:List Int)(n:Int)(A:Option Addr)(cap B:Nat)(w:World)(hl:l.length≤9223372036854775807)(h:zq w B A (l.map (Value.int .i64))):
  Calls Tryz.prog 66 #[.slice A l.length cap,.int .i64 n] w fun e w'=>e= .returned (.bool (zX l n))∧w=w':=by
 have HL:=zH h;clear h;go_enter Tryz.func66,Tryz.ntmps66;go_wp2
 go_loop [5] (fun i=>∃k:Nat,k≤l.length∧i= .int .i64 k∧zX l n=zX (l.drop k) n) (fun i=>l.length - (intOf i).toNat)
 case atStart=>exact⟨0,by omega,rfl,rfl⟩
 case round=>
  obtain⟨k,hk,rfl,hn⟩:=hrel;have HN:=zH hn;clear hn;by_cases hlt:k<l.length
  ·obtain⟨ad,rfl,_,hc⟩:=HL.out.at_ (k:=k) (by simpa using hlt);have E1:=zH (Wq hlt);simp only[List.getElem_map]at hc;generalize l[k]=b at*
   by_cases hb:b=n
   ·subst hb;have R:=zH (show zX l b=true by rw[HN.out,E1.out];simp[zX]);clear HN E1;go_wp2_with fail
    go_ret;refine⟨?_,rfl⟩;rw[R.out];rfl
   ·have R:=zH (show zX l n=zX (l.drop (k+1)) n by
     rw[HN.out,E1.out];unfold zX;simp only[XA];rw[X8];constructor
     ·rintro(h|h)
      ·exact absurd h.symm hb
      ·exact h
     ·exact .inr)
    clear HN E1;go_wp2_with fail
    go_round
    case rel=>exact⟨k+1,by omega,by go_num,R.out⟩
    case measure=>simp[intOf];omega
  ·have R:=zH (show zX l n=false by rw[HN.out,List.drop_eq_nil_of_le (by omega)];rfl);clear HN;go_wp2_with fail
   go_ret;refine⟨?_,rfl⟩;rw[R.out];rfl
def zW(w:World)(N:Nat)(vs:List Value):Prop:=∀i v,vs[i]? =some v→w.cell? ⟨N,i,none⟩=some v
theorem zW.keep{w w':World}{N B:Nat}{vs:List Value}(H:zW w N vs)(hb:Below B w w')(hN:N<B):zW w' N vs:=fun i v h=>(hb.cell (p:=⟨N,i,none⟩) hN).trans (H i v h)
theorem qr(w:World)(vs:List Value)(T:TypeId):zW (w.alloc (.cells vs.toArray T)) w.heap.size vs:=fun i v h=>by
 rw[World.cell?_alloc_at _ _ _ _ rfl];simpa using h
theorem qw{w:World}{N:Nat}{v0 v1 v2:Value}{l:List Value}(h:zW w N (v0::v1::v2::l)):w.cell? ⟨N,0,none⟩=some v0∧w.cell? ⟨N,1,none⟩=some v1∧w.cell? ⟨N,2,none⟩=some v2:=⟨h 0 _ rfl,h 1 _ rfl,h 2 _ rfl⟩
theorem ck7{w:World}{N:Nat}{v0 v1 v2 v3 v4 v5 v6:Value}{l:List Value}(h:zW w N (v0::v1::v2::v3::v4::v5::v6::l)):w.cell? ⟨N,0,none⟩=some v0∧w.cell? ⟨N,1,none⟩=some v1∧w.cell? ⟨N,2,none⟩=some v2∧w.cell? ⟨N,3,none⟩=some v3∧w.cell? ⟨N,4,none⟩=some v4∧w.cell? ⟨N,5,none⟩=some v5∧w.cell? ⟨N,6,none⟩=some v6:=⟨h 0 _ rfl,h 1 _ rfl,h 2 _ rfl,h 3 _ rfl,h 4 _ rfl,h 5 _ rfl,h 6 _ rfl⟩
theorem zY{w:World}{N:Nat}{v0 v1 v2 v3 v4 v5 v6 v7:Value}{l:List Value}(h:zW w N (v0::v1::v2::v3::v4::v5::v6::v7::l)):w.cell? ⟨N,0,none⟩=some v0∧w.cell? ⟨N,1,none⟩=some v1∧w.cell? ⟨N,2,none⟩=some v2∧w.cell? ⟨N,3,none⟩=some v3∧w.cell? ⟨N,4,none⟩=some v4∧w.cell? ⟨N,5,none⟩=some v5∧w.cell? ⟨N,6,none⟩=some v6∧w.cell? ⟨N,7,none⟩=some v7:=⟨h 0 _ rfl,h 1 _ rfl,h 2 _ rfl,h 3 _ rfl,h 4 _ rfl,h 5 _ rfl,h 6 _ rfl,h 7 _ rfl⟩
theorem zj{w0 w w':World}(H:Hid (Below w0.heap.size w0 w))(hb:Below w.heap.size w w'):Hid (Below w0.heap.size w0 w'):=zH (H.out.trans (hb.mono H.out.size))
def Zy(w:World)(N:Nat)(h:zi)(m:za):Prop:=
 w.cell? ⟨N,0,none⟩=some (.slice h.A0 m.classes.length h.c0)∧w.cell? ⟨N,1,none⟩=some (.slice h.A1 m.statics.length h.c1)∧w.cell? ⟨N,2,none⟩=some (.slice h.A2 m.ints.length h.c2)∧
 w.cell? ⟨N,3,none⟩=some (.slice h.A3 m.methods.length h.c3)∧w.cell? ⟨N,4,none⟩=some (.slice h.A4 m.entries.length h.c4)∧w.cell? ⟨N,5,none⟩=some (.int .i64 m.stack)∧w.cell? ⟨N,6,none⟩=some (.int .i64 m.heap)
theorem Zy.keep{w w':World}{N B:Nat}{h:zi}{m:za}(H:Zy w N h m)(hb:Below B w w')(hN:N<B):Zy w' N h m:=by
 obtain⟨h0,h1,h2,h3,h4,h5,h6⟩:=H;have c:∀i,w'.cell? ⟨N,i,none⟩=w.cell? ⟨N,i,none⟩:=fun i=>hb.cell (p:=⟨N,i,none⟩) hN;exact⟨(c 0).trans h0,(c 1).trans h1,(c 2).trans h2,(c 3).trans h3,(c 4).trans h4,(c 5).trans h5,(c 6).trans h6⟩
abbrev zg(h:zi)(m:za):Obj:=
 .cells #[.slice h.A0 m.classes.length h.c0,.slice h.A1 m.statics.length h.c1,.slice h.A2 m.ints.length h.c2,.slice h.A3 m.methods.length h.c3,.slice h.A4 m.entries.length h.c4,.int .i64 m.stack,.int .i64 m.heap] 28
theorem ql(w:World)(h:zi)(m:za):Zy (w.alloc (zg h m)) w.heap.size h m:=by
 refine⟨?_,?_,?_,?_,?_,?_,?_⟩<;>(rw[World.cell?_alloc_at _ _ _ _ rfl];rfl)
theorem vH{α:Type}{f:α→Bool}{l:List α}{k:Nat}(hk:k<l.length)(h:∀x ∈l.take k,f x=true)(hx:f l[k]=true):∀x ∈l.take (k+1),f x=true:=by
 rw[XH,Xc hk];intro x hm;rcases Xn.mp hm with g|g
 ·exact h x g
 ·simp at g;subst g;exact hx
theorem vK{α:Type}{f:α→Bool}{l:List α}{k:Nat}(hk:k<l.length)(hx:f l[k]=false):l.all f=false:=by
 rw[Wa];intro h;have:=Xx.mp h _ (Xf hk);rw[hx]at this;cases this
theorem vL{α:Type}{f:α→Bool}{l:List α}{k:Nat}(h:∀x ∈l.take k,f x=true)(hk:l.length≤k):l.all f=true:=by
 rw[XK hk]at h;exact Xx.mpr h
structure Boxed(w:World)(g:Nat)(h:zi)(m:za):Prop where
 box:Zy w g h m
 lt:g<w.heap.size
 img:zm w w.heap.size h m
theorem zm.now{w w':World}{h:zi}{m:za}(H:zm w w.heap.size h m)(hb:Below w.heap.size w w'):zm w' w'.heap.size h m:=
 (H.below_to hb (zn _)).more hb.size
theorem Boxed.keep{w w':World}{g:Nat}{h:zi}{m:za}(H:Boxed w g h m)(hb:Below w.heap.size w w'):Boxed w' g h m:=
 ⟨H.box.keep hb H.lt,Xj H.lt hb.size,H.img.now hb⟩
theorem Boxed.new{w:World}{h:zi}{m:za}(H:zm w w.heap.size h m):Boxed (w.alloc (zg h m)) w.heap.size h m:=
 ⟨ql w h m,by simp,H.now ((zb _ _).alloc (zn _) _)⟩
theorem vr{w:World}{h:zi}{m:za}:Below w.heap.size w (w.alloc (zg h m)):=(zb _ _).alloc (zn _) _
theorem mvT{P:Program}{md:Region.Mode}{ops:Array Oper}{Q:Exit→Act→World→Prop}{S:World→Prop}{fuel:Nat}{listed:Array Bool}{a:Act}{w:World}(i:Nat){oi:Oper}{v:Value}(hS:S w)(hi:ops[i]? =some oi:=by rfl)
  (hs:Region.noSelect ops=true:=by kernel_rfl) (hf:Region.free md ops listed i=true:=by kernel_rfl) (hr:(Region.ready md ops listed).contains i=true:=by kernel_rfl)
  (hQ:∀c a w,Q (.panic c) (a.put oi.dst v) w→Q (.panic c) a w:=by exact fun _ _ _ h=>h) (hy:YieldsIf P ops S oi v a:=by(refine Or.inl ⟨by rfl,?_⟩;intro w hSw;(try dsimp only at hSw);go_simp<;>with_reducible rfl))
  (h:wpAnyH P md ops Q S fuel (listed.setIfInBounds i true) (a.put oi.dst v) w):wpAnyH P md ops Q S (fuel+1) listed a w:=wpAnyH_take hi hs hf hr hQ hy hS h
theorem mvU{P:Program}{md:Region.Mode}{ops:Array Oper}{Q:Exit→Act→World→Prop}{S:World→Prop}{fuel:Nat}{listed:Array Bool}{a:Act}{w:World}(i:Nat){oi:Oper}(hS:S w)(hi:ops[i]? =some oi:=by rfl)
  (hs:Region.noSelect ops=true:=by kernel_rfl) (hf:Region.free md ops listed i=true:=by kernel_rfl) (hr:(Region.ready md ops listed).contains i=true:=by kernel_rfl)
  (hQ:∀c a w,Q (.panic c) (a.put oi.dst undef) w→Q (.panic c) a w:=by exact fun _ _ _ h=>h) (hy:YieldsIf P ops S oi undef a:=by exact Or.inr ⟨by rfl,rfl⟩)
  (h:wpAnyH P md ops Q S fuel (listed.setIfInBounds i true) (a.put oi.dst undef) w):wpAnyH P md ops Q S (fuel+1) listed a w:=wpAnyH_take hi hs hf hr hQ hy hS h
theorem sA{α:Type}{xs:List α}{i:Nat}(h:i<xs.toArray.size):xs.toArray[i]=xs[i]'(by simpa using h):=List.getElem_toArray h
theorem sB{α:Type}{a:α}{ys:List α}{i:Nat}{h:i+1<(a::ys).length}:(a::ys)[i+1]'h=ys[i]'(Nat.lt_of_succ_lt_succ h):=rfl
theorem sC{α:Type}{a:α}{ys:List α}{h:0<(a::ys).length}:(a::ys)[0]'h=a:=rfl
theorem sD{α:Type}{l:List α}{i:Nat}{a:α}:l.toArray.setIfInBounds i a=(l.set i a).toArray:=List.setIfInBounds_toArray ..
theorem sE{α:Type}{x:α}{xs:List α}{a:α}:(x::xs).set 0 a=a::xs:=rfl
theorem sF{α:Type}{x:α}{xs:List α}{i:Nat}{a:α}:(x::xs).set (i+1) a=x::xs.set i a:=rfl
theorem mT{P:Program}{md:Region.Mode}{ops:Array Oper}{Q:Exit→Act→World→Prop}{S:World→Prop}{fuel:Nat}{listed listed':Array Bool}{a a':Act}{w:World}(i:Nat){oi:Oper}{v:Value}(hS:S w:=by assumption)(hi:ops[i]? =some oi:=by rfl)
  (hs:Region.noSelect ops=true:=by kernel_rfl) (hf:Region.free md ops listed i=true:=by kernel_rfl) (hr:(Region.ready md ops listed).contains i=true:=by kernel_rfl)
  (hQ:∀c a w,Q (.panic c) (a.put oi.dst v) w→Q (.panic c) a w:=by exact fun _ _ _ h=>h) (hy:YieldsIf P ops S oi v a:=by(refine Or.inl ⟨by rfl,?_⟩;intro w hSw;(try dsimp only at hSw);go_simp<;>with_reducible rfl))
  (hl:listed.setIfInBounds i true=listed':=by(first|(simp only[sA,sB,sC,Act.put,sD,sE,sF]<;>rfl)|rfl))
  (ha:a.put oi.dst v=a':=by(first|(simp only[sA,sB,sC,Act.put,sD,sE,sF]<;>rfl)|rfl))
  (h:wpAnyH P md ops Q S fuel listed' a' w):wpAnyH P md ops Q S (fuel+1) listed a w:=mvT i hS hi hs hf hr hQ hy (by rw[hl,ha];exact h)
theorem mU{P:Program}{md:Region.Mode}{ops:Array Oper}{Q:Exit→Act→World→Prop}{S:World→Prop}{fuel:Nat}{listed listed':Array Bool}{a a':Act}{w:World}(i:Nat){oi:Oper}(hS:S w:=by assumption)(hi:ops[i]? =some oi:=by rfl)
  (hs:Region.noSelect ops=true:=by kernel_rfl) (hf:Region.free md ops listed i=true:=by kernel_rfl) (hr:(Region.ready md ops listed).contains i=true:=by kernel_rfl)
  (hQ:∀c a w,Q (.panic c) (a.put oi.dst undef) w→Q (.panic c) a w:=by exact fun _ _ _ h=>h) (hy:YieldsIf P ops S oi undef a:=by exact Or.inr ⟨by rfl,rfl⟩)
  (hl:listed.setIfInBounds i true=listed':=by(first|(simp only[sA,sB,sC,Act.put,sD,sE,sF]<;>rfl)|rfl))
  (ha:a.put oi.dst undef=a':=by(first|(simp only[sA,sB,sC,Act.put,sD,sE,sF]<;>rfl)|rfl))
  (h:wpAnyH P md ops Q S fuel listed' a' w):wpAnyH P md ops Q S (fuel+1) listed a w:=mvU i hS hi hs hf hr hQ hy (by rw[hl,ha];exact h)
structure qx where
 A0:Option Addr
 A1:Option Addr
 A4:Option Addr
 A7:Option Addr
 k0:Nat
 k1:Nat
 k4:Nat
 k7:Nat
abbrev kn(h:qx)(x:zh):Value:=
 .agg #[.slice h.A0 x.args.length h.k0,.slice h.A1 x.locals.length h.k1,.int .i64 x.ret.1,.int .i64 x.ret.2,.slice h.A4 x.code.length h.k4,.int .i64 x.depth,.int .i64 x.pot,.slice h.A7 x.phi.length h.k7]
abbrev qb(h:qx)(x:zh):List Value:=
 [.slice h.A0 x.args.length h.k0,.slice h.A1 x.locals.length h.k1,.int .i64 x.ret.1,.int .i64 x.ret.2,.slice h.A4 x.code.length h.k4,.int .i64 x.depth,.int .i64 x.pot,.slice h.A7 x.phi.length h.k7]
structure jt(w:World)(B:Nat)(h:qx)(x:zh):Prop where
 args:ze zc 2 w B h.A0 h.k0 x.args
 locals:ze zc 2 w B h.A1 h.k1 x.locals
 code:ze qi 3 w B h.A4 h.k4 x.code
 phi:ze zl 1 w B h.A7 h.k7 x.phi
theorem jt.now{w w':World}{h:qx}{x:zh}(H:jt w w.heap.size h x)(hb:Below w.heap.size w w'):jt w' w'.heap.size h x:=
 ⟨(H.args.below_to zc.keeps hb (zn _)).keep' zc.keeps hb.size (fun _ _=>rfl),(H.locals.below_to zc.keeps hb (zn _)).keep' zc.keeps hb.size (fun _ _=>rfl),
  (H.code.below_to qi.keeps hb (zn _)).keep' qi.keeps hb.size (fun _ _=>rfl),(H.phi.below_to zl.keeps hb (zn _)).keep' zl.keeps hb.size (fun _ _=>rfl)⟩
section
variable{α:Type}
theorem Yw{l m:List α}(h:l.length=m.length)(k:Nat)(hk:l.take k=m.take k)(hl:l.length≤k):l=m:=by
 rw[XK hl,XK (by omega)]at hk;exact hk
theorem YF{l m:List α}{k:Nat}(hl:k<l.length)(hm:k<m.length)(h:¬l[k]=m[k]):¬l=m:=fun e=>by subst e;exact h rfl
theorem YJ{l m:List α}{k:Nat}(hl:k<l.length)(hm:k<m.length)(hk:l.take k=m.take k)(h:l[k]=m[k]):l.take (k+1)=m.take (k+1):=by
 rw[XH,XH,Xc hl,Xc hm,hk,h]
end
def zd(w:World)(g:Nat)(vs:List Value)(T:TypeId):Prop:=w.heap[g]? =some (.cells vs.toArray T (0,0))
theorem zd.new(w:World)(vs:List Value)(T:TypeId):zd (w.alloc (.cells vs.toArray T)) w.heap.size vs T:=Xw _ _
theorem zd.at_{w:World}{N:Nat}(hN:w.heap.size=N)(vs:List Value)(T:TypeId):zd (w.alloc (.cells vs.toArray T)) N vs T:=by
 subst hN;exact zd.new w vs T
theorem zd.lt{w:World}{g:Nat}{vs:List Value}{T:TypeId}(h:zd w g vs T):g<w.heap.size:=by
 rcases Xk g w.heap.size with x|x
 ·exact x
 ·unfold zd at h;rw[Array.getElem?_eq_none x]at h;cases h
theorem zd.keep{w w':World}{g B:Nat}{vs:List Value}{T:TypeId}(h:zd w g vs T)(hb:Below B w w')(hg:g<B):zd w' g vs T:=(hb.block g hg).trans h
theorem zd.cells{w:World}{g:Nat}{vs:List Value}{T:TypeId}(h:zd w g vs T):zW w g vs:=fun i v hi=>by
 unfold zd at h;simp[World.cell?,h,hi]
theorem zd.free{w:World}{g:Nat}{vs:List Value}{T:TypeId}(h:zd w g vs T)(i:Nat):w.frozen? ⟨g,i,none⟩=false:=by
 unfold zd at h;simp[World.frozen?,h]
theorem zd.set{w:World}{g:Nat}{vs:List Value}{T:TypeId}(h:zd w g vs T)(i:Nat)(v:Value):zd (w.setCell ⟨g,i,none⟩ v) g (vs.set i v) T:=by
 have:=heap_setCell_same w g i vs.toArray T v h;unfold zd;rw[this];simp
theorem kv{α:Type}{At:AtP α}{k:Nat}{w:World}{B:Nat}:ze At k w B none 0 []:=⟨zn _,by omega,qv.nil⟩
theorem Qs{w:World}{N:Nat}(hN:w.heap.size=N)(vs:List Value)(T:TypeId):
  zW (w.alloc (.cells vs.toArray T)) N vs∧(w.alloc (.cells vs.toArray T)).heap.size=N+1∧Below N w (w.alloc (.cells vs.toArray T)):=by
 subst hN;exact⟨qr w vs T,by simp,(zb _ _).alloc (zn _) _⟩
theorem qec{α:Type}{At:AtP α}{k:Nat}{w:World}{B g:Nat}{x:α}(h:At w B ⟨g,0,none⟩ x)(hg:g<B):qv At k w B (some ⟨g,0,none⟩) [x]:=fun i y hi=>by
 match i,hi with
 |0,hi=>
  simp at hi;subst hi;refine⟨_,rfl,hg,?_⟩;rw[Nat.zero_mul,show(⟨g,0,none⟩:Addr).add 0=⟨g,0,none⟩by simp[Addr.add]];exact h
def vb(EL:List (List Int))(i j:Nat):Prop:=(j:Int) ∈EL[i]?.getD []
inductive qy(EL:List (List Int))(n:Nat)(i:Nat):Nat→Prop
 |one {j:Nat} (h:vb EL i j):qy EL n i j
 |snoc {p j:Nat} (h:qy EL n i p) (hp:p<n) (e:vb EL p j):qy EL n i j
theorem qy.more{EL:List (List Int)}{n n' i j:Nat}(h:qy EL n i j)(hn:n≤n'):qy EL n' i j:=by
 induction h with
 |one h=>exact .one h
 |snoc _ hp e ih=>exact .snoc ih (by omega) e
theorem qy.join{EL:List (List Int)}{n i p j:Nat}(h:qy EL n i p)(hp:p<n)(h':qy EL n p j):qy EL n i j:=by
 induction h' with
 |one e=>exact .snoc h hp e
 |snoc _ hq e ih=>exact .snoc ih hq e
theorem qy.split{EL:List (List Int)}{k i j:Nat}(h:qy EL (k+1) i j):qy EL k i j∨(qy EL k i k∧qy EL k k j):=by
 induction h with
 |one e=>exact .inl (.one e)
 | @snoc p j _ hp e ih=>
  by_cases hk:p=k
  ·subst hk;rcases ih with h1|⟨h1,_⟩
   ·exact .inr ⟨h1,.one e⟩
   ·exact .inr ⟨h1,.one e⟩
  ·rcases ih with h1|⟨h1,h2⟩
   ·exact .inl (.snoc h1 (by omega) e)
   ·exact .inr ⟨h1,.snoc h2 (by omega) e⟩
open Go.ChangeShapes Go.WideShapes Go.RowKit
def jl(p:Nat→Bool)(n:Nat):List Int:=((List.range n).filter p).map (fun g:Nat=>(g:Int))
theorem qjm(p:Nat→Bool)(n:Nat):(jl p n).length≤n:=by
 unfold jl;rw[Xo];exact Xd (List.length_filter_le _ _) (by rw[XZ];exact zn _)
theorem YV{p:Nat→Bool}{n:Nat}{x:Int}:x ∈jl p n↔∃g:Nat,x=(g:Int)∧g<n∧p g=true:=by
 unfold jl;rw[XW];constructor
 ·rintro⟨g,hg,rfl⟩;rw[List.mem_filter,XR]at hg;exact⟨g,rfl,hg⟩
 ·rintro⟨g,rfl,hg⟩;exact⟨g,by rw[List.mem_filter,XR];exact hg,rfl⟩
theorem qba{p q:Nat→Bool}{n:Nat}(h:∀g,g<n→p g=q g):jl p n=jl q n:=by
 unfold jl;congr 1;exact List.filter_congr (fun g hg=>h g (XR.mp hg))
def QI(p:Nat→Bool):Nat→Nat
 |0=>0
 |n+1=>QI p n+if p n then 0 else 1
theorem qam{p:Nat→Bool}{g:Nat}:∀n,n≤g→QI (fun k=>p k||decide (k=g)) n=QI p n
 |0,_=>rfl
 |n+1,h=>by
  unfold QI;rw[qam n (by omega),show decide (n=g)=false from Xg (by omega),Bool.or_false]
theorem q2q{p:Nat→Bool}{g:Nat}(hp:p g=false):∀n,g<n→QI (fun k=>p k||decide (k=g)) n+1=QI p n
 |0,h=>by omega
 |n+1,h=>by
  unfold QI;by_cases e:n=g
  ·subst e;rw[qam n (zn _),hp];simp
  ·have:=q2q hp n (by omega);rw[show decide (n=g)=false from Xg e,Bool.or_false];omega
theorem q90:∀n,QI (fun _=>false) n=n
 |0=>rfl
 |n+1=>by unfold QI;rw[q90 n];rfl
theorem qdd{w:World}{B c g i:Nat}{A:Option Addr}{L:List Int}{v:Value}(h:ze zl 1 w B A c L)(hA:∀ad,A=some ad→ad.block≠g):ze zl 1 (w.setCell ⟨g,i,none⟩ v) B A c L:=
 ⟨h.le,h.cap,fun j x hj=>by
  obtain⟨ad,e,hb,hc⟩:=h.row j x hj;exact⟨ad,e,hb,(XX (w:=w) (Below.heap_setCell w ⟨g,i,none⟩ v _ (by rw[zu];exact hA ad e))).trans hc⟩⟩
structure Zi(w:World)(g:Nat)(EL:List (List Int))(n k:Nat)(vs:List Value):Prop where
 blk:zd w g vs 26
 len:vs.length=n
 row:∀(i:Nat) (L:List Int),i<k→EL[i]? =some L→∃A c,vs[i]? =some (.slice A L.length c)∧ze zl 1 w w.heap.size A c L∧∀ad,A=some ad→g<ad.block
 rest:∀i:Nat,k≤i→i<n→vs[i]? =some (.slice none 0 0)
section
variable{w w':World}{g n k:Nat}{EL:List (List Int)}{vs:List Value}
theorem Zi.keep(h:Zi w g EL n k vs)(hb:Below w.heap.size w w'):Zi w' g EL n k vs:=
 ⟨zd.keep h.blk hb (zd.lt h.blk),h.len,fun i L hi hL=>by
  obtain⟨A,c,h1,h2,h3⟩:=h.row i L hi hL;exact⟨A,c,h1,h2.keep' zl.keeps hb.size (fun q hq=>hb.cell hq),h3⟩,h.rest⟩
theorem Zi.put(h:Zi w g EL n k vs){A:Option Addr}{c:Nat}{L:List Int}(hk:k<n)(hL:EL[k]? =some L)(hs:ze zl 1 w w.heap.size A c L)(hA:∀ad,A=some ad→g<ad.block):Zi (w.setCell ⟨g,k,none⟩ (.slice A L.length c)) g EL n (k+1) (vs.set k (.slice A L.length c)):=by
 have hz:(w.setCell ⟨g,k,none⟩ (.slice A L.length c)).heap.size=w.heap.size:=by simp
 refine⟨zd.set h.blk k _,by rw[XI];exact h.len,fun i M hi hM=> ?_,fun i hi hn=>by rw[Wc,Xa (by omega)];exact h.rest i (by omega) hn⟩;rw[hz];rcases Xk i k with q|q
 ·obtain⟨A',c',h1,h2,h3⟩:=h.row i M q hM;exact⟨A',c',by rw[Wc,Xa (by omega)];exact h1,qdd h2 (fun ad e=>by have:=h3 ad e;omega),h3⟩
 ·obtain rfl:i=k:=by omega
  have e:L=M:=by rw[hL]at hM;injection hM
  subst e;exact⟨A,c,by rw[Wc,Xb rfl,Xb (by rw[h.len];exact hk)],qdd hs (fun ad e=>by have:=hA ad e;omega),hA⟩
theorem Zi.skip(h:Zi w g EL n k vs)(hk:k<n)(hL:EL[k]? =some []):Zi w g EL n (k+1) vs:=
 ⟨h.blk,h.len,fun i M hi hM=>by
  rcases Xk i k with q|q
  ·exact h.row i M q hM
  ·obtain rfl:i=k:=by omega
   have e:([]:List Int)=M:=by rw[hL]at hM;injection hM
   subst e;exact⟨none,0,h.rest i (zn _) hk,kv,fun ad e=>by cases e⟩,fun i hi hn=>h.rest i (by omega) hn⟩
theorem Zi.cell(h:Zi w g EL n k vs){i:Nat}(hi:i<n):∃v,w.cell? ⟨g,i,none⟩=some v:=
 ⟨_,(zd.cells h.blk) i _ (Xc (by rw[h.len];exact hi))⟩
theorem Zi.slc(h:Zi w g EL n k vs)(hn:EL.length=n)(hk:n≤k)(hc:n≤9223372036854775807):ze (zI zl 1) 1 w w.heap.size (some ⟨g,0,none⟩) n EL:=
 ⟨by omega,hc,fun i L hi=>by
  have hi':=(XM.mp hi).1;obtain⟨A,c,h1,h2,h3⟩:=h.row i L (by omega) hi;refine⟨_,rfl,zd.lt h.blk,A,c,?_,h2⟩;have:=(zd.cells h.blk) i _ h1;rw[show Addr.add ⟨g,0,none⟩ (i*1)=⟨g,i,none⟩by unfold Addr.add;split<;>simp_all];exact this⟩
end
open Go.Shelf
def qrs:Go.Shelf.Ren:=⟨fun|189=>190|125=>204|257=>203|128=>221|129=>222|294=>213|295=>214|296=>215|297=>216|298=>217|299=>218|216=>156|300=>219|301=>220|328=>224|329=>225|330=>226|331=>227|332=>228|215=>192|343=>229|n=>n,fun|28=>26|3=>3|46=>43|0=>0|51=>248|53=>250|4=>4|183=>243|182=>242|131=>112|5=>5|9=>9|218=>251|222=>255|228=>257|229=>210|n=>n,fun|n=>n⟩
theorem q5b:Go.Proofs.Lays.n189 Tryz.prog qrs:={
 mixed:=by kernel_rfl
 f125:=Tryz.func204.trans (congrArg some (by kernel_rfl))
 f128:=Tryz.func221.trans (congrArg some (by kernel_rfl))
 f129:=Tryz.func222.trans (congrArg some (by kernel_rfl))
 f189:=Tryz.func190.trans (congrArg some (by kernel_rfl))
 f215:=Tryz.func192.trans (congrArg some (by kernel_rfl))
 f216:=Tryz.func156.trans (congrArg some (by kernel_rfl))
 f257:=Tryz.func203.trans (congrArg some (by kernel_rfl))
 f294:=Tryz.func213.trans (congrArg some (by kernel_rfl))
 f295:=Tryz.func214.trans (congrArg some (by kernel_rfl))
 f296:=Tryz.func215.trans (congrArg some (by kernel_rfl))
 f297:=Tryz.func216.trans (congrArg some (by kernel_rfl))
 f298:=Tryz.func217.trans (congrArg some (by kernel_rfl))
 f299:=Tryz.func218.trans (congrArg some (by kernel_rfl))
 f300:=Tryz.func219.trans (congrArg some (by kernel_rfl))
 f301:=Tryz.func220.trans (congrArg some (by kernel_rfl))
 f328:=Tryz.func224.trans (congrArg some (by kernel_rfl))
 f329:=Tryz.func225.trans (congrArg some (by kernel_rfl))
 f330:=Tryz.func226.trans (congrArg some (by kernel_rfl))
 f331:=Tryz.func227.trans (congrArg some (by kernel_rfl))
 f332:=Tryz.func228.trans (congrArg some (by kernel_rfl))
 f343:=Tryz.func229.trans (congrArg some (by kernel_rfl))
 t0:=Tryz.underlying0
 a0:=Tryz.isAgg0
 z0:=Tryz.sizeOf0
 v0:=Tryz.zeroValue0
 t3:=Tryz.underlying3
 a3:=Tryz.isAgg3
 z3:=Tryz.sizeOf3
 v3:=Tryz.zeroValue3
 t4:=Tryz.underlying4
 a4:=Tryz.isAgg4
 z4:=Tryz.sizeOf4
 v4:=Tryz.zeroValue4
 t5:=Tryz.underlying5
 a5:=Tryz.isAgg5
 z5:=Tryz.sizeOf5
 v5:=Tryz.zeroValue5
 t9:=Tryz.underlying9
 a9:=Tryz.isAgg9
 z9:=Tryz.sizeOf9
 v9:=Tryz.zeroValue9
 t28:=Tryz.underlying26
 a28:=Tryz.isAgg26
 z28:=Tryz.sizeOf26
 v28:=Tryz.zeroValue26
 t46:=Tryz.underlying43
 a46:=Tryz.isAgg43
 z46:=Tryz.sizeOf43
 v46:=Tryz.zeroValue43
 t51:=Tryz.underlying248
 a51:=Tryz.isAgg248
 z51:=Tryz.sizeOf248
 v51:=Tryz.zeroValue248
 t53:=Tryz.underlying250
 a53:=Tryz.isAgg250
 z53:=Tryz.sizeOf250
 v53:=Tryz.zeroValue250
 t131:=Tryz.underlying112
 a131:=Tryz.isAgg112
 z131:=Tryz.sizeOf112
 v131:=Tryz.zeroValue112
 t182:=Tryz.underlying242
 a182:=Tryz.isAgg242
 z182:=Tryz.sizeOf242
 v182:=Tryz.zeroValue242
 t183:=Tryz.underlying243
 a183:=Tryz.isAgg243
 z183:=Tryz.sizeOf243
 v183:=Tryz.zeroValue243
 t218:=Tryz.underlying251
 a218:=Tryz.isAgg251
 z218:=Tryz.sizeOf251
 v218:=Tryz.zeroValue251
 t222:=Tryz.underlying255
 a222:=Tryz.isAgg255
 z222:=Tryz.sizeOf255
 v222:=Tryz.zeroValue255
 t228:=Tryz.underlying257
 a228:=Tryz.isAgg257
 z228:=Tryz.sizeOf257
 v228:=Tryz.zeroValue257
 t229:=Tryz.underlying210
 a229:=Tryz.isAgg210
 z229:=Tryz.sizeOf210
 v229:=Tryz.zeroValue210}
theorem qfu(l m:List Int)(A A':Option Addr)(cap cap' B:Nat)(w:World)(hB:B≤w.heap.size)(h:ze zl 1 w B A cap l)(h':ze zl 1 w B A' cap' m):
  Calls Tryz.prog 44 #[.slice A l.length cap,.slice A' m.length cap'] w fun e w'=>e= .returned (.bool (decide (l=m)))∧Below w.heap.size w w':=by
 have hlc:=h.le;have hcm:=h.cap;have hlc':=h'.le;have hcm':=h'.cap;have HL:=zH h;have HM:=zH h';have HB:=zH hB;clear h h' hB;obtain⟨b,hb⟩:∃b,decide (l=m)=b:=⟨_,rfl⟩
 rw[hb];have E:=zH hb.symm;clear hb;by_cases hn:l.length=m.length
 ·have HLN:=zH hn;have hlen:m.length=l.length:=hn.symm;rw[hlen];clear hn;go_enter Tryz.func44,Tryz.ntmps44;go_wp2
  go_loopw [5] (fun i wr=>∃k:Nat,k≤l.length∧i= .int .i64 k∧Hid (l.take k=m.take k)∧Hid (Below w.heap.size w wr)) (fun i _=>l.length - (intOf i).toNat)
  case atStart=>exact⟨0,by omega,rfl,zH (by simp),zH (zb _ _)⟩
  case round=>
   obtain⟨k,hk,rfl,HN,HX⟩:=hrel;by_cases hlt:k<l.length
   ·have hltm:k<m.length:=by omega
    obtain⟨ad,rfl,hab,q0⟩:=(HL.out.below_to zl.keeps HX.out HB.out).row.at_ hlt;obtain⟨ad',rfl,hab',q0'⟩:=(HM.out.below_to zl.keeps HX.out HB.out).row.at_ hltm;have HNE:=zH (fun g=>YF hlt hltm g);have HEQ:=zH (fun g=>YJ hlt hltm HN.out g);generalize l[k]=t at*
    generalize m[k]=s at*
    rw[Xz]at q0 q0';have r0:wr.cell? (ad.add k)=some (.int .i64 t):=q0;have r0':wr.cell? (ad'.add k)=some (.int .i64 s):=q0';by_cases hx:t=s
    ·obtain rfl:=hx;have E2:=zH (HEQ.out rfl);go_wp2_with fail
     go_quiet (fail)
     go_wp2
     go_roundw;case rel=>exact⟨k+1,by omega,by go_num,E2,zH (qZ HX.out _)⟩
     case measure=>simp[intOf];omega
    ·have E2:=zH (show b=false by rw[E.out];exact Xg (HNE.out (by simpa using hx)));go_wp2_with fail
     go_quiet (fail)
     go_wp2
     go_ret;exact⟨by rw[E2.out];rfl,(qZ HX.out _)⟩
   ·have E2:=zH (show b=true by rw[E.out];exact Xm (Yw HLN.out k HN.out (by omega)));go_wp2_with fail
    go_ret;exact⟨by rw[E2.out];rfl,HX.out⟩
 ·have E2:=zH (show b=false by rw[E.out];exact Xg (fun g=>hn (by rw[g])));have hn':((l.length:Int)==(m.length:Int))=false:=XG.mpr (by omega);go_enter Tryz.func44,Tryz.ntmps44;go_wp2
  go_ret;exact⟨by rw[E2.out];rfl,zb _ _⟩
def q0j(Q:Exit→Act→World→Prop):Exit→Act→World→Prop
 | .normal,a,w=>Q .normal a w
 |_,_,_=>False
theorem q0j.normal{Q:Exit→Act→World→Prop}{a:Act}{w:World}(h:Q .normal a w):q0j Q .normal a w:=h
theorem qk0{l n:Nat}{P:Program}{o:Oper}{a:Act}{w:World}{K K':Act→World→Prop}{Q:Exit→Act→World→Prop}(hnd:∀c,o.op≠ .defer c)(hk:∀a w,K a w→K' a w)
  (h:o.wp P a w K (q0j Q)):o.wpIn (Fence.wide.inRound l) n P a w K' Q:=by
 unfold Oper.wp at h;unfold Oper.wpIn;refine⟨fun _ _=>trivial,?_⟩;rw[Oper.semAt_eq _ _ _ hnd];generalize(execOp a.eval o).run P w=r at h;cases r with
 |ok x w'=>
  cases x<;>simp only[Oper.upon,Oper.uponIn]at h⊢
  case value v=>exact hk _ _ h
  case skip=>exact hk _ _ h
  case defer d=>exact hk _ _ h
  case enter f args=>
   refine⟨fun h0=>(by cases h0),CallsIn.inRound l (callsIn_wide.2 (h.mono fun e w'' he=> ?_))⟩;cases e with
   |returned v=>exact hk _ _ he
   |panicked chain=>exact(he:False).elim
   |outgrown=>obtain⟨_,_,hf⟩:=he;exact(hf:False).elim
  case row row args=>
   refine⟨fun h0=>(by cases h0),fun c cs _=> ?_⟩;obtain⟨v,w2,hv,hs⟩:=h c cs;exact⟨v,w2,hk _ _ hv,stepsIn_wide.2 hs⟩
 |halt x w'=>
  cases x<;>simp only[Oper.upon,Oper.uponIn]at h⊢
  all_goals exact(h:False).elim
theorem q2x{l n:Nat}{P:Program}{ops:Array Oper}{Q:Exit→Act→World→Prop}(hnd:∀(i:Nat) o,ops[i]? =some o→∀c,o.op≠ .defer c):∀(is:List Nat) (a:Act) (w:World),wpOps P ops (q0j Q) is a w→wpOpsIn (Fence.wide.inRound l) n P ops Q is a w
 | [],a,w,h=>h
 |i::rest,a,w,h=>by
  simp only[wpOps]at h;simp only[wpOpsIn];cases ho:ops[i]? with
  |none=>simp only[ho]at h⊢;exact q2x hnd rest a w h
  |some o=>
   simp only[ho]at h⊢
   by_cases hw:Region.wanted o (yielded ops a.tmps)=true
   ·rw[Xb hw]at h⊢
    rcases h with h|⟨_,_,_,h⟩
    ·exact qk0 (hnd i o ho) (fun a w=>q2x hnd rest a w) h
    ·exact(h:False).elim
   ·rw[Xa hw]at h⊢
    exact⟨fun _ _=>trivial,q2x hnd rest _ _ h⟩
theorem qfi{l n:Nat}{P:Program}{id:Nat}{ops:Array Oper}{Q:Exit→Act→World→Prop}{S:World→Prop}{a:Act}{w:World}(hm:P.follows .mixedOrders=true)(hnd:ops.all (fun o=>match o.op with| .defer _=>false|_=>true)=true)(hS:S w.drew)
  (h:S w.drew→wpAnyH P .any ops (q0j Q) S ops.size (Array.replicate ops.size false) a w.drew):(Code.region id ops true).wpIn (Fence.wide.inRound l) n P Q a w:=
 wpIn_region_draw fun t=>q2x (fun i o ho c hc=>by
  have hx:=(Array.all_eq_true.mp hnd) i (by rcases Xk i ops.size with g|g;exact g;rw[Array.getElem?_eq_none g]at ho;cases ho);rw[Array.getElem?_eq_some_iff]at ho;obtain⟨_,ho⟩:=ho;rw[ho,hc]at hx;cases hx) _ _ _ (by
   simp only[Region.schedule,hm,Bool.true_or,if_true];exact wpAny_sound ops.size t _ a _ (wpAny_of_held _ _ _ _ (h hS)))
theorem qf7(op:Int)(h0:7≤op)(h1:op≤17)(w:World):Calls Tryz.prog 179 #[.int .i64 op] w fun e w'=>e= .returned (.bool true)∧w=w':=by
 have h:op=7∨op=8∨op=9∨op=10∨op=11∨op=12∨op=13∨op=14∨op=15∨op=16∨op=17:=by omega
 clear h0 h1;rcases h with rfl|rfl|rfl|rfl|rfl|rfl|rfl|rfl|rfl|rfl|rfl;all_goals
  go_enter Tryz.func179,Tryz.ntmps179;go_wp2
  go_ret;exact⟨rfl,rfl⟩
theorem is_no(op:Int)(h:op<7∨17<op)(w:World):Calls Tryz.prog 179 #[.int .i64 op] w fun e w'=>e= .returned (.bool false)∧w=w':=by
 have n7:¬op=7:=by omega
 have n8:¬op=8:=by omega
 have n9:¬op=9:=by omega
 have n10:¬op=10:=by omega
 have n11:¬op=11:=by omega
 have n12:¬op=12:=by omega
 have n13:¬op=13:=by omega
 have n14:¬op=14:=by omega
 have n15:¬op=15:=by omega
 have n16:¬op=16:=by omega
 have n17:¬op=17:=by omega
 clear h;go_enter Tryz.func179,Tryz.ntmps179;go_wp2
 go_ret;exact⟨rfl,rfl⟩
theorem qqa{P:Program}{w:World}{B:Nat}{A:Option Addr}{l:List Int}{cap:Nat}{src dst e:TypeId}(hs:P.underlying src=some (.slice e))(he:P.underlying e=some (.int .u8))(hd:P.underlying dst=some .string)
  (h:zq w B A (l.map (Value.int .u8))):(convert src dst (.slice A l.length cap)).run P w= .ok (.string (strOfNums l)) w:=by
 rcases A with _|ad
 ·have hl:l=[]:=by
   cases l with
   |nil=>rfl
   |cons b r=>
    obtain⟨ad,e,_⟩:=h 0 (.int .u8 b) rfl;cases e
  subst hl;rw[run_convert_bytes_nil w src e hs he _ _ dst hd];rfl
 ·obtain⟨g,off,spot⟩:=ad;by_cases hl:l=[]
  ·subst hl;rw[run_convert_bytes_string w src dst e _ _ _ hs he hd];exact(run_bytesToString (P:=P) w ⟨g,off,spot⟩ 0 cap [] (run_loadCells_list (P:=P) w _ [] (fun j v hj=>by simp at hj))).trans rfl
  ·have hpos:0<l.length:=List.length_pos_iff.mpr hl;have hspot:spot=none:=by
    obtain⟨ad,e,_,hc⟩:=h.at_ (k:=0) (by simpa using hpos);injection e with e;subst e;simpa[Addr.add]using World.cell?_spot hc
   subst hspot;refine run_convert_bytes_arg w src e hs he g off l.length cap l rfl (fun i hi=> ?_) dst hd;obtain⟨ad,e,_,hc⟩:=h.at_ (k:=i) (by simpa using hi);injection e with e;subst e;have e:(Addr.add ⟨g,off,none⟩ i)=⟨g,off+i,none⟩:=by
    unfold Addr.add;split
    ·rename_i h0;subst h0;rfl
    ·rfl
   rw[←e,hc];simp[List.getD,Xc hi]
theorem q83(l:List Int):(strOfNums l).toList=l.map fun n=>UInt8.ofNat n.toNat:=by
 rw[ByteArray.toList_eq,strOfNums_data]
theorem qsg{l m:List Int}(hl:∀b ∈l,0≤b∧b≤255)(hm:∀b ∈m,0≤b∧b≤255)(h:(l.map fun n=>UInt8.ofNat n.toNat)=m.map fun n=>UInt8.ofNat n.toNat):l=m:=by
 induction l generalizing m with
 |nil=>
  cases m with
  |nil=>rfl
  |cons b r=>simp at h
 |cons a r ih=>
  cases m with
  |nil=>simp at h
  |cons b s=>
   simp only[List.map_cons,List.cons.injEq]at h;obtain⟨a0,a1⟩:=hl a XD;obtain⟨b0,b1⟩:=hm b XD;have e:a=b:=by
    have:=congrArg UInt8.toNat h.1;simp at this;omega
   rw[e,ih (fun c hc=>hl c (XF _ hc)) (fun c hc=>hm c (XF _ hc)) h.2]
theorem str_eq{l m:List Int}(hl:∀b ∈l,0≤b∧b≤255)(hm:∀b ∈m,0≤b∧b≤255):((strOfNums l).toList==(strOfNums m).toList)=decide (l=m):=by
 by_cases h:l=m
 ·subst h;simp
 ·rw[Xg h,XG,q83,q83];exact fun g=>h (qsg hl hm g)
theorem qeq{w:World}{B:Nat}{A:Option Addr}{l:List Int}{cap:Nat}(h:zq w B A (l.map (Value.int .u8))):(convert 40 9 (.slice A l.length cap)).run Tryz.prog w= .ok (.string (strOfNums l)) w:=
 qqa Tryz.underlying40 Tryz.underlying5 Tryz.underlying9 h
open Go.ChangeShapes Go.WideShapes Go.Deep Go.Joins Go.RowKit
theorem gather{α:Type}{R:Nat→α→Prop}(n:Nat)(h:∀i,i<n→∃s,R i s):∃l:List α,l.length=n∧∀i s,l[i]? =some s→R i s:=by
 induction n with
 |zero=>exact⟨[],rfl,by simp⟩
 |succ n ih=>
  obtain⟨l,hl,hr⟩:=ih fun i hi=>h i (by omega);obtain⟨s,hs⟩:=h n (by omega);refine⟨l++[s],by simp[hl],fun i t ht=> ?_⟩;rcases Xk i l.length with hlt|hge
  ·rw[XN hlt]at ht;exact hr i t ht
  ·rw[XP hge]at ht;have hi:i - l.length=0:=by
    rcases Wo (i - l.length)with h0|h0
    ·exact h0
    ·rw[Xv (by simp;omega)]at ht;cases ht
   rw[hi]at ht;have hin:i=n:=by omega
   subst hin;simp at ht;subst ht;exact hs
section
variable{H:Type}{enc:TypeId×Value→H}{P:Program}{w:World}{base:Nat}{held:Bool}
end
theorem q3y{a:Int}(h:(Lit.int .u8 a).wf=true):0≤a∧a≤255:=by
 simpa[Lit.wf,IntKind.min,IntKind.max,IntKind.signed,IntKind.bits]using h
theorem qf2{a:Int}(h:(Lit.int .i32 a).wf=true): -2147483648≤a∧a≤2147483647:=by
 simpa[Lit.wf,IntKind.min,IntKind.max,IntKind.signed,IntKind.bits]using h
theorem wf_i64{a:Int}(h:(Lit.int .i64 a).wf=true): -9223372036854775808≤a∧a≤9223372036854775807:=by
 simpa[Lit.wf,IntKind.min,IntKind.max,IntKind.signed,IntKind.bits]using h
theorem Vo(p:Addr):p.add 0=p:=by simp[Addr.add]
theorem ZK{n:Nat}(p:Addr)(h:0<n):p.add n=zf p n:=by
 unfold Addr.add zf;rw[Xa (by omega)]
section
variable{α H:Type}{enc:TypeId×Value→H}{P:Program}{w:World}{base:Nat}{held:Bool}{spare:Nat→Bool}
def Yp(enc:TypeId×Value→H)(P:Program)(w:World)(base:Nat)(spare:Nat→Bool)(held:Bool)(e:TypeId)(k:Nat)(At:AtP α):Prop:=
 ∀(n:Nat) (cs:List Value) (y:DataW H×List MemPlace) (p:Addr),(∀j u,cs[j]? =some u→w.cell? (p.add j)=some u)→DataW.trod enc P w base spare held n e cs=some y→cs.length=k→∃x:α,At w w.heap.size p x
theorem VG{t e:TypeId}{k fuel:Nat}{cs:List Value}{x:DataW H×List MemPlace}{At:AtP α}(ht:P.underlying t=some (.slice e))(hC:P.cellsOf e=k)(hk:0<k)(hO:Yp enc P w base spare held e k At)
  (h:DataW.trod enc P w base spare held fuel t cs=some x):∃A cap l,cs=[.slice A l.length cap]∧ze At k w w.heap.size A cap l∧(A=none→cap=0):=by
 rcases open_slice ht h with⟨hcs,_⟩|⟨a,len,cap,m,n,D,Pl,hcs,_,hl,hm,hmm,_,hi⟩
 ·exact⟨none,0,[],hcs,⟨zn _,by omega,qv.nil⟩,fun _=>rfl⟩
 ·have hml:len≤m:=by rw[hmm];split<;>omega
  obtain⟨l,hLl,hL⟩:=gather (R:=fun i (x:α)=>At w w.heap.size (a.add (i*k)) x∧a.block<w.heap.size) len fun i hil=>by
   obtain⟨cs',hc,ht'⟩:=hi i (by omega);rw[hC]at hc;obtain⟨_,hcl,hat⟩:=World.cells?_some hc;have hat':∀j u,cs'[j]? =some u→w.cell? ((a.add (i*k)).add j)=some u:=fun j u hu=>by
    have hj:j<k:=by
     rcases Xk j k with g|g
     ·exact g
     ·rw[Xv (by omega)]at hu;cases hu
    exact(hat j hj).trans hu
   obtain⟨x,hx⟩:=hO n cs' _ (a.add (i*k)) hat' ht' hcl;refine⟨x,hx,?_⟩;have h0:=hat' 0 (cs'[0]'(by omega)) (Xc (by omega));have:=World.block_lt_of_cell? w _ h0
   rwa [zu,zu]at this
  refine⟨some a,cap,l,by rw[hLl];exact hcs,⟨by omega,by unfold maxLen at hm;omega,fun i x hx=> ?_⟩,fun h=>by cases h⟩;exact⟨a,rfl,(hL i x hx).2,(hL i x hx).1⟩
end
section
variable{H:Type}{enc:TypeId×Value→H}{w:World}{base:Nat}{held:Bool}{spare:Nat→Bool}
theorem VU:Tryz.prog.cellsOf 3=1:=by kernel_rfl
theorem q56:Tryz.prog.cellsOf 26=1:=by kernel_rfl
section
variable{α β:Type}{k:Nat}{At:AtP α}
theorem QW{n:Nat}{cs:List Value}{y:DataW H×List MemPlace}(h:DataW.trod enc Tryz.prog w base spare held n 3 cs=some y):∃v:Int,cs=[.int .i64 v]:=by
 obtain⟨v,rfl,_,_⟩:=DataW.trod_int Tryz.underlying3 h;exact⟨v,rfl⟩
theorem qt8{n:Nat}{cs:List Value}{y:DataW H×List MemPlace}(h:DataW.trod enc Tryz.prog w base spare held n 3 cs=some y):∃v:Int,cs=[.int .i64 v]∧ -9223372036854775808≤v∧v≤9223372036854775807:=by
 obtain⟨v,rfl,_,hw⟩:=DataW.trod_int Tryz.underlying3 h;exact⟨v,rfl,(wf_i64 hw).1,(wf_i64 hw).2⟩
theorem jN{γ:Type}{xs:List γ}{i n:Nat}{o:Option γ}(h:o=xs[i]?)(hl:xs.length=n)(hi:i<n):∃y,o=some y:=⟨_,h.trans (Xc (by omega))⟩
end
theorem qok:Yp enc Tryz.prog w base spare held 3 1 zl:=fun n cs y p hc h _=>by
 obtain⟨v,rfl⟩:=QW h;exact⟨v,by have:=hc 0 _ rfl;rwa [Vo]at this⟩
theorem q64{n:Nat}{cs:List Value}{y:DataW H×List MemPlace}(h:DataW.trod enc Tryz.prog w base spare held n 26 cs=some y):∃A cap l,cs=[.slice A l.length cap]∧ze zl 1 w w.heap.size A cap l∧(A=none→cap=0):=
 VG Tryz.underlying26 VU (by decide) qok h
end
section
variable{H:Type}{enc:TypeId×Value→H}{w:World}{base:Nat}{held:Bool}{spare:Nat→Bool}
theorem qae:Tryz.prog.cellsOf 50=2:=by kernel_rfl
theorem q4n:Tryz.prog.cellsOf 23=1:=by kernel_rfl
theorem qk1:Yp enc Tryz.prog w base spare held 21 1 qQ:=fun n cs y p hc h _=>by
 obtain⟨v,rfl,_,hw⟩:=DataW.trod_int Tryz.underlying21 h;exact⟨v,by have:=hc 0 _ rfl;rwa [Vo]at this,(qf2 hw).1,(qf2 hw).2⟩
theorem q9o:Yp enc Tryz.prog w base spare held 50 2 zc:=fun n cs y p hc h hl=>by
 obtain⟨xs,m,_,_,_,hx,hf⟩:=DataW.trod_struct Tryz.underlying50 h
 match cs,hl with
 | [c0,c1],_=>
  obtain⟨y0,g0⟩:=jN (hf 0 _ rfl) hx (by decide);change DataW.trod enc Tryz.prog w base spare held m 3 (List.take (Tryz.prog.cellsOf 3) (List.drop 0 _))=_ at g0;obtain⟨y1,g1⟩:=jN (hf 1 _ rfl) hx (by decide);change DataW.trod enc Tryz.prog w base spare held m 3 (List.take (Tryz.prog.cellsOf 3) (List.drop 1 _))=_ at g1;rw[VU]at g0 g1;obtain⟨v0,e0⟩:=QW g0;obtain⟨v1,e1⟩:=QW g1;simp at e0 e1;subst e0 e1;refine⟨(v0,v1),?_,?_⟩
  ·have:=hc 0 _ rfl;rwa [Vo]at this
  ·have:=hc 1 _ rfl;rwa [ZK _ (by decide)]at this
theorem qk2:Yp enc Tryz.prog w base spare held 55 3 qi:=fun n cs y p hc h hl=>by
 obtain⟨xs,m,_,_,_,hx,hf⟩:=DataW.trod_struct Tryz.underlying55 h
 match cs,hl with
 | [c0,c1,c2],_=>
  obtain⟨y0,g0⟩:=jN (hf 0 _ rfl) hx (by decide);change DataW.trod enc Tryz.prog w base spare held m 3 (List.take (Tryz.prog.cellsOf 3) (List.drop 0 _))=_ at g0;obtain⟨y1,g1⟩:=jN (hf 1 _ rfl) hx (by decide);change DataW.trod enc Tryz.prog w base spare held m 3 (List.take (Tryz.prog.cellsOf 3) (List.drop 1 _))=_ at g1;obtain⟨y2,g2⟩:=jN (hf 2 _ rfl) hx (by decide);change DataW.trod enc Tryz.prog w base spare held m 3 (List.take (Tryz.prog.cellsOf 3) (List.drop 2 _))=_ at g2;rw[VU]at g0 g1 g2;obtain⟨v0,e0⟩:=QW g0;obtain⟨v1,e1⟩:=QW g1;obtain⟨v2,e2⟩:=QW g2;simp at e0 e1 e2;subst e0 e1 e2;refine⟨(v0,v1,v2),?_,?_,?_⟩
  ·have:=hc 0 _ rfl;rwa [Vo]at this
  ·have:=hc 1 _ rfl;rwa [ZK _ (by decide)]at this
  ·have:=hc 2 _ rfl;rwa [ZK _ (by decide)]at this
theorem q2v{n:Nat}{cs:List Value}{y:DataW H×List MemPlace}(h:DataW.trod enc Tryz.prog w base spare held n 23 cs=some y):∃A cap l,cs=[.slice A l.length cap]∧ze zc 2 w w.heap.size A cap l∧(A=none→cap=0):=
 VG Tryz.underlying23 qae (by decide) q9o h
theorem qrv{n:Nat}{cs:List Value}{y:DataW H×List MemPlace}(h:DataW.trod enc Tryz.prog w base spare held n 51 cs=some y):∃A cap l,cs=[.slice A l.length cap]∧ze qi 3 w w.heap.size A cap l∧(A=none→cap=0):=
 VG Tryz.underlying51 (by kernel_rfl) (by decide) qk2 h
theorem qnl{n:Nat}{cs:List Value}{y:DataW H×List MemPlace}(h:DataW.trod enc Tryz.prog w base spare held n 24 cs=some y):∃A cap l,cs=[.slice A l.length cap]∧ze qQ 1 w w.heap.size A cap l∧(A=none→cap=0):=
 VG Tryz.underlying24 (by kernel_rfl) (by decide) qk1 h
theorem qm1:Tryz.prog.cellsOf 51=1:=by kernel_rfl
theorem qhh:Yp enc Tryz.prog w base spare held 81 3 qj:=fun n cs y p hc h hl=>by
 obtain⟨xs,m,_,_,_,hx,hf⟩:=DataW.trod_struct Tryz.underlying81 h
 match cs,hl with
 | [c0,c1,c2],_=>
  obtain⟨y0,g0⟩:=jN (hf 0 _ rfl) hx (by decide);change DataW.trod enc Tryz.prog w base spare held m 3 (List.take (Tryz.prog.cellsOf 3) (List.drop 0 _))=_ at g0;obtain⟨y1,g1⟩:=jN (hf 1 _ rfl) hx (by decide);change DataW.trod enc Tryz.prog w base spare held m 23 (List.take (Tryz.prog.cellsOf 23) (List.drop 1 _))=_ at g1;obtain⟨y2,g2⟩:=jN (hf 2 _ rfl) hx (by decide);change DataW.trod enc Tryz.prog w base spare held m 26 (List.take (Tryz.prog.cellsOf 26) (List.drop 2 _))=_ at g2;rw[VU]at g0;rw[q4n]at g1;rw[q56]at g2;obtain⟨v0,e0,r0⟩:=qt8 g0;obtain⟨A1,k1,l1,e1,s1,_⟩:=q2v g1;obtain⟨A2,k2,l2,e2,s2,_⟩:=q64 g2;simp at e0 e1 e2;subst e0 e1 e2;refine⟨⟨v0,l1,l2⟩,?_,⟨A1,k1,?_,s1⟩,⟨A2,k2,?_,s2⟩,r0⟩
  ·have:=hc 0 _ rfl;rwa [Vo]at this
  ·have:=hc 1 _ rfl;rwa [ZK _ (by decide)]at this
  ·have:=hc 2 _ rfl;rwa [ZK _ (by decide)]at this
theorem qgh:Yp enc Tryz.prog w base spare held 53 8 qC:=fun n cs y p hc h hl=>by
 obtain⟨xs,m,_,_,_,hx,hf⟩:=DataW.trod_struct Tryz.underlying53 h
 match cs,hl with
 | [c0,c1,c2,c3,c4,c5,c6,c7],_=>
  obtain⟨y0,g0⟩:=jN (hf 0 _ rfl) hx (by decide);change DataW.trod enc Tryz.prog w base spare held m 23 (List.take (Tryz.prog.cellsOf 23) (List.drop 0 _))=_ at g0;obtain⟨y1,g1⟩:=jN (hf 1 _ rfl) hx (by decide);change DataW.trod enc Tryz.prog w base spare held m 23 (List.take (Tryz.prog.cellsOf 23) (List.drop 1 _))=_ at g1;obtain⟨y2,g2⟩:=jN (hf 2 _ rfl) hx (by decide);change DataW.trod enc Tryz.prog w base spare held m 50 (List.take (Tryz.prog.cellsOf 50) (List.drop 2 _))=_ at g2;obtain⟨y3,g3⟩:=jN (hf 3 _ rfl) hx (by decide);change DataW.trod enc Tryz.prog w base spare held m 51 (List.take (Tryz.prog.cellsOf 51) (List.drop 4 _))=_ at g3;obtain⟨y4,g4⟩:=jN (hf 4 _ rfl) hx (by decide);change DataW.trod enc Tryz.prog w base spare held m 3 (List.take (Tryz.prog.cellsOf 3) (List.drop 5 _))=_ at g4;obtain⟨y5,g5⟩:=jN (hf 5 _ rfl) hx (by decide);change DataW.trod enc Tryz.prog w base spare held m 3 (List.take (Tryz.prog.cellsOf 3) (List.drop 6 _))=_ at g5;obtain⟨y6,g6⟩:=jN (hf 6 _ rfl) hx (by decide);change DataW.trod enc Tryz.prog w base spare held m 26 (List.take (Tryz.prog.cellsOf 26) (List.drop 7 _))=_ at g6;rw[q4n]at g0 g1;rw[qae]at g2;rw[qm1]at g3;rw[VU]at g4 g5;rw[q56]at g6;obtain⟨A0,k0,l0,e0,s0,_⟩:=q2v g0;obtain⟨A1,k1,l1,e1,s1,_⟩:=q2v g1;obtain⟨A3,k3,l3,e3,s3,_⟩:=qrv g3;obtain⟨v4,e4⟩:=QW g4;obtain⟨v5,e5⟩:=QW g5;obtain⟨A6,k6,l6,e6,s6,_⟩:=q64 g6;obtain⟨r,hr0,hr1⟩:=q9o m _ y2 (zf p 2) (fun j u hu=>by
   match j,hu with
   |0,hu=>simp at hu;subst hu;have:=hc 2 _ rfl;rw[ZK _ (by decide)]at this;rwa [Vo]
   |1,hu=>simp at hu;subst hu;have:=hc 3 _ rfl;rw[ZK _ (by decide)]at this;rwa [ZK _ (by decide)]
   |j+2,hu=>simp at hu) g2 (by simp)
  simp at e0 e1 e3 e4 e5 e6;subst e0 e1 e3 e4 e5 e6;refine⟨⟨l0,l1,r,l3,v4,v5,l6⟩,⟨A0,k0,?_,s0⟩,⟨A1,k1,?_,s1⟩,hr0,?_,⟨A3,k3,?_,s3⟩,?_,?_,⟨A6,k6,?_,s6⟩⟩
  ·have:=hc 0 _ rfl;rwa [Vo]at this
  ·have:=hc 1 _ rfl;rwa [ZK _ (by decide)]at this
  ·exact hr1
  ·have:=hc 4 _ rfl;rwa [ZK _ (by decide)]at this
  ·have:=hc 5 _ rfl;rwa [ZK _ (by decide)]at this
  ·have:=hc 6 _ rfl;rwa [ZK _ (by decide)]at this
  ·have:=hc 7 _ rfl;rwa [ZK _ (by decide)]at this
theorem q9p{r:Reach}{b0:Nat}{v:Value}{d:DataW H}{p:List MemPlace}(hv:Value.okWide Tryz.prog w r b0 28 v)(h:DataW.Trod enc Tryz.prog w base spare held 28 v d p):
  ∃(hd:zi) (m:za),v=zp hd m∧zm w w.heap.size hd m:=by
 obtain⟨cs,rfl,hsz⟩:=okWide_struct Tryz.underlying28 hv;obtain⟨fuel,hf⟩:=h;have hsz':cs.size=7:=hsz.trans (by kernel_rfl);obtain⟨xs,m,_,_,_,hx,hf⟩:=DataW.trod_struct Tryz.underlying28 hf;obtain⟨l⟩:=cs;have hl:l.length=7:=hsz'
 match l,hl with
 | [c0,c1,c2,c3,c4,c5,c6],_=>
  obtain⟨y0,g0⟩:=jN (hf 0 _ rfl) hx (by decide);change DataW.trod enc Tryz.prog w base spare held m 22 (List.take (Tryz.prog.cellsOf 22) (List.drop 0 _))=_ at g0;obtain⟨y1,g1⟩:=jN (hf 1 _ rfl) hx (by decide);change DataW.trod enc Tryz.prog w base spare held m 23 (List.take (Tryz.prog.cellsOf 23) (List.drop 1 _))=_ at g1;obtain⟨y2,g2⟩:=jN (hf 2 _ rfl) hx (by decide);change DataW.trod enc Tryz.prog w base spare held m 24 (List.take (Tryz.prog.cellsOf 24) (List.drop 2 _))=_ at g2;obtain⟨y3,g3⟩:=jN (hf 3 _ rfl) hx (by decide);change DataW.trod enc Tryz.prog w base spare held m 25 (List.take (Tryz.prog.cellsOf 25) (List.drop 3 _))=_ at g3;obtain⟨y4,g4⟩:=jN (hf 4 _ rfl) hx (by decide);change DataW.trod enc Tryz.prog w base spare held m 26 (List.take (Tryz.prog.cellsOf 26) (List.drop 4 _))=_ at g4;obtain⟨y5,g5⟩:=jN (hf 5 _ rfl) hx (by decide);change DataW.trod enc Tryz.prog w base spare held m 3 (List.take (Tryz.prog.cellsOf 3) (List.drop 5 _))=_ at g5;obtain⟨y6,g6⟩:=jN (hf 6 _ rfl) hx (by decide);change DataW.trod enc Tryz.prog w base spare held m 3 (List.take (Tryz.prog.cellsOf 3) (List.drop 6 _))=_ at g6;rw[show Tryz.prog.cellsOf 22=1 by kernel_rfl]at g0;rw[q4n]at g1;rw[show Tryz.prog.cellsOf 24=1 by kernel_rfl]at g2;rw[show Tryz.prog.cellsOf 25=1 by kernel_rfl]at g3;rw[q56]at g4;rw[VU]at g5 g6;obtain⟨A0,k0,l0,e0,s0,_⟩:=VG Tryz.underlying22 (by kernel_rfl) (by decide) qhh g0;obtain⟨A1,k1,l1,e1,s1,_⟩:=q2v g1;obtain⟨A2,k2,l2,e2,s2,_⟩:=qnl g2;obtain⟨A3,k3,l3,e3,s3,_⟩:=VG Tryz.underlying25 (by kernel_rfl) (by decide) qgh g3;obtain⟨A4,k4,l4,e4,s4,_⟩:=q64 g4;obtain⟨v5,e5⟩:=QW g5;obtain⟨v6,e6⟩:=QW g6;simp[Value.cells]at e0 e1 e2 e3 e4 e5 e6;subst e0 e1 e2 e3 e4 e5 e6;exact⟨⟨A0,A1,A2,A3,A4,k0,k1,k2,k3,k4⟩,⟨l0,l1,l2,l3,l4,v5,v6⟩,rfl,s0,s1,s2,s3,s4⟩
end
def qua(c:zJ):Prop:=c.fields.length*16≤140737488351232∧c.slots.length*8≤140737488351232
def qu8(x:zh):Prop:=x.args.length*16≤140737488351232∧x.locals.length*16≤140737488351232∧x.code.length*24≤140737488351232∧x.phi.length*8≤140737488351232
structure ImgSized(m:za):Prop where
 classes:m.classes.length*56≤140737488351232
 statics:m.statics.length*16≤140737488351232
 ints:m.ints.length*4≤140737488351232
 methods:m.methods.length*128≤140737488351232
 entries:m.entries.length*8≤140737488351232
 ct:∀c ∈m.classes,qua c
 mt:∀x ∈m.methods,qu8 x
section
variable{α H:Type}{enc:TypeId×Value→H}{P:Program}{w:World}{base:Nat}{held:Bool}{spare:Nat→Bool}
def Light(P:Program)(t:TypeId)(d:DataW H):Prop:=∀n ∈d.weights P t,n≤140737488351232
def qfc(enc:TypeId×Value→H)(P:Program)(w:World)(base:Nat)(spare:Nat→Bool)(held:Bool)(e:TypeId)(k:Nat)(At:AtP α)(Z:α→Prop):Prop:=
 ∀(n:Nat) (cs:List Value) (y:DataW H×List MemPlace) (p:Addr),(∀j u,cs[j]? =some u→w.cell? (p.add j)=some u)→DataW.trod enc P w base spare held n e cs=some y→cs.length=k→∃x:α,At w w.heap.size p x∧(Light P e y.1→Z x)
theorem qfc.of{e:TypeId}{k:Nat}{At:AtP α}(h:Yp enc P w base spare held e k At):qfc enc P w base spare held e k At (fun _=>True):=fun n cs y p h1 h2 h3=>by
 obtain⟨x,hx⟩:=h n cs y p h1 h2 h3;exact⟨x,hx,fun _=>trivial⟩
end
section
variable{H:Type}{enc:TypeId×Value→H}{w:World}{base:Nat}{held:Bool}{spare:Nat→Bool}
end
open Go.ChangeShapes
abbrev ZY:zi:=⟨none,none,none,none,none,0,0,0,0,0⟩
abbrev q41:List Value:=[.slice none 0 0,.slice none 0 0,.slice none 0 0,.slice none 0 0,.slice none 0 0,.int .i64 0,.int .i64 0]
abbrev je:Obj:= .cells #[.slice none 0 0,.slice none 0 0,.slice none 0 0,.slice none 0 0,.slice none 0 0,.int .i64 0,.int .i64 0] 28 (0,0)
end Go.Proofs.YtcmiljnbmgkdnaaGreat
