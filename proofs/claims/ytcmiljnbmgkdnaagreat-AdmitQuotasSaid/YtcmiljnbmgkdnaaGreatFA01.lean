import Derived.RowKit
import Derived.WalkKit
import Derived.Laws.BitsLemmas
import Derived.Laws.Entries
import Derived.Laws.OwnMore
import Derived.Laws.AppendOwnNone
import Derived.Deep.AppendLies
import Derived.Deep.Draws
import Derived.Test.YtcmiljnbmgkdnaaGreatRows
import Derived.ProofKit
import Derived.OpenShut
import Derived.Outline
import Derived.Deep.QuietTactic
import Derived.BigQuiet
import Derived.Deep.Cut
import Derived.Deep.RegionHeld3
import Derived.RegionTactic
import Derived.Shelf.Sort.Plain
import Derived.Shelf.Slices.In.SortNone
import Derived.Test.YtcmiljnbmgkdnaaGreatProg
import Derived.RangeFuncCalls
import Derived.OrdersHeld
import Derived.OwnWalkIn
import Derived.Laws.BytesArg
import Derived.Deep.Slices
import Derived.Deep.Fields
import Derived.ChangeSame
import Derived.Lib.SmallJoins
import Derived.SizedLaws
import Derived.Test.YtcmiljnbmgkdnaaGreatFA00
namespace Go.Proofs.YtcmiljnbmgkdnaaGreat
set_option maxRecDepth 100000
set_option linter.unusedVariables false
set_option linter.unusedSimpArgs false
open Go.RowKit
theorem qu5{k:IntKind}{a b:Int}(h:a=b):Ending.returned (.int k a)= .returned (.int k b):=by rw[h]
theorem q5f{a b:Bool}(h:a=b):Ending.returned (.bool a)= .returned (.bool b):=by rw[h]
theorem zp(a:Addr)(n:Nat):(a.add n).block=a.block:=by
 unfold Addr.add;split<;>rfl
theorem Vc(a:Addr)(i j:Nat):(a.add i).add j=a.add (i+j):=by
 unfold Addr.add;by_cases hi:i=0<;>by_cases hj:j=0<;>simp[hi,hj,Nat.add_assoc]
def zx(w:World)(B:Nat)(A:Option Addr)(xs:List Value):Prop:=
 ∀j u,xs[j]? =some u→∃ad,A=some ad∧ad.block<B∧w.cell? (ad.add j)=some u
section
variable{w w':World}{B B':Nat}{A:Option Addr}{xs:List Value}
theorem zx.nil:zx w B A []:=fun _ _ h=>by simp at h
theorem zx.at_{k:Nat}(h:zx w B A xs)(hk:k<xs.length):∃ad,A=some ad∧ad.block<B∧w.cell? (ad.add k)=some xs[k]:=
 h k _ (Xc hk)
theorem zx.keep(h:zx w B A xs)(hk:∀p:Addr,p.block<B→w'.cell? p=w.cell? p):zx w' B A xs:=fun j u hu=>by
 obtain⟨ad,e,hb,hc⟩:=h j u hu;exact⟨ad,e,hb,(hk _ (by rw[zp];exact hb)).trans hc⟩
theorem zx.more(h:zx w B A xs)(hB:B≤B'):zx w B' A xs:=fun j u hu=>by
 obtain⟨ad,e,hb,hc⟩:=h j u hu;exact⟨ad,e,Xp hb hB,hc⟩
theorem zx.below(h:zx w B A xs)(hb:Below B w w'):zx w' B A xs:=h.keep fun _ hp=>hb.cell hp
theorem zx.below_to{C:Nat}(h:zx w B A xs)(hb:Below C w w')(hC:B≤C):zx w' B A xs:=h.keep fun _ hp=>hb.cell (Xp hp hC)
theorem zx.drew(h:zx w B A xs):zx w.drew B A xs:=h
theorem zx.drewN(h:zx w B A xs)(k:Nat):zx (w.drewN k) B A xs:=h
theorem zx.drop_(h:zx w B A xs)(k:Nat):zx w B (A.map (·.add k)) (xs.drop k):=fun j u hu=>by
 rw[List.getElem?_drop]at hu;obtain⟨ad,e,hb,hc⟩:=h _ _ hu;exact⟨ad.add k,by rw[e];rfl,by rw[zp];exact hb,by rw[Vc];exact hc⟩
theorem zx.take_(h:zx w B A xs)(k:Nat):zx w B A (xs.take k):=fun j u hu=>by
 rw[List.getElem?_take]at hu;split at hu
 ·exact h j u hu
 ·cases hu
theorem zx.cut(h:zx w B A xs){k cap:Nat}(hc:xs.length≤cap):zx w B (if cap=k then A else A.map (·.add k)) (xs.drop k):=by
 split
 ·rename_i e;rw[List.drop_eq_nil_of_le (by omega)];exact zx.nil
 ·exact h.drop_ k
theorem zx.of_own{base e n c:Nat}(h:w.ownsRow base e 1 (.slice A n c) n xs):zx w w.heap.size A xs:=by
 rcases h.2 with⟨hv,hn⟩|⟨g,cap,cur,hv,hb,hh,h1,h2,h3,h4⟩
 ·have:xs=[]:=XZ (by rw[h.1,hn]);rw[this];exact zx.nil
 ·intro j u hu;have hA:A=some ⟨g,0,none⟩:=by injection hv
  have hg:g<w.heap.size:=by
   rcases Xj g w.heap.size with hlt|hge
   ·exact hlt
   ·rw[Array.getElem?_eq_none hge]at hh;cases hh
  refine⟨⟨g,0,none⟩,hA,hg,?_⟩;have hju:cur.toList[j]? =some u:=by
   rw[←h4,List.getElem?_take]at hu;split at hu
   ·exact hu
   ·cases hu
  have hcell:w.cell? ⟨g,j,none⟩=cur[j]? :=cell_of_row w g j cur e (0,0) hh;have:(Addr.add ⟨g,0,none⟩ j)=⟨g,j,none⟩:=by
   unfold Addr.add;split
   ·rename_i h0;subst h0;rfl
   ·simp
  rw[this,hcell,←hju];simp
end
theorem q05{w:World}{base e n:Nat}{v:Value}{xs:List Value}(h:w.ownsRow base e 1 v n xs):∃A c,v= .slice A n c∧zx w w.heap.size A xs:=by
 rcases h.2 with⟨rfl,rfl⟩|⟨g,cap,cur,rfl,_⟩
 ·exact⟨none,0,rfl,zx.of_own h⟩
 ·exact⟨_,cap,rfl,zx.of_own h⟩
theorem jc{w:World}{base base' e size n:Nat}{v:Value}{xs:List Value}(h:w.ownsRow base e size v n xs)(hb:base'≤base):w.ownsRow base' e size v n xs:=by
 refine⟨h.1,?_⟩;rcases h.2 with h0|⟨g,cap,cur,hv,hg,rest⟩
 ·exact .inl h0
 ·exact .inr ⟨g,cap,cur,hv,Xg hb hg,rest⟩
theorem qo{w w':World}{base e size n B:Nat}{v:Value}{xs:List Value}(h:w.ownsRow base e size v n xs)(hb:Below B w w')(hB:∀g,v.ownBlock=some g→g<B):w'.ownsRow base e size v n xs:=by
 refine⟨h.1,?_⟩;rcases h.2 with h0|⟨g,cap,cur,hv,hg,hh,rest⟩
 ·exact .inl h0
 ·refine .inr ⟨g,cap,cur,hv,hg,?_,rest⟩;rw[hb.block g (hB g (by rw[hv];rfl))];exact hh
theorem zZ{w:World}{base e size n:Nat}{v:Value}{xs:List Value}(h:w.ownsRow base e size v n xs):∀g,v.ownBlock=some g→g<w.heap.size:=by
 intro g hg;rcases h.2 with⟨rfl,_⟩|⟨g',cap,cur,rfl,hb,hh,_⟩
 ·simp[Value.ownBlock]at hg
 ·have:g'=g:=by simpa[Value.ownBlock]using hg
  subst this;rcases Xj g' w.heap.size with hlt|hge
  ·exact hlt
  ·rw[Array.getElem?_eq_none hge]at hh;cases hh
theorem Jn(w:World)(T:TypeId):(w.alloc (.cells #[] T)).ownsRow w.heap.size T 1 (.slice (some ⟨w.heap.size,0,none⟩) 0 0) 0 []:=
 ⟨rfl,.inr ⟨w.heap.size,0,#[],rfl,zn _,XO _ _,zn _,by unfold maxLen;omega,rfl,rfl⟩⟩
abbrev zA(k n:Int):Value:= .agg #[.int .i64 k,.int .i64 n]
def qD(w:World)(B:Nat)(A:Option Addr)(sup:List Int):Prop:=
 ∀i s,sup[i]? =some s→∃ad,A=some ad∧ad.block<B∧w.cell? (ad.add (i*3))=some (.int .i64 s)
theorem qD.below_to{w w':World}{B C:Nat}{A:Option Addr}{sup:List Int}(h:qD w B A sup)(hb:Below C w w')(hC:B≤C):qD w' B A sup:=fun i s hs=>by
 obtain⟨ad,e,hlt,hc⟩:=h i s hs;exact⟨ad,e,hlt,(hb.cell (by rw[zp];omega)).trans hc⟩
theorem qny{w:World}{B g:Nat}{xs:List Value}(h:zx w B (some ⟨g,0,none⟩) xs)(j:Nat)(hj:j<xs.length):w.cell? ⟨g,j,none⟩=some xs[j]:=by
 obtain⟨ad,e,_,hc⟩:=h.at_ hj;injection e with e;subst e;have e:(Addr.add ⟨g,0,none⟩ j)=⟨g,j,none⟩:=by
  unfold Addr.add;split
  ·rename_i h0;subst h0;rfl
  ·simp
 rw[←e];exact hc
theorem qZ{B:Nat}{a w:World}(h:Below B a w)(n:Nat):Below B a (w.drewN n):=⟨h.os,h.tape,h.output,h.size,h.block⟩
def q6n(w:World)(p:Addr)(x y z:Int):Prop:=w.cell? p=some (.int .i64 x)∧w.cell? ⟨p.block,p.off+1,none⟩=some (.int .i64 y)∧w.cell? ⟨p.block,p.off+2,none⟩=some (.int .i64 z)
theorem q6n.keep{w w':World}{p:Addr}{x y z:Int}{B:Nat}(h:q6n w p x y z)(hb:Below B w w')(hp:p.block<B):q6n w' p x y z:=
 ⟨(hb.cell hp).trans h.1,(hb.cell (p:=⟨p.block,p.off+1,none⟩) hp).trans h.2.1,(hb.cell (p:=⟨p.block,p.off+2,none⟩) hp).trans h.2.2⟩
abbrev AtP(α:Type):=World→Nat→Addr→α→Prop
def vy{α:Type}(At:AtP α):Prop:=∀ ⦃w w':World⦄ ⦃B C:Nat⦄ ⦃p:Addr⦄ ⦃x:α⦄,At w B p x→p.block<B→B≤C→(∀q:Addr,q.block<B→w'.cell? q=w.cell? q)→At w' C p x
def qB{α:Type}(At:AtP α)(k:Nat)(w:World)(B:Nat)(A:Option Addr)(l:List α):Prop:=
 ∀i x,l[i]? =some x→∃ad,A=some ad∧ad.block<B∧At w B (ad.add (i*k)) x
section
variable{α:Type}{At:AtP α}{k:Nat}{w w':World}{B C:Nat}{A:Option Addr}{l:List α}
theorem qB.nil:qB At k w B A []:=fun _ _ h=>by simp at h
theorem qB.keep'(hK:vy At)(h:qB At k w B A l)(hC:B≤C)(hc:∀q:Addr,q.block<B→w'.cell? q=w.cell? q):qB At k w' C A l:=fun i x hi=>by
 obtain⟨ad,e,hb,ha⟩:=h i x hi;exact⟨ad,e,Xp hb hC,hK ha (by rw[zp];exact hb) hC hc⟩
theorem qB.below(hK:vy At)(h:qB At k w B A l)(hb:Below B w w'):qB At k w' B A l:=h.keep' hK (zn _) fun _ hq=>hb.cell hq
theorem qB.below_to(hK:vy At)(h:qB At k w B A l)(hb:Below C w w')(hC:B≤C):qB At k w' B A l:=h.keep' hK (zn _) fun _ hq=>hb.cell (Xp hq hC)
theorem qB.more(hK:vy At)(h:qB At k w B A l)(hC:B≤C):qB At k w C A l:=h.keep' hK hC fun _ _=>rfl
theorem qB.at_{i:Nat}(h:qB At k w B A l)(hi:i<l.length):∃ad,A=some ad∧ad.block<B∧At w B (ad.add (i*k)) l[i]:=h i _ (Xc hi)
theorem qB.take_(h:qB At k w B A l)(n:Nat):qB At k w B A (l.take n):=fun i x hi=>by
 rw[List.getElem?_take]at hi;split at hi
 ·exact h i x hi
 ·cases hi
end
abbrev zc(p:Addr)(n:Nat):Addr:=⟨p.block,p.off+n,none⟩
def zq:AtP Int:=fun w _ p n=>w.cell? p=some (.int .i64 n)
theorem zq.keeps:vy zq:=fun _ _ _ _ p _ h hp _ hc=>(hc _ hp).trans h
def JD:AtP Int:=fun w _ p n=>w.cell? p=some (.int .i32 n)∧ -2147483648≤n∧n≤2147483647
theorem JD.keeps:vy JD:=fun _ _ _ _ p _ h hp _ hc=>⟨(hc _ hp).trans h.1,h.2⟩
def zh:AtP (Int×Int):=fun w _ p t=>w.cell? p=some (.int .i64 t.1)∧w.cell? (zc p 1)=some (.int .i64 t.2)
theorem zh.keeps:vy zh:=fun _ _ _ _ p _ h hp _ hc=>⟨(hc _ hp).trans h.1,(hc (zc p 1) hp).trans h.2⟩
def jb:AtP (Int×Int×Int):=fun w _ p i=>w.cell? p=some (.int .i64 i.1)∧w.cell? (zc p 1)=some (.int .i64 i.2.1)∧w.cell? (zc p 2)=some (.int .i64 i.2.2)
theorem jb.keeps:vy jb:=fun _ _ _ _ p _ h hp _ hc=>⟨(hc _ hp).trans h.1,(hc (zc p 1) hp).trans h.2.1,(hc (zc p 2) hp).trans h.2.2⟩
structure zd{α:Type}(At:AtP α)(k:Nat)(w:World)(B:Nat)(A:Option Addr)(cap:Nat)(l:List α):Prop where
 le:l.length≤cap
 cap:cap≤9223372036854775807
 row:qB At k w B A l
def zG{α:Type}(At:AtP α)(k:Nat):AtP (List α):=fun w B p l=>∃A cap,w.cell? p=some (.slice A l.length cap)∧zd At k w B A cap l
theorem zd.keep'{α:Type}{At:AtP α}(hK:vy At){k:Nat}{w w':World}{B C:Nat}{A:Option Addr}{cap:Nat}{l:List α}(h:zd At k w B A cap l)(hC:B≤C)(hc:∀q:Addr,q.block<B→w'.cell? q=w.cell? q):zd At k w' C A cap l:=
 ⟨h.le,h.cap,h.row.keep' hK hC hc⟩
theorem zd.below_to{α:Type}{At:AtP α}(hK:vy At){k:Nat}{w w':World}{B C:Nat}{A:Option Addr}{cap:Nat}{l:List α}(h:zd At k w B A cap l)(hb:Below C w w')(hC:B≤C):zd At k w' B A cap l:=
 h.keep' hK (zn _) fun _ hq=>hb.cell (Xp hq hC)
theorem zG.keeps{α:Type}{At:AtP α}(hK:vy At)(k:Nat):vy (zG At k):=fun _ _ _ _ _ _ ⟨A,cap,h,hs⟩ hp hC hc=>⟨A,cap,(hc _ hp).trans h,hs.keep' hK hC hc⟩
structure zO where
 sup:Int
 fields:List (Int×Int)
 slots:List Int
deriving DecidableEq
structure zf where
 args:List (Int×Int)
 locals:List (Int×Int)
 ret:Int×Int
 code:List (Int×Int×Int)
 depth:Int
 pot:Int
 phi:List Int
deriving DecidableEq
structure za where
 classes:List zO
 statics:List (Int×Int)
 ints:List Int
 methods:List zf
 entries:List Int
 stack:Int
 heap:Int
deriving DecidableEq
structure jW(w:World)(B:Nat)(p:Addr)(c:zO):Prop where
 sup:w.cell? p=some (.int .i64 c.sup)
 fields:zG zh 2 w B (zc p 1) c.fields
 slots:zG zq 1 w B (zc p 2) c.slots
 rng: -9223372036854775808≤c.sup∧c.sup≤9223372036854775807
theorem jW.keeps:vy jW:=fun _ _ _ _ _ _ h hp hC hc=>⟨(hc _ hp).trans h.sup,zG.keeps zh.keeps 2 h.fields hp hC hc,zG.keeps zq.keeps 1 h.slots hp hC hc,h.rng⟩
structure vN(w:World)(B:Nat)(p:Addr)(x:zf):Prop where
 args:zG zh 2 w B p x.args
 locals:zG zh 2 w B (zc p 1) x.locals
 ret0:w.cell? (zc p 2)=some (.int .i64 x.ret.1)
 ret1:w.cell? (zc p 3)=some (.int .i64 x.ret.2)
 code:zG jb 3 w B (zc p 4) x.code
 depth:w.cell? (zc p 5)=some (.int .i64 x.depth)
 pot:w.cell? (zc p 6)=some (.int .i64 x.pot)
 phi:zG zq 1 w B (zc p 7) x.phi
theorem vN.keeps:vy vN:=fun _ _ _ _ p _ h hp hC hc=>
 ⟨zG.keeps zh.keeps 2 h.args hp hC hc,zG.keeps zh.keeps 2 h.locals hp hC hc,(hc (zc p 2) hp).trans h.ret0,(hc (zc p 3) hp).trans h.ret1,zG.keeps jb.keeps 3 h.code hp hC hc,
  (hc (zc p 5) hp).trans h.depth,(hc (zc p 6) hp).trans h.pot,zG.keeps zq.keeps 1 h.phi hp hC hc⟩
structure zg where
 A0:Option Addr
 A1:Option Addr
 A2:Option Addr
 A3:Option Addr
 A4:Option Addr
 c0:Nat
 c1:Nat
 c2:Nat
 c3:Nat
 c4:Nat
abbrev zk(h:zg)(m:za):Value:=
 .agg #[.slice h.A0 m.classes.length h.c0,.slice h.A1 m.statics.length h.c1,.slice h.A2 m.ints.length h.c2,.slice h.A3 m.methods.length h.c3,.slice h.A4 m.entries.length h.c4,.int .i64 m.stack,.int .i64 m.heap]
structure zi(w:World)(B:Nat)(h:zg)(m:za):Prop where
 classes:zd jW 3 w B h.A0 h.c0 m.classes
 statics:zd zh 2 w B h.A1 h.c1 m.statics
 ints:zd JD 1 w B h.A2 h.c2 m.ints
 methods:zd vN 8 w B h.A3 h.c3 m.methods
 entries:zd zq 1 w B h.A4 h.c4 m.entries
theorem zi.keep'{w w':World}{B C:Nat}{h:zg}{m:za}(H:zi w B h m)(hC:B≤C)(hc:∀q:Addr,q.block<B→w'.cell? q=w.cell? q):zi w' C h m:=
 ⟨H.classes.keep' jW.keeps hC hc,H.statics.keep' zh.keeps hC hc,H.ints.keep' JD.keeps hC hc,H.methods.keep' vN.keeps hC hc,H.entries.keep' zq.keeps hC hc⟩
theorem zi.below_to{w w':World}{B C:Nat}{h:zg}{m:za}(H:zi w B h m)(hb:Below C w w')(hC:B≤C):zi w' B h m:=H.keep' (zn _) fun _ hq=>hb.cell (Xp hq hC)
theorem zi.more{w:World}{B C:Nat}{h:zg}{m:za}(H:zi w B h m)(hC:B≤C):zi w C h m:=H.keep' hC fun _ _=>rfl
open Go.ChangeShapes Go.WideShapes Go.ChangeAt Go.RowKit
def zR(l:List Int)(n:Int):Bool:=decide (n ∈l)
theorem qum(n:Int):zR [] n=false:=rfl
theorem Ju(l:List Int)(n:Int)(A:Option Addr)(cap B:Nat)(w:World)(hl:l.length≤9223372036854775807)(h:zx w B A (l.map (Value.int .i64))):
  Calls Tryz.prog 66 #[.slice A l.length cap,.int .i64 n] w fun e w'=>e= .returned (.bool (zR l n))∧w=w':=by
 have HL:=zH h;clear h;go_enter Tryz.func66,Tryz.ntmps66;go_wp2
 go_loop [5] (fun i=>∃k:Nat,k≤l.length∧i= .int .i64 k∧zR l n=zR (l.drop k) n) (fun i=>l.length - (intOf i).toNat)
 case atStart=>exact⟨0,by omega,rfl,rfl⟩
 case round=>
  obtain⟨k,hk,rfl,hn⟩:=hrel;have HN:=zH hn;clear hn;by_cases hlt:k<l.length
  ·obtain⟨ad,rfl,_,hc⟩:=HL.out.at_ (k:=k) (by simpa using hlt);have E1:=zH (Wr hlt);simp only[List.getElem_map]at hc;generalize l[k]=b at*
   by_cases hb:b=n
   ·subst hb;have R:=zH (show zR l b=true by rw[HN.out,E1.out];simp[zR]);clear HN E1;go_wp2_with fail
    go_ret;refine⟨?_,rfl⟩;rw[R.out];rfl
   ·have R:=zH (show zR l n=zR (l.drop (k+1)) n by
     rw[HN.out,E1.out];unfold zR;simp only[Xz];rw[Wa];constructor
     ·rintro(h|h)
      ·exact absurd h.symm hb
      ·exact h
     ·exact .inr)
    clear HN E1;go_wp2_with fail
    go_round
    case rel=>exact⟨k+1,by omega,by go_num,R.out⟩
    case measure=>simp[intOf];omega
  ·have R:=zH (show zR l n=false by rw[HN.out,List.drop_eq_nil_of_le (by omega)];rfl);clear HN;go_wp2_with fail
   go_ret;refine⟨?_,rfl⟩;rw[R.out];rfl
def zW(w:World)(N:Nat)(vs:List Value):Prop:=∀i v,vs[i]? =some v→w.cell? ⟨N,i,none⟩=some v
theorem zW.keep{w w':World}{N B:Nat}{vs:List Value}(H:zW w N vs)(hb:Below B w w')(hN:N<B):zW w' N vs:=fun i v h=>(hb.cell (p:=⟨N,i,none⟩) hN).trans (H i v h)
theorem qa(w:World)(vs:List Value)(T:TypeId):zW (w.alloc (.cells vs.toArray T)) w.heap.size vs:=fun i v h=>by
 rw[World.cell?_alloc_at _ _ _ _ rfl];simpa using h
theorem zM{w:World}{N:Nat}{v0 v1 v2:Value}{l:List Value}(h:zW w N (v0::v1::v2::l)):w.cell? ⟨N,0,none⟩=some v0∧w.cell? ⟨N,1,none⟩=some v1∧w.cell? ⟨N,2,none⟩=some v2:=⟨h 0 _ rfl,h 1 _ rfl,h 2 _ rfl⟩
theorem qt{w:World}{N:Nat}{v0 v1 v2 v3 v4 v5 v6:Value}{l:List Value}(h:zW w N (v0::v1::v2::v3::v4::v5::v6::l)):w.cell? ⟨N,0,none⟩=some v0∧w.cell? ⟨N,1,none⟩=some v1∧w.cell? ⟨N,2,none⟩=some v2∧w.cell? ⟨N,3,none⟩=some v3∧w.cell? ⟨N,4,none⟩=some v4∧w.cell? ⟨N,5,none⟩=some v5∧w.cell? ⟨N,6,none⟩=some v6:=⟨h 0 _ rfl,h 1 _ rfl,h 2 _ rfl,h 3 _ rfl,h 4 _ rfl,h 5 _ rfl,h 6 _ rfl⟩
theorem ck8{w:World}{N:Nat}{v0 v1 v2 v3 v4 v5 v6 v7:Value}{l:List Value}(h:zW w N (v0::v1::v2::v3::v4::v5::v6::v7::l)):w.cell? ⟨N,0,none⟩=some v0∧w.cell? ⟨N,1,none⟩=some v1∧w.cell? ⟨N,2,none⟩=some v2∧w.cell? ⟨N,3,none⟩=some v3∧w.cell? ⟨N,4,none⟩=some v4∧w.cell? ⟨N,5,none⟩=some v5∧w.cell? ⟨N,6,none⟩=some v6∧w.cell? ⟨N,7,none⟩=some v7:=⟨h 0 _ rfl,h 1 _ rfl,h 2 _ rfl,h 3 _ rfl,h 4 _ rfl,h 5 _ rfl,h 6 _ rfl,h 7 _ rfl⟩
theorem zl{w0 w w':World}(H:Hid (Below w0.heap.size w0 w))(hb:Below w.heap.size w w'):Hid (Below w0.heap.size w0 w'):=zH (H.out.trans (hb.mono H.out.size))
def Zs(w:World)(N:Nat)(h:zg)(m:za):Prop:=
 w.cell? ⟨N,0,none⟩=some (.slice h.A0 m.classes.length h.c0)∧w.cell? ⟨N,1,none⟩=some (.slice h.A1 m.statics.length h.c1)∧w.cell? ⟨N,2,none⟩=some (.slice h.A2 m.ints.length h.c2)∧
 w.cell? ⟨N,3,none⟩=some (.slice h.A3 m.methods.length h.c3)∧w.cell? ⟨N,4,none⟩=some (.slice h.A4 m.entries.length h.c4)∧w.cell? ⟨N,5,none⟩=some (.int .i64 m.stack)∧w.cell? ⟨N,6,none⟩=some (.int .i64 m.heap)
theorem Zs.keep{w w':World}{N B:Nat}{h:zg}{m:za}(H:Zs w N h m)(hb:Below B w w')(hN:N<B):Zs w' N h m:=by
 obtain⟨h0,h1,h2,h3,h4,h5,h6⟩:=H;have c:∀i,w'.cell? ⟨N,i,none⟩=w.cell? ⟨N,i,none⟩:=fun i=>hb.cell (p:=⟨N,i,none⟩) hN;exact⟨(c 0).trans h0,(c 1).trans h1,(c 2).trans h2,(c 3).trans h3,(c 4).trans h4,(c 5).trans h5,(c 6).trans h6⟩
abbrev zo(h:zg)(m:za):Obj:=
 .cells #[.slice h.A0 m.classes.length h.c0,.slice h.A1 m.statics.length h.c1,.slice h.A2 m.ints.length h.c2,.slice h.A3 m.methods.length h.c3,.slice h.A4 m.entries.length h.c4,.int .i64 m.stack,.int .i64 m.heap] 28
theorem zX(w:World)(h:zg)(m:za):Zs (w.alloc (zo h m)) w.heap.size h m:=by
 refine⟨?_,?_,?_,?_,?_,?_,?_⟩<;>(rw[World.cell?_alloc_at _ _ _ _ rfl];rfl)
theorem jT{α:Type}{f:α→Bool}{l:List α}{k:Nat}(hk:k<l.length)(h:∀x ∈l.take k,f x=true)(hx:f l[k]=true):∀x ∈l.take (k+1),f x=true:=by
 rw[XA,Xc hk];intro x hm;rcases Xs.mp hm with g|g
 ·exact h x g
 ·simp at g;subst g;exact hx
theorem vb{α:Type}{f:α→Bool}{l:List α}{k:Nat}(hk:k<l.length)(hx:f l[k]=false):l.all f=false:=by
 rw[X9];intro h;have:=Xy.mp h _ (Xd hk);rw[hx]at this;cases this
theorem vc{α:Type}{f:α→Bool}{l:List α}{k:Nat}(h:∀x ∈l.take k,f x=true)(hk:l.length≤k):l.all f=true:=by
 rw[XH hk]at h;exact Xy.mpr h
structure Boxed(w:World)(g:Nat)(h:zg)(m:za):Prop where
 box:Zs w g h m
 lt:g<w.heap.size
 img:zi w w.heap.size h m
theorem zi.now{w w':World}{h:zg}{m:za}(H:zi w w.heap.size h m)(hb:Below w.heap.size w w'):zi w' w'.heap.size h m:=
 (H.below_to hb (zn _)).more hb.size
theorem Boxed.keep{w w':World}{g:Nat}{h:zg}{m:za}(H:Boxed w g h m)(hb:Below w.heap.size w w'):Boxed w' g h m:=
 ⟨H.box.keep hb H.lt,Xp H.lt hb.size,H.img.now hb⟩
theorem Boxed.new{w:World}{h:zg}{m:za}(H:zi w w.heap.size h m):Boxed (w.alloc (zo h m)) w.heap.size h m:=
 ⟨zX w h m,by simp,H.now ((zb _ _).alloc (zn _) _)⟩
theorem jz{w:World}{h:zg}{m:za}:Below w.heap.size w (w.alloc (zo h m)):=(zb _ _).alloc (zn _) _
theorem mvT{P:Program}{md:Region.Mode}{ops:Array Oper}{Q:Exit→Act→World→Prop}{S:World→Prop}{fuel:Nat}{listed:Array Bool}{a:Act}{w:World}(i:Nat){oi:Oper}{v:Value}(hS:S w)(hi:ops[i]? =some oi:=by rfl)
  (hs:Region.noSelect ops=true:=by kernel_rfl) (hf:Region.free md ops listed i=true:=by kernel_rfl) (hr:(Region.ready md ops listed).contains i=true:=by kernel_rfl)
  (hQ:∀c a w,Q (.panic c) (a.put oi.dst v) w→Q (.panic c) a w:=by exact fun _ _ _ h=>h) (hy:YieldsIf P ops S oi v a:=by(refine Or.inl ⟨by rfl,?_⟩;intro w hSw;(try dsimp only at hSw);go_simp<;>with_reducible rfl))
  (h:wpAnyH P md ops Q S fuel (listed.setIfInBounds i true) (a.put oi.dst v) w):wpAnyH P md ops Q S (fuel+1) listed a w:=wpAnyH_take hi hs hf hr hQ hy hS h
theorem mvU{P:Program}{md:Region.Mode}{ops:Array Oper}{Q:Exit→Act→World→Prop}{S:World→Prop}{fuel:Nat}{listed:Array Bool}{a:Act}{w:World}(i:Nat){oi:Oper}(hS:S w)(hi:ops[i]? =some oi:=by rfl)
  (hs:Region.noSelect ops=true:=by kernel_rfl) (hf:Region.free md ops listed i=true:=by kernel_rfl) (hr:(Region.ready md ops listed).contains i=true:=by kernel_rfl)
  (hQ:∀c a w,Q (.panic c) (a.put oi.dst undef) w→Q (.panic c) a w:=by exact fun _ _ _ h=>h) (hy:YieldsIf P ops S oi undef a:=by exact Or.inr ⟨by rfl,rfl⟩)
  (h:wpAnyH P md ops Q S fuel (listed.setIfInBounds i true) (a.put oi.dst undef) w):wpAnyH P md ops Q S (fuel+1) listed a w:=wpAnyH_take hi hs hf hr hQ hy hS h
theorem sA{α:Type}{xs:List α}{i:Nat}(h:i<xs.toArray.size):xs.toArray[i]=xs[i]'(by simpa using h):=List.getElem_toArray h
theorem sB{α:Type}{a:α}{ys:List α}{i:Nat}{h:i+1<(a::ys).length}:(a::ys)[i+1]'h=ys[i]'(Nat.lt_of_succ_lt_succ h):=rfl
theorem sC{α:Type}{a:α}{ys:List α}{h:0<(a::ys).length}:(a::ys)[0]'h=a:=rfl
theorem sD{α:Type}{l:List α}{i:Nat}{a:α}:l.toArray.setIfInBounds i a=(l.set i a).toArray:=List.setIfInBounds_toArray ..
theorem sE{α:Type}{x:α}{xs:List α}{a:α}:(x::xs).set 0 a=a::xs:=rfl
theorem sF{α:Type}{x:α}{xs:List α}{i:Nat}{a:α}:(x::xs).set (i+1) a=x::xs.set i a:=rfl
theorem mT{P:Program}{md:Region.Mode}{ops:Array Oper}{Q:Exit→Act→World→Prop}{S:World→Prop}{fuel:Nat}{listed listed':Array Bool}{a a':Act}{w:World}(i:Nat){oi:Oper}{v:Value}(hS:S w:=by assumption)(hi:ops[i]? =some oi:=by rfl)
  (hs:Region.noSelect ops=true:=by kernel_rfl) (hf:Region.free md ops listed i=true:=by kernel_rfl) (hr:(Region.ready md ops listed).contains i=true:=by kernel_rfl)
  (hQ:∀c a w,Q (.panic c) (a.put oi.dst v) w→Q (.panic c) a w:=by exact fun _ _ _ h=>h) (hy:YieldsIf P ops S oi v a:=by(refine Or.inl ⟨by rfl,?_⟩;intro w hSw;(try dsimp only at hSw);go_simp<;>with_reducible rfl))
  (hl:listed.setIfInBounds i true=listed':=by(first|(simp only[sA,sB,sC,Act.put,sD,sE,sF]<;>rfl)|rfl))
  (ha:a.put oi.dst v=a':=by(first|(simp only[sA,sB,sC,Act.put,sD,sE,sF]<;>rfl)|rfl))
  (h:wpAnyH P md ops Q S fuel listed' a' w):wpAnyH P md ops Q S (fuel+1) listed a w:=mvT i hS hi hs hf hr hQ hy (by rw[hl,ha];exact h)
theorem mU{P:Program}{md:Region.Mode}{ops:Array Oper}{Q:Exit→Act→World→Prop}{S:World→Prop}{fuel:Nat}{listed listed':Array Bool}{a a':Act}{w:World}(i:Nat){oi:Oper}(hS:S w:=by assumption)(hi:ops[i]? =some oi:=by rfl)
  (hs:Region.noSelect ops=true:=by kernel_rfl) (hf:Region.free md ops listed i=true:=by kernel_rfl) (hr:(Region.ready md ops listed).contains i=true:=by kernel_rfl)
  (hQ:∀c a w,Q (.panic c) (a.put oi.dst undef) w→Q (.panic c) a w:=by exact fun _ _ _ h=>h) (hy:YieldsIf P ops S oi undef a:=by exact Or.inr ⟨by rfl,rfl⟩)
  (hl:listed.setIfInBounds i true=listed':=by(first|(simp only[sA,sB,sC,Act.put,sD,sE,sF]<;>rfl)|rfl))
  (ha:a.put oi.dst undef=a':=by(first|(simp only[sA,sB,sC,Act.put,sD,sE,sF]<;>rfl)|rfl))
  (h:wpAnyH P md ops Q S fuel listed' a' w):wpAnyH P md ops Q S (fuel+1) listed a w:=mvU i hS hi hs hf hr hQ hy (by rw[hl,ha];exact h)
structure qh where
 A0:Option Addr
 A1:Option Addr
 A4:Option Addr
 A7:Option Addr
 k0:Nat
 k1:Nat
 k4:Nat
 k7:Nat
abbrev jH(h:qh)(x:zf):Value:=
 .agg #[.slice h.A0 x.args.length h.k0,.slice h.A1 x.locals.length h.k1,.int .i64 x.ret.1,.int .i64 x.ret.2,.slice h.A4 x.code.length h.k4,.int .i64 x.depth,.int .i64 x.pot,.slice h.A7 x.phi.length h.k7]
abbrev zL(h:qh)(x:zf):List Value:=
 [.slice h.A0 x.args.length h.k0,.slice h.A1 x.locals.length h.k1,.int .i64 x.ret.1,.int .i64 x.ret.2,.slice h.A4 x.code.length h.k4,.int .i64 x.depth,.int .i64 x.pot,.slice h.A7 x.phi.length h.k7]
structure qL(w:World)(B:Nat)(h:qh)(x:zf):Prop where
 args:zd zh 2 w B h.A0 h.k0 x.args
 locals:zd zh 2 w B h.A1 h.k1 x.locals
 code:zd jb 3 w B h.A4 h.k4 x.code
 phi:zd zq 1 w B h.A7 h.k7 x.phi
theorem qL.now{w w':World}{h:qh}{x:zf}(H:qL w w.heap.size h x)(hb:Below w.heap.size w w'):qL w' w'.heap.size h x:=
 ⟨(H.args.below_to zh.keeps hb (zn _)).keep' zh.keeps hb.size (fun _ _=>rfl),(H.locals.below_to zh.keeps hb (zn _)).keep' zh.keeps hb.size (fun _ _=>rfl),
  (H.code.below_to jb.keeps hb (zn _)).keep' jb.keeps hb.size (fun _ _=>rfl),(H.phi.below_to zq.keeps hb (zn _)).keep' zq.keeps hb.size (fun _ _=>rfl)⟩
section
variable{α:Type}
theorem q75{l m:List α}(h:l.length=m.length)(k:Nat)(hk:l.take k=m.take k)(hl:l.length≤k):l=m:=by
 rw[XH hl,XH (by omega)]at hk;exact hk
theorem q98{l m:List α}{k:Nat}(hl:k<l.length)(hm:k<m.length)(h:¬l[k]=m[k]):¬l=m:=fun e=>by subst e;exact h rfl
theorem qa9{l m:List α}{k:Nat}(hl:k<l.length)(hm:k<m.length)(hk:l.take k=m.take k)(h:l[k]=m[k]):l.take (k+1)=m.take (k+1):=by
 rw[XA,XA,Xc hl,Xc hm,hk,h]
end
def ze(w:World)(g:Nat)(vs:List Value)(T:TypeId):Prop:=w.heap[g]? =some (.cells vs.toArray T (0,0))
theorem ze.new(w:World)(vs:List Value)(T:TypeId):ze (w.alloc (.cells vs.toArray T)) w.heap.size vs T:=XO _ _
theorem ze.at_{w:World}{N:Nat}(hN:w.heap.size=N)(vs:List Value)(T:TypeId):ze (w.alloc (.cells vs.toArray T)) N vs T:=by
 subst hN;exact ze.new w vs T
theorem ze.lt{w:World}{g:Nat}{vs:List Value}{T:TypeId}(h:ze w g vs T):g<w.heap.size:=by
 rcases Xj g w.heap.size with x|x
 ·exact x
 ·unfold ze at h;rw[Array.getElem?_eq_none x]at h;cases h
theorem ze.keep{w w':World}{g B:Nat}{vs:List Value}{T:TypeId}(h:ze w g vs T)(hb:Below B w w')(hg:g<B):ze w' g vs T:=(hb.block g hg).trans h
theorem ze.cells{w:World}{g:Nat}{vs:List Value}{T:TypeId}(h:ze w g vs T):zW w g vs:=fun i v hi=>by
 unfold ze at h;simp[World.cell?,h,hi]
theorem ze.free{w:World}{g:Nat}{vs:List Value}{T:TypeId}(h:ze w g vs T)(i:Nat):w.frozen? ⟨g,i,none⟩=false:=by
 unfold ze at h;simp[World.frozen?,h]
theorem ze.set{w:World}{g:Nat}{vs:List Value}{T:TypeId}(h:ze w g vs T)(i:Nat)(v:Value):ze (w.setCell ⟨g,i,none⟩ v) g (vs.set i v) T:=by
 have:=heap_setCell_same w g i vs.toArray T v h;unfold ze;rw[this];simp
theorem ja{α:Type}{At:AtP α}{k:Nat}{w:World}{B:Nat}:zd At k w B none 0 []:=⟨zn _,by omega,qB.nil⟩
theorem kr{w:World}{N:Nat}(hN:w.heap.size=N)(vs:List Value)(T:TypeId):
  zW (w.alloc (.cells vs.toArray T)) N vs∧(w.alloc (.cells vs.toArray T)).heap.size=N+1∧Below N w (w.alloc (.cells vs.toArray T)):=by
 subst hN;exact⟨qa w vs T,by simp,(zb _ _).alloc (zn _) _⟩
theorem qdu{α:Type}{At:AtP α}{k:Nat}{w:World}{B g:Nat}{x:α}(h:At w B ⟨g,0,none⟩ x)(hg:g<B):qB At k w B (some ⟨g,0,none⟩) [x]:=fun i y hi=>by
 match i,hi with
 |0,hi=>
  simp at hi;subst hi;refine⟨_,rfl,hg,?_⟩;rw[Nat.zero_mul,show(⟨g,0,none⟩:Addr).add 0=⟨g,0,none⟩by simp[Addr.add]];exact h
def vl(EL:List (List Int))(i j:Nat):Prop:=(j:Int) ∈EL[i]?.getD []
inductive qv(EL:List (List Int))(n:Nat)(i:Nat):Nat→Prop
 |one {j:Nat} (h:vl EL i j):qv EL n i j
 |snoc {p j:Nat} (h:qv EL n i p) (hp:p<n) (e:vl EL p j):qv EL n i j
theorem qv.more{EL:List (List Int)}{n n' i j:Nat}(h:qv EL n i j)(hn:n≤n'):qv EL n' i j:=by
 induction h with
 |one h=>exact .one h
 |snoc _ hp e ih=>exact .snoc ih (by omega) e
theorem qv.join{EL:List (List Int)}{n i p j:Nat}(h:qv EL n i p)(hp:p<n)(h':qv EL n p j):qv EL n i j:=by
 induction h' with
 |one e=>exact .snoc h hp e
 |snoc _ hq e ih=>exact .snoc ih hq e
theorem qv.split{EL:List (List Int)}{k i j:Nat}(h:qv EL (k+1) i j):qv EL k i j∨(qv EL k i k∧qv EL k k j):=by
 induction h with
 |one e=>exact .inl (.one e)
 | @snoc p j _ hp e ih=>
  by_cases hk:p=k
  ·subst hk;rcases ih with h1|⟨h1,_⟩
   ·exact .inr ⟨h1,.one e⟩
   ·exact .inr ⟨h1,.one e⟩
  ·rcases ih with h1|⟨h1,h2⟩
   ·exact .inl (.snoc h1 (by omega) e)
   ·exact .inr ⟨h1,.snoc h2 (by omega) e⟩
open Go.ChangeShapes Go.WideShapes Go.RowKit
def jl(p:Nat→Bool)(n:Nat):List Int:=((List.range n).filter p).map (fun g:Nat=>(g:Int))
theorem qin(p:Nat→Bool)(n:Nat):(jl p n).length≤n:=by
 unfold jl;rw[Xi];exact Xg (List.length_filter_le _ _) (by rw[Wb];exact zn _)
theorem YJ{p:Nat→Bool}{n:Nat}{x:Int}:x ∈jl p n↔∃g:Nat,x=(g:Int)∧g<n∧p g=true:=by
 unfold jl;rw[XW];constructor
 ·rintro⟨g,hg,rfl⟩;rw[List.mem_filter,XQ]at hg;exact⟨g,rfl,hg⟩
 ·rintro⟨g,rfl,hg⟩;exact⟨g,by rw[List.mem_filter,XQ];exact hg,rfl⟩
theorem qat{p q:Nat→Bool}{n:Nat}(h:∀g,g<n→p g=q g):jl p n=jl q n:=by
 unfold jl;congr 1;exact List.filter_congr (fun g hg=>h g (XQ.mp hg))
def QI(p:Nat→Bool):Nat→Nat
 |0=>0
 |n+1=>QI p n+if p n then 0 else 1
theorem qa4{p:Nat→Bool}{g:Nat}:∀n,n≤g→QI (fun k=>p k||decide (k=g)) n=QI p n
 |0,_=>rfl
 |n+1,h=>by
  unfold QI;rw[qa4 n (by omega),show decide (n=g)=false from Xf (by omega),Bool.or_false]
theorem q1t{p:Nat→Bool}{g:Nat}(hp:p g=false):∀n,g<n→QI (fun k=>p k||decide (k=g)) n+1=QI p n
 |0,h=>by omega
 |n+1,h=>by
  unfold QI;by_cases e:n=g
  ·subst e;rw[qa4 n (zn _),hp];simp
  ·have:=q1t hp n (by omega);rw[show decide (n=g)=false from Xf e,Bool.or_false];omega
theorem q8e:∀n,QI (fun _=>false) n=n
 |0=>rfl
 |n+1=>by unfold QI;rw[q8e n];rfl
theorem qcx{w:World}{B c g i:Nat}{A:Option Addr}{L:List Int}{v:Value}(h:zd zq 1 w B A c L)(hA:∀ad,A=some ad→ad.block≠g):zd zq 1 (w.setCell ⟨g,i,none⟩ v) B A c L:=
 ⟨h.le,h.cap,fun j x hj=>by
  obtain⟨ad,e,hb,hc⟩:=h.row j x hj;exact⟨ad,e,hb,(X7 (w:=w) (Below.heap_setCell w ⟨g,i,none⟩ v _ (by rw[zp];exact hA ad e))).trans hc⟩⟩
structure Zg(w:World)(g:Nat)(EL:List (List Int))(n k:Nat)(vs:List Value):Prop where
 blk:ze w g vs 26
 len:vs.length=n
 row:∀(i:Nat) (L:List Int),i<k→EL[i]? =some L→∃A c,vs[i]? =some (.slice A L.length c)∧zd zq 1 w w.heap.size A c L∧∀ad,A=some ad→g<ad.block
 rest:∀i:Nat,k≤i→i<n→vs[i]? =some (.slice none 0 0)
section
variable{w w':World}{g n k:Nat}{EL:List (List Int)}{vs:List Value}
theorem Zg.keep(h:Zg w g EL n k vs)(hb:Below w.heap.size w w'):Zg w' g EL n k vs:=
 ⟨ze.keep h.blk hb (ze.lt h.blk),h.len,fun i L hi hL=>by
  obtain⟨A,c,h1,h2,h3⟩:=h.row i L hi hL;exact⟨A,c,h1,h2.keep' zq.keeps hb.size (fun q hq=>hb.cell hq),h3⟩,h.rest⟩
theorem Zg.put(h:Zg w g EL n k vs){A:Option Addr}{c:Nat}{L:List Int}(hk:k<n)(hL:EL[k]? =some L)(hs:zd zq 1 w w.heap.size A c L)(hA:∀ad,A=some ad→g<ad.block):Zg (w.setCell ⟨g,k,none⟩ (.slice A L.length c)) g EL n (k+1) (vs.set k (.slice A L.length c)):=by
 have hz:(w.setCell ⟨g,k,none⟩ (.slice A L.length c)).heap.size=w.heap.size:=by simp
 refine⟨ze.set h.blk k _,by rw[XD];exact h.len,fun i M hi hM=> ?_,fun i hi hn=>by rw[Wg,Xa (by omega)];exact h.rest i (by omega) hn⟩;rw[hz];rcases Xj i k with q|q
 ·obtain⟨A',c',h1,h2,h3⟩:=h.row i M q hM;exact⟨A',c',by rw[Wg,Xa (by omega)];exact h1,qcx h2 (fun ad e=>by have:=h3 ad e;omega),h3⟩
 ·obtain rfl:i=k:=by omega
  have e:L=M:=by rw[hL]at hM;injection hM
  subst e;exact⟨A,c,by rw[Wg,Xb rfl,Xb (by rw[h.len];exact hk)],qcx hs (fun ad e=>by have:=hA ad e;omega),hA⟩
theorem Zg.skip(h:Zg w g EL n k vs)(hk:k<n)(hL:EL[k]? =some []):Zg w g EL n (k+1) vs:=
 ⟨h.blk,h.len,fun i M hi hM=>by
  rcases Xj i k with q|q
  ·exact h.row i M q hM
  ·obtain rfl:i=k:=by omega
   have e:([]:List Int)=M:=by rw[hL]at hM;injection hM
   subst e;exact⟨none,0,h.rest i (zn _) hk,ja,fun ad e=>by cases e⟩,fun i hi hn=>h.rest i (by omega) hn⟩
theorem Zg.cell(h:Zg w g EL n k vs){i:Nat}(hi:i<n):∃v,w.cell? ⟨g,i,none⟩=some v:=
 ⟨_,(ze.cells h.blk) i _ (Xc (by rw[h.len];exact hi))⟩
theorem Zg.slc(h:Zg w g EL n k vs)(hn:EL.length=n)(hk:n≤k)(hc:n≤9223372036854775807):zd (zG zq 1) 1 w w.heap.size (some ⟨g,0,none⟩) n EL:=
 ⟨by omega,hc,fun i L hi=>by
  have hi':=(Xw.mp hi).1;obtain⟨A,c,h1,h2,h3⟩:=h.row i L (by omega) hi;refine⟨_,rfl,ze.lt h.blk,A,c,?_,h2⟩;have:=(ze.cells h.blk) i _ h1;rw[show Addr.add ⟨g,0,none⟩ (i*1)=⟨g,i,none⟩by unfold Addr.add;split<;>simp_all];exact this⟩
end
open Go.Shelf
def qql:Go.Shelf.Ren:=⟨fun|189=>190|125=>204|257=>203|128=>221|129=>222|294=>213|295=>214|296=>215|297=>216|298=>217|299=>218|216=>156|300=>219|301=>220|328=>224|329=>225|330=>226|331=>227|332=>228|215=>192|343=>229|n=>n,fun|28=>26|3=>3|46=>43|0=>0|51=>248|53=>250|4=>4|183=>243|182=>242|131=>112|5=>5|9=>9|218=>251|222=>255|228=>257|229=>210|n=>n,fun|n=>n⟩
theorem q4j:Go.Proofs.Lays.n189 Tryz.prog qql:={
 mixed:=by kernel_rfl
 f125:=Tryz.func204.trans (congrArg some (by kernel_rfl))
 f128:=Tryz.func221.trans (congrArg some (by kernel_rfl))
 f129:=Tryz.func222.trans (congrArg some (by kernel_rfl))
 f189:=Tryz.func190.trans (congrArg some (by kernel_rfl))
 f215:=Tryz.func192.trans (congrArg some (by kernel_rfl))
 f216:=Tryz.func156.trans (congrArg some (by kernel_rfl))
 f257:=Tryz.func203.trans (congrArg some (by kernel_rfl))
 f294:=Tryz.func213.trans (congrArg some (by kernel_rfl))
 f295:=Tryz.func214.trans (congrArg some (by kernel_rfl))
 f296:=Tryz.func215.trans (congrArg some (by kernel_rfl))
 f297:=Tryz.func216.trans (congrArg some (by kernel_rfl))
 f298:=Tryz.func217.trans (congrArg some (by kernel_rfl))
 f299:=Tryz.func218.trans (congrArg some (by kernel_rfl))
 f300:=Tryz.func219.trans (congrArg some (by kernel_rfl))
 f301:=Tryz.func220.trans (congrArg some (by kernel_rfl))
 f328:=Tryz.func224.trans (congrArg some (by kernel_rfl))
 f329:=Tryz.func225.trans (congrArg some (by kernel_rfl))
 f330:=Tryz.func226.trans (congrArg some (by kernel_rfl))
 f331:=Tryz.func227.trans (congrArg some (by kernel_rfl))
 f332:=Tryz.func228.trans (congrArg some (by kernel_rfl))
 f343:=Tryz.func229.trans (congrArg some (by kernel_rfl))
 t0:=Tryz.underlying0
 a0:=Tryz.isAgg0
 z0:=Tryz.sizeOf0
 v0:=Tryz.zeroValue0
 t3:=Tryz.underlying3
 a3:=Tryz.isAgg3
 z3:=Tryz.sizeOf3
 v3:=Tryz.zeroValue3
 t4:=Tryz.underlying4
 a4:=Tryz.isAgg4
 z4:=Tryz.sizeOf4
 v4:=Tryz.zeroValue4
 t5:=Tryz.underlying5
 a5:=Tryz.isAgg5
 z5:=Tryz.sizeOf5
 v5:=Tryz.zeroValue5
 t9:=Tryz.underlying9
 a9:=Tryz.isAgg9
 z9:=Tryz.sizeOf9
 v9:=Tryz.zeroValue9
 t28:=Tryz.underlying26
 a28:=Tryz.isAgg26
 z28:=Tryz.sizeOf26
 v28:=Tryz.zeroValue26
 t46:=Tryz.underlying43
 a46:=Tryz.isAgg43
 z46:=Tryz.sizeOf43
 v46:=Tryz.zeroValue43
 t51:=Tryz.underlying248
 a51:=Tryz.isAgg248
 z51:=Tryz.sizeOf248
 v51:=Tryz.zeroValue248
 t53:=Tryz.underlying250
 a53:=Tryz.isAgg250
 z53:=Tryz.sizeOf250
 v53:=Tryz.zeroValue250
 t131:=Tryz.underlying112
 a131:=Tryz.isAgg112
 z131:=Tryz.sizeOf112
 v131:=Tryz.zeroValue112
 t182:=Tryz.underlying242
 a182:=Tryz.isAgg242
 z182:=Tryz.sizeOf242
 v182:=Tryz.zeroValue242
 t183:=Tryz.underlying243
 a183:=Tryz.isAgg243
 z183:=Tryz.sizeOf243
 v183:=Tryz.zeroValue243
 t218:=Tryz.underlying251
 a218:=Tryz.isAgg251
 z218:=Tryz.sizeOf251
 v218:=Tryz.zeroValue251
 t222:=Tryz.underlying255
 a222:=Tryz.isAgg255
 z222:=Tryz.sizeOf255
 v222:=Tryz.zeroValue255
 t228:=Tryz.underlying257
 a228:=Tryz.isAgg257
 z228:=Tryz.sizeOf257
 v228:=Tryz.zeroValue257
 t229:=Tryz.underlying210
 a229:=Tryz.isAgg210
 z229:=Tryz.sizeOf210
 v229:=Tryz.zeroValue210}
def VJ(Q:Exit→Act→World→Prop):Exit→Act→World→Prop
 | .normal,a,w=>Q .normal a w
 |_,_,_=>False
theorem VJ.normal{Q:Exit→Act→World→Prop}{a:Act}{w:World}(h:Q .normal a w):VJ Q .normal a w:=h
theorem qj1{l n:Nat}{P:Program}{o:Oper}{a:Act}{w:World}{K K':Act→World→Prop}{Q:Exit→Act→World→Prop}(hnd:∀c,o.op≠ .defer c)(hk:∀a w,K a w→K' a w)
  (h:o.wp P a w K (VJ Q)):o.wpIn (Fence.wide.inRound l) n P a w K' Q:=by
 unfold Oper.wp at h;unfold Oper.wpIn;refine⟨fun _ _=>trivial,?_⟩;rw[Oper.semAt_eq _ _ _ hnd];generalize(execOp a.eval o).run P w=r at h;cases r with
 |ok x w'=>
  cases x<;>simp only[Oper.upon,Oper.uponIn]at h⊢
  case value v=>exact hk _ _ h
  case skip=>exact hk _ _ h
  case defer d=>exact hk _ _ h
  case enter f args=>
   refine⟨fun h0=>(by cases h0),CallsIn.inRound l (callsIn_wide.2 (h.mono fun e w'' he=> ?_))⟩;cases e with
   |returned v=>exact hk _ _ he
   |panicked chain=>exact(he:False).elim
   |outgrown=>obtain⟨_,_,hf⟩:=he;exact(hf:False).elim
  case row row args=>
   refine⟨fun h0=>(by cases h0),fun c cs _=> ?_⟩;obtain⟨v,w2,hv,hs⟩:=h c cs;exact⟨v,w2,hk _ _ hv,stepsIn_wide.2 hs⟩
 |halt x w'=>
  cases x<;>simp only[Oper.upon,Oper.uponIn]at h⊢
  all_goals exact(h:False).elim
theorem q22{l n:Nat}{P:Program}{ops:Array Oper}{Q:Exit→Act→World→Prop}(hnd:∀(i:Nat) o,ops[i]? =some o→∀c,o.op≠ .defer c):∀(is:List Nat) (a:Act) (w:World),wpOps P ops (VJ Q) is a w→wpOpsIn (Fence.wide.inRound l) n P ops Q is a w
 | [],a,w,h=>h
 |i::rest,a,w,h=>by
  simp only[wpOps]at h;simp only[wpOpsIn];cases ho:ops[i]? with
  |none=>simp only[ho]at h⊢;exact q22 hnd rest a w h
  |some o=>
   simp only[ho]at h⊢
   by_cases hw:Region.wanted o (yielded ops a.tmps)=true
   ·rw[Xb hw]at h⊢
    rcases h with h|⟨_,_,_,h⟩
    ·exact qj1 (hnd i o ho) (fun a w=>q22 hnd rest a w) h
    ·exact(h:False).elim
   ·rw[Xa hw]at h⊢
    exact⟨fun _ _=>trivial,q22 hnd rest _ _ h⟩
theorem qer{l n:Nat}{P:Program}{id:Nat}{ops:Array Oper}{Q:Exit→Act→World→Prop}{S:World→Prop}{a:Act}{w:World}(hm:P.follows .mixedOrders=true)(hnd:ops.all (fun o=>match o.op with| .defer _=>false|_=>true)=true)(hS:S w.drew)
  (h:S w.drew→wpAnyH P .any ops (VJ Q) S ops.size (Array.replicate ops.size false) a w.drew):(Code.region id ops true).wpIn (Fence.wide.inRound l) n P Q a w:=
 wpIn_region_draw fun t=>q22 (fun i o ho c hc=>by
  have hx:=(Array.all_eq_true.mp hnd) i (by rcases Xj i ops.size with g|g;exact g;rw[Array.getElem?_eq_none g]at ho;cases ho);rw[Array.getElem?_eq_some_iff]at ho;obtain⟨_,ho⟩:=ho;rw[ho,hc]at hx;cases hx) _ _ _ (by
   simp only[Region.schedule,hm,Bool.true_or,if_true];exact wpAny_sound ops.size t _ a _ (wpAny_of_held _ _ _ _ (h hS)))
theorem qei(op:Int)(h0:7≤op)(h1:op≤17)(w:World):Calls Tryz.prog 179 #[.int .i64 op] w fun e w'=>e= .returned (.bool true)∧w=w':=by
 have h:op=7∨op=8∨op=9∨op=10∨op=11∨op=12∨op=13∨op=14∨op=15∨op=16∨op=17:=by omega
 clear h0 h1;rcases h with rfl|rfl|rfl|rfl|rfl|rfl|rfl|rfl|rfl|rfl|rfl;all_goals
  go_enter Tryz.func179,Tryz.ntmps179;go_wp2
  go_ret;exact⟨rfl,rfl⟩
theorem is_no(op:Int)(h:op<7∨17<op)(w:World):Calls Tryz.prog 179 #[.int .i64 op] w fun e w'=>e= .returned (.bool false)∧w=w':=by
 have n7:¬op=7:=by omega
 have n8:¬op=8:=by omega
 have n9:¬op=9:=by omega
 have n10:¬op=10:=by omega
 have n11:¬op=11:=by omega
 have n12:¬op=12:=by omega
 have n13:¬op=13:=by omega
 have n14:¬op=14:=by omega
 have n15:¬op=15:=by omega
 have n16:¬op=16:=by omega
 have n17:¬op=17:=by omega
 clear h;go_enter Tryz.func179,Tryz.ntmps179;go_wp2
 go_ret;exact⟨rfl,rfl⟩
theorem qp6{P:Program}{w:World}{B:Nat}{A:Option Addr}{l:List Int}{cap:Nat}{src dst e:TypeId}(hs:P.underlying src=some (.slice e))(he:P.underlying e=some (.int .u8))(hd:P.underlying dst=some .string)
  (h:zx w B A (l.map (Value.int .u8))):(convert src dst (.slice A l.length cap)).run P w= .ok (.string (strOfNums l)) w:=by
 rcases A with _|ad
 ·have hl:l=[]:=by
   cases l with
   |nil=>rfl
   |cons b r=>
    obtain⟨ad,e,_⟩:=h 0 (.int .u8 b) rfl;cases e
  subst hl;rw[run_convert_bytes_nil w src e hs he _ _ dst hd];rfl
 ·obtain⟨g,off,spot⟩:=ad;by_cases hl:l=[]
  ·subst hl;rw[run_convert_bytes_string w src dst e _ _ _ hs he hd];exact(run_bytesToString (P:=P) w ⟨g,off,spot⟩ 0 cap [] (run_loadCells_list (P:=P) w _ [] (fun j v hj=>by simp at hj))).trans rfl
  ·have hpos:0<l.length:=List.length_pos_iff.mpr hl;have hspot:spot=none:=by
    obtain⟨ad,e,_,hc⟩:=h.at_ (k:=0) (by simpa using hpos);injection e with e;subst e;simpa[Addr.add]using World.cell?_spot hc
   subst hspot;refine run_convert_bytes_arg w src e hs he g off l.length cap l rfl (fun i hi=> ?_) dst hd;obtain⟨ad,e,_,hc⟩:=h.at_ (k:=i) (by simpa using hi);injection e with e;subst e;have e:(Addr.add ⟨g,off,none⟩ i)=⟨g,off+i,none⟩:=by
    unfold Addr.add;split
    ·rename_i h0;subst h0;rfl
    ·rfl
   rw[←e,hc];simp[List.getD,Xc hi]
theorem q6z(l:List Int):(strOfNums l).toList=l.map fun n=>UInt8.ofNat n.toNat:=by
 rw[ByteArray.toList_eq,strOfNums_data]
theorem qrc{l m:List Int}(hl:∀b ∈l,0≤b∧b≤255)(hm:∀b ∈m,0≤b∧b≤255)(h:(l.map fun n=>UInt8.ofNat n.toNat)=m.map fun n=>UInt8.ofNat n.toNat):l=m:=by
 induction l generalizing m with
 |nil=>
  cases m with
  |nil=>rfl
  |cons b r=>simp at h
 |cons a r ih=>
  cases m with
  |nil=>simp at h
  |cons b s=>
   simp only[List.map_cons,List.cons.injEq]at h;obtain⟨a0,a1⟩:=hl a XE;obtain⟨b0,b1⟩:=hm b XE;have e:a=b:=by
    have:=congrArg UInt8.toNat h.1;simp at this;omega
   rw[e,ih (fun c hc=>hl c (XI _ hc)) (fun c hc=>hm c (XI _ hc)) h.2]
theorem str_eq{l m:List Int}(hl:∀b ∈l,0≤b∧b≤255)(hm:∀b ∈m,0≤b∧b≤255):((strOfNums l).toList==(strOfNums m).toList)=decide (l=m):=by
 by_cases h:l=m
 ·subst h;simp
 ·rw[Xf h,XK,q6z,q6z];exact fun g=>h (qrc hl hm g)
theorem qe5{w:World}{B:Nat}{A:Option Addr}{l:List Int}{cap:Nat}(h:zx w B A (l.map (Value.int .u8))):(convert 40 9 (.slice A l.length cap)).run Tryz.prog w= .ok (.string (strOfNums l)) w:=
 qp6 Tryz.underlying40 Tryz.underlying5 Tryz.underlying9 h
open Go.ChangeShapes Go.WideShapes Go.Deep Go.Joins Go.RowKit
theorem gather{α:Type}{R:Nat→α→Prop}(n:Nat)(h:∀i,i<n→∃s,R i s):∃l:List α,l.length=n∧∀i s,l[i]? =some s→R i s:=by
 induction n with
 |zero=>exact⟨[],rfl,by simp⟩
 |succ n ih=>
  obtain⟨l,hl,hr⟩:=ih fun i hi=>h i (by omega);obtain⟨s,hs⟩:=h n (by omega);refine⟨l++[s],by simp[hl],fun i t ht=> ?_⟩;rcases Xj i l.length with hlt|hge
  ·rw[XJ hlt]at ht;exact hr i t ht
  ·rw[XM hge]at ht;have hi:i - l.length=0:=by
    rcases Wo (i - l.length)with h0|h0
    ·exact h0
    ·rw[Xu (by simp;omega)]at ht;cases ht
   rw[hi]at ht;have hin:i=n:=by omega
   subst hin;simp at ht;subst ht;exact hs
section
variable{H:Type}{enc:TypeId×Value→H}{P:Program}{w:World}{base:Nat}{held:Bool}
end
theorem qed{a:Int}(h:(Lit.int .i32 a).wf=true): -2147483648≤a∧a≤2147483647:=by
 simpa[Lit.wf,IntKind.min,IntKind.max,IntKind.signed,IntKind.bits]using h
theorem wf_i64{a:Int}(h:(Lit.int .i64 a).wf=true): -9223372036854775808≤a∧a≤9223372036854775807:=by
 simpa[Lit.wf,IntKind.min,IntKind.max,IntKind.signed,IntKind.bits]using h
theorem YV(p:Addr):p.add 0=p:=by simp[Addr.add]
theorem ZH{n:Nat}(p:Addr)(h:0<n):p.add n=zc p n:=by
 unfold Addr.add zc;rw[Xa (by omega)]
section
variable{α H:Type}{enc:TypeId×Value→H}{P:Program}{w:World}{base:Nat}{held:Bool}{spare:Nat→Bool}
def Yq(enc:TypeId×Value→H)(P:Program)(w:World)(base:Nat)(spare:Nat→Bool)(held:Bool)(e:TypeId)(k:Nat)(At:AtP α):Prop:=
 ∀(n:Nat) (cs:List Value) (y:DataW H×List MemPlace) (p:Addr),(∀j u,cs[j]? =some u→w.cell? (p.add j)=some u)→DataW.trod enc P w base spare held n e cs=some y→cs.length=k→∃x:α,At w w.heap.size p x
theorem Vh{t e:TypeId}{k fuel:Nat}{cs:List Value}{x:DataW H×List MemPlace}{At:AtP α}(ht:P.underlying t=some (.slice e))(hC:P.cellsOf e=k)(hk:0<k)(hO:Yq enc P w base spare held e k At)
  (h:DataW.trod enc P w base spare held fuel t cs=some x):∃A cap l,cs=[.slice A l.length cap]∧zd At k w w.heap.size A cap l∧(A=none→cap=0):=by
 rcases open_slice ht h with⟨hcs,_⟩|⟨a,len,cap,m,n,D,Pl,hcs,_,hl,hm,hmm,_,hi⟩
 ·exact⟨none,0,[],hcs,⟨zn _,by omega,qB.nil⟩,fun _=>rfl⟩
 ·have hml:len≤m:=by rw[hmm];split<;>omega
  obtain⟨l,hLl,hL⟩:=gather (R:=fun i (x:α)=>At w w.heap.size (a.add (i*k)) x∧a.block<w.heap.size) len fun i hil=>by
   obtain⟨cs',hc,ht'⟩:=hi i (by omega);rw[hC]at hc;obtain⟨_,hcl,hat⟩:=World.cells?_some hc;have hat':∀j u,cs'[j]? =some u→w.cell? ((a.add (i*k)).add j)=some u:=fun j u hu=>by
    have hj:j<k:=by
     rcases Xj j k with g|g
     ·exact g
     ·rw[Xu (by omega)]at hu;cases hu
    exact(hat j hj).trans hu
   obtain⟨x,hx⟩:=hO n cs' _ (a.add (i*k)) hat' ht' hcl;refine⟨x,hx,?_⟩;have h0:=hat' 0 (cs'[0]'(by omega)) (Xc (by omega));have:=World.block_lt_of_cell? w _ h0
   rwa [zp,zp]at this
  refine⟨some a,cap,l,by rw[hLl];exact hcs,⟨by omega,by unfold maxLen at hm;omega,fun i x hx=> ?_⟩,fun h=>by cases h⟩;exact⟨a,rfl,(hL i x hx).2,(hL i x hx).1⟩
end
section
variable{H:Type}{enc:TypeId×Value→H}{w:World}{base:Nat}{held:Bool}{spare:Nat→Bool}
theorem Vr:Tryz.prog.cellsOf 3=1:=by kernel_rfl
theorem q4b:Tryz.prog.cellsOf 26=1:=by kernel_rfl
section
variable{α β:Type}{k:Nat}{At:AtP α}
theorem QZ{n:Nat}{cs:List Value}{y:DataW H×List MemPlace}(h:DataW.trod enc Tryz.prog w base spare held n 3 cs=some y):∃v:Int,cs=[.int .i64 v]:=by
 obtain⟨v,rfl,_,_⟩:=DataW.trod_int Tryz.underlying3 h;exact⟨v,rfl⟩
theorem qs3{n:Nat}{cs:List Value}{y:DataW H×List MemPlace}(h:DataW.trod enc Tryz.prog w base spare held n 3 cs=some y):∃v:Int,cs=[.int .i64 v]∧ -9223372036854775808≤v∧v≤9223372036854775807:=by
 obtain⟨v,rfl,_,hw⟩:=DataW.trod_int Tryz.underlying3 h;exact⟨v,rfl,(wf_i64 hw).1,(wf_i64 hw).2⟩
theorem va{γ:Type}{xs:List γ}{i n:Nat}{o:Option γ}(h:o=xs[i]?)(hl:xs.length=n)(hi:i<n):∃y,o=some y:=⟨_,h.trans (Xc (by omega))⟩
end
theorem qnp:Yq enc Tryz.prog w base spare held 3 1 zq:=fun n cs y p hc h _=>by
 obtain⟨v,rfl⟩:=QZ h;exact⟨v,by have:=hc 0 _ rfl;rwa [YV]at this⟩
theorem q5b{n:Nat}{cs:List Value}{y:DataW H×List MemPlace}(h:DataW.trod enc Tryz.prog w base spare held n 26 cs=some y):∃A cap l,cs=[.slice A l.length cap]∧zd zq 1 w w.heap.size A cap l∧(A=none→cap=0):=
 Vh Tryz.underlying26 Vr (by decide) qnp h
end
section
variable{H:Type}{enc:TypeId×Value→H}{w:World}{base:Nat}{held:Bool}{spare:Nat→Bool}
theorem q9x:Tryz.prog.cellsOf 50=2:=by kernel_rfl
theorem q3r:Tryz.prog.cellsOf 23=1:=by kernel_rfl
theorem qj2:Yq enc Tryz.prog w base spare held 21 1 JD:=fun n cs y p hc h _=>by
 obtain⟨v,rfl,_,hw⟩:=DataW.trod_int Tryz.underlying21 h;exact⟨v,by have:=hc 0 _ rfl;rwa [YV]at this,(qed hw).1,(qed hw).2⟩
theorem q93:Yq enc Tryz.prog w base spare held 50 2 zh:=fun n cs y p hc h hl=>by
 obtain⟨xs,m,_,_,_,hx,hf⟩:=DataW.trod_struct Tryz.underlying50 h
 match cs,hl with
 | [c0,c1],_=>
  obtain⟨y0,g0⟩:=va (hf 0 _ rfl) hx (by decide);change DataW.trod enc Tryz.prog w base spare held m 3 (List.take (Tryz.prog.cellsOf 3) (List.drop 0 _))=_ at g0;obtain⟨y1,g1⟩:=va (hf 1 _ rfl) hx (by decide);change DataW.trod enc Tryz.prog w base spare held m 3 (List.take (Tryz.prog.cellsOf 3) (List.drop 1 _))=_ at g1;rw[Vr]at g0 g1;obtain⟨v0,e0⟩:=QZ g0;obtain⟨v1,e1⟩:=QZ g1;simp at e0 e1;subst e0 e1;refine⟨(v0,v1),?_,?_⟩
  ·have:=hc 0 _ rfl;rwa [YV]at this
  ·have:=hc 1 _ rfl;rwa [ZH _ (by decide)]at this
theorem qj3:Yq enc Tryz.prog w base spare held 55 3 jb:=fun n cs y p hc h hl=>by
 obtain⟨xs,m,_,_,_,hx,hf⟩:=DataW.trod_struct Tryz.underlying55 h
 match cs,hl with
 | [c0,c1,c2],_=>
  obtain⟨y0,g0⟩:=va (hf 0 _ rfl) hx (by decide);change DataW.trod enc Tryz.prog w base spare held m 3 (List.take (Tryz.prog.cellsOf 3) (List.drop 0 _))=_ at g0;obtain⟨y1,g1⟩:=va (hf 1 _ rfl) hx (by decide);change DataW.trod enc Tryz.prog w base spare held m 3 (List.take (Tryz.prog.cellsOf 3) (List.drop 1 _))=_ at g1;obtain⟨y2,g2⟩:=va (hf 2 _ rfl) hx (by decide);change DataW.trod enc Tryz.prog w base spare held m 3 (List.take (Tryz.prog.cellsOf 3) (List.drop 2 _))=_ at g2;rw[Vr]at g0 g1 g2;obtain⟨v0,e0⟩:=QZ g0;obtain⟨v1,e1⟩:=QZ g1;obtain⟨v2,e2⟩:=QZ g2;simp at e0 e1 e2;subst e0 e1 e2;refine⟨(v0,v1,v2),?_,?_,?_⟩
  ·have:=hc 0 _ rfl;rwa [YV]at this
  ·have:=hc 1 _ rfl;rwa [ZH _ (by decide)]at this
  ·have:=hc 2 _ rfl;rwa [ZH _ (by decide)]at this
theorem q1w{n:Nat}{cs:List Value}{y:DataW H×List MemPlace}(h:DataW.trod enc Tryz.prog w base spare held n 23 cs=some y):∃A cap l,cs=[.slice A l.length cap]∧zd zh 2 w w.heap.size A cap l∧(A=none→cap=0):=
 Vh Tryz.underlying23 q9x (by decide) q93 h
theorem qqo{n:Nat}{cs:List Value}{y:DataW H×List MemPlace}(h:DataW.trod enc Tryz.prog w base spare held n 51 cs=some y):∃A cap l,cs=[.slice A l.length cap]∧zd jb 3 w w.heap.size A cap l∧(A=none→cap=0):=
 Vh Tryz.underlying51 (by kernel_rfl) (by decide) qj3 h
theorem qmj{n:Nat}{cs:List Value}{y:DataW H×List MemPlace}(h:DataW.trod enc Tryz.prog w base spare held n 24 cs=some y):∃A cap l,cs=[.slice A l.length cap]∧zd JD 1 w w.heap.size A cap l∧(A=none→cap=0):=
 Vh Tryz.underlying24 (by kernel_rfl) (by decide) qj2 h
theorem ql0:Tryz.prog.cellsOf 51=1:=by kernel_rfl
theorem qge:Yq enc Tryz.prog w base spare held 81 3 jW:=fun n cs y p hc h hl=>by
 obtain⟨xs,m,_,_,_,hx,hf⟩:=DataW.trod_struct Tryz.underlying81 h
 match cs,hl with
 | [c0,c1,c2],_=>
  obtain⟨y0,g0⟩:=va (hf 0 _ rfl) hx (by decide);change DataW.trod enc Tryz.prog w base spare held m 3 (List.take (Tryz.prog.cellsOf 3) (List.drop 0 _))=_ at g0;obtain⟨y1,g1⟩:=va (hf 1 _ rfl) hx (by decide);change DataW.trod enc Tryz.prog w base spare held m 23 (List.take (Tryz.prog.cellsOf 23) (List.drop 1 _))=_ at g1;obtain⟨y2,g2⟩:=va (hf 2 _ rfl) hx (by decide);change DataW.trod enc Tryz.prog w base spare held m 26 (List.take (Tryz.prog.cellsOf 26) (List.drop 2 _))=_ at g2;rw[Vr]at g0;rw[q3r]at g1;rw[q4b]at g2;obtain⟨v0,e0,r0⟩:=qs3 g0;obtain⟨A1,k1,l1,e1,s1,_⟩:=q1w g1;obtain⟨A2,k2,l2,e2,s2,_⟩:=q5b g2;simp at e0 e1 e2;subst e0 e1 e2;refine⟨⟨v0,l1,l2⟩,?_,⟨A1,k1,?_,s1⟩,⟨A2,k2,?_,s2⟩,r0⟩
  ·have:=hc 0 _ rfl;rwa [YV]at this
  ·have:=hc 1 _ rfl;rwa [ZH _ (by decide)]at this
  ·have:=hc 2 _ rfl;rwa [ZH _ (by decide)]at this
theorem qfm:Yq enc Tryz.prog w base spare held 53 8 vN:=fun n cs y p hc h hl=>by
 obtain⟨xs,m,_,_,_,hx,hf⟩:=DataW.trod_struct Tryz.underlying53 h
 match cs,hl with
 | [c0,c1,c2,c3,c4,c5,c6,c7],_=>
  obtain⟨y0,g0⟩:=va (hf 0 _ rfl) hx (by decide);change DataW.trod enc Tryz.prog w base spare held m 23 (List.take (Tryz.prog.cellsOf 23) (List.drop 0 _))=_ at g0;obtain⟨y1,g1⟩:=va (hf 1 _ rfl) hx (by decide);change DataW.trod enc Tryz.prog w base spare held m 23 (List.take (Tryz.prog.cellsOf 23) (List.drop 1 _))=_ at g1;obtain⟨y2,g2⟩:=va (hf 2 _ rfl) hx (by decide);change DataW.trod enc Tryz.prog w base spare held m 50 (List.take (Tryz.prog.cellsOf 50) (List.drop 2 _))=_ at g2;obtain⟨y3,g3⟩:=va (hf 3 _ rfl) hx (by decide);change DataW.trod enc Tryz.prog w base spare held m 51 (List.take (Tryz.prog.cellsOf 51) (List.drop 4 _))=_ at g3;obtain⟨y4,g4⟩:=va (hf 4 _ rfl) hx (by decide);change DataW.trod enc Tryz.prog w base spare held m 3 (List.take (Tryz.prog.cellsOf 3) (List.drop 5 _))=_ at g4;obtain⟨y5,g5⟩:=va (hf 5 _ rfl) hx (by decide);change DataW.trod enc Tryz.prog w base spare held m 3 (List.take (Tryz.prog.cellsOf 3) (List.drop 6 _))=_ at g5;obtain⟨y6,g6⟩:=va (hf 6 _ rfl) hx (by decide);change DataW.trod enc Tryz.prog w base spare held m 26 (List.take (Tryz.prog.cellsOf 26) (List.drop 7 _))=_ at g6;rw[q3r]at g0 g1;rw[q9x]at g2;rw[ql0]at g3;rw[Vr]at g4 g5;rw[q4b]at g6;obtain⟨A0,k0,l0,e0,s0,_⟩:=q1w g0;obtain⟨A1,k1,l1,e1,s1,_⟩:=q1w g1;obtain⟨A3,k3,l3,e3,s3,_⟩:=qqo g3;obtain⟨v4,e4⟩:=QZ g4;obtain⟨v5,e5⟩:=QZ g5;obtain⟨A6,k6,l6,e6,s6,_⟩:=q5b g6;obtain⟨r,hr0,hr1⟩:=q93 m _ y2 (zc p 2) (fun j u hu=>by
   match j,hu with
   |0,hu=>simp at hu;subst hu;have:=hc 2 _ rfl;rw[ZH _ (by decide)]at this;rwa [YV]
   |1,hu=>simp at hu;subst hu;have:=hc 3 _ rfl;rw[ZH _ (by decide)]at this;rwa [ZH _ (by decide)]
   |j+2,hu=>simp at hu) g2 (by simp)
  simp at e0 e1 e3 e4 e5 e6;subst e0 e1 e3 e4 e5 e6;refine⟨⟨l0,l1,r,l3,v4,v5,l6⟩,⟨A0,k0,?_,s0⟩,⟨A1,k1,?_,s1⟩,hr0,?_,⟨A3,k3,?_,s3⟩,?_,?_,⟨A6,k6,?_,s6⟩⟩
  ·have:=hc 0 _ rfl;rwa [YV]at this
  ·have:=hc 1 _ rfl;rwa [ZH _ (by decide)]at this
  ·exact hr1
  ·have:=hc 4 _ rfl;rwa [ZH _ (by decide)]at this
  ·have:=hc 5 _ rfl;rwa [ZH _ (by decide)]at this
  ·have:=hc 6 _ rfl;rwa [ZH _ (by decide)]at this
  ·have:=hc 7 _ rfl;rwa [ZH _ (by decide)]at this
theorem q94{r:Reach}{b0:Nat}{v:Value}{d:DataW H}{p:List MemPlace}(hv:Value.okWide Tryz.prog w r b0 28 v)(h:DataW.Trod enc Tryz.prog w base spare held 28 v d p):
  ∃(hd:zg) (m:za),v=zk hd m∧zi w w.heap.size hd m:=by
 obtain⟨cs,rfl,hsz⟩:=okWide_struct Tryz.underlying28 hv;obtain⟨fuel,hf⟩:=h;have hsz':cs.size=7:=hsz.trans (by kernel_rfl);obtain⟨xs,m,_,_,_,hx,hf⟩:=DataW.trod_struct Tryz.underlying28 hf;obtain⟨l⟩:=cs;have hl:l.length=7:=hsz'
 match l,hl with
 | [c0,c1,c2,c3,c4,c5,c6],_=>
  obtain⟨y0,g0⟩:=va (hf 0 _ rfl) hx (by decide);change DataW.trod enc Tryz.prog w base spare held m 22 (List.take (Tryz.prog.cellsOf 22) (List.drop 0 _))=_ at g0;obtain⟨y1,g1⟩:=va (hf 1 _ rfl) hx (by decide);change DataW.trod enc Tryz.prog w base spare held m 23 (List.take (Tryz.prog.cellsOf 23) (List.drop 1 _))=_ at g1;obtain⟨y2,g2⟩:=va (hf 2 _ rfl) hx (by decide);change DataW.trod enc Tryz.prog w base spare held m 24 (List.take (Tryz.prog.cellsOf 24) (List.drop 2 _))=_ at g2;obtain⟨y3,g3⟩:=va (hf 3 _ rfl) hx (by decide);change DataW.trod enc Tryz.prog w base spare held m 25 (List.take (Tryz.prog.cellsOf 25) (List.drop 3 _))=_ at g3;obtain⟨y4,g4⟩:=va (hf 4 _ rfl) hx (by decide);change DataW.trod enc Tryz.prog w base spare held m 26 (List.take (Tryz.prog.cellsOf 26) (List.drop 4 _))=_ at g4;obtain⟨y5,g5⟩:=va (hf 5 _ rfl) hx (by decide);change DataW.trod enc Tryz.prog w base spare held m 3 (List.take (Tryz.prog.cellsOf 3) (List.drop 5 _))=_ at g5;obtain⟨y6,g6⟩:=va (hf 6 _ rfl) hx (by decide);change DataW.trod enc Tryz.prog w base spare held m 3 (List.take (Tryz.prog.cellsOf 3) (List.drop 6 _))=_ at g6;rw[show Tryz.prog.cellsOf 22=1 by kernel_rfl]at g0;rw[q3r]at g1;rw[show Tryz.prog.cellsOf 24=1 by kernel_rfl]at g2;rw[show Tryz.prog.cellsOf 25=1 by kernel_rfl]at g3;rw[q4b]at g4;rw[Vr]at g5 g6;obtain⟨A0,k0,l0,e0,s0,_⟩:=Vh Tryz.underlying22 (by kernel_rfl) (by decide) qge g0;obtain⟨A1,k1,l1,e1,s1,_⟩:=q1w g1;obtain⟨A2,k2,l2,e2,s2,_⟩:=qmj g2;obtain⟨A3,k3,l3,e3,s3,_⟩:=Vh Tryz.underlying25 (by kernel_rfl) (by decide) qfm g3;obtain⟨A4,k4,l4,e4,s4,_⟩:=q5b g4;obtain⟨v5,e5⟩:=QZ g5;obtain⟨v6,e6⟩:=QZ g6;simp[Value.cells]at e0 e1 e2 e3 e4 e5 e6;subst e0 e1 e2 e3 e4 e5 e6;exact⟨⟨A0,A1,A2,A3,A4,k0,k1,k2,k3,k4⟩,⟨l0,l1,l2,l3,l4,v5,v6⟩,rfl,s0,s1,s2,s3,s4⟩
end
def qt5(c:zO):Prop:=c.fields.length*16≤140737488351232∧c.slots.length*8≤140737488351232
def qt3(x:zf):Prop:=x.args.length*16≤140737488351232∧x.locals.length*16≤140737488351232∧x.code.length*24≤140737488351232∧x.phi.length*8≤140737488351232
structure ImgSized(m:za):Prop where
 classes:m.classes.length*56≤140737488351232
 statics:m.statics.length*16≤140737488351232
 ints:m.ints.length*4≤140737488351232
 methods:m.methods.length*128≤140737488351232
 entries:m.entries.length*8≤140737488351232
 ct:∀c ∈m.classes,qt5 c
 mt:∀x ∈m.methods,qt3 x
section
variable{α H:Type}{enc:TypeId×Value→H}{P:Program}{w:World}{base:Nat}{held:Bool}{spare:Nat→Bool}
def Light(P:Program)(t:TypeId)(d:DataW H):Prop:=∀n ∈d.weights P t,n≤140737488351232
def qem(enc:TypeId×Value→H)(P:Program)(w:World)(base:Nat)(spare:Nat→Bool)(held:Bool)(e:TypeId)(k:Nat)(At:AtP α)(Z:α→Prop):Prop:=
 ∀(n:Nat) (cs:List Value) (y:DataW H×List MemPlace) (p:Addr),(∀j u,cs[j]? =some u→w.cell? (p.add j)=some u)→DataW.trod enc P w base spare held n e cs=some y→cs.length=k→∃x:α,At w w.heap.size p x∧(Light P e y.1→Z x)
theorem qem.of{e:TypeId}{k:Nat}{At:AtP α}(h:Yq enc P w base spare held e k At):qem enc P w base spare held e k At (fun _=>True):=fun n cs y p h1 h2 h3=>by
 obtain⟨x,hx⟩:=h n cs y p h1 h2 h3;exact⟨x,hx,fun _=>trivial⟩
end
section
variable{H:Type}{enc:TypeId×Value→H}{w:World}{base:Nat}{held:Bool}{spare:Nat→Bool}
end
open Go.ChangeShapes
abbrev img0L:List Value:=[.slice none 0 0,.slice none 0 0,.slice none 0 0,.slice none 0 0,.slice none 0 0,.int .i64 0,.int .i64 0]
abbrev kP:Obj:= .cells #[.slice none 0 0,.slice none 0 0,.slice none 0 0,.slice none 0 0,.slice none 0 0,.int .i64 0,.int .i64 0] 28 (0,0)
end Go.Proofs.YtcmiljnbmgkdnaaGreat
