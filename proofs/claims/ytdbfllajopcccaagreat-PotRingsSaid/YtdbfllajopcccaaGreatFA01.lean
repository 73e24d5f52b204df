import Derived.RowKit
import Derived.WalkKit
import Derived.Laws.BitsLemmas
import Derived.Laws.Entries
import Derived.Laws.OwnMore
import Derived.Laws.AppendOwnNone
import Derived.Deep.AppendLies
import Derived.Deep.Draws
import Derived.Test.YtdbfllajopcccaaGreatRows
import Derived.ProofKit
import Derived.OpenShut
import Derived.Outline
import Derived.Deep.QuietTactic
import Derived.BigQuiet
import Derived.Deep.Cut
import Derived.Deep.RegionHeld3
import Derived.RegionTactic
import Derived.RangeFuncCalls
import Derived.OrdersHeld
import Derived.OwnWalkIn
import Derived.Shelf.Sort.Plain
import Derived.Shelf.Slices.In.SortNone
import Derived.Test.YtdbfllajopcccaaGreatProg
import Derived.Deep.Slices
import Derived.Deep.Fields
import Derived.ChangeSame
import Derived.Lib.SmallJoins
import Derived.SizedLaws
import Derived.Test.YtdbfllajopcccaaGreatFA00
namespace Go.Proofs.YtdbfllajopcccaaGreat
set_option maxRecDepth 100000
set_option linter.unusedVariables false
set_option linter.unusedSimpArgs false
open Go.RowKit
theorem qny{a b:Bool}(h:a=b):Ending.returned (.bool a)= .returned (.bool b):=by rw[h]
def plain(n:Int):Nat:=(n % 4294967296).toNat
theorem zt(a:Addr)(n:Nat):(a.add n).block=a.block:=by
 unfold Addr.add;split<;>rfl
theorem Yc(a:Addr)(i j:Nat):(a.add i).add j=a.add (i+j):=by
 unfold Addr.add;by_cases hi:i=0<;>by_cases hj:j=0<;>simp[hi,hj,Nat.add_assoc]
def zz(w:World)(B:Nat)(A:Option Addr)(xs:List Value):Prop:=
 ∀j u,xs[j]? =some u→∃ad,A=some ad∧ad.block<B∧w.cell? (ad.add j)=some u
section
variable{w w':World}{B B':Nat}{A:Option Addr}{xs:List Value}
theorem zz.nil:zz w B A []:=fun _ _ h=>by simp at h
theorem zz.at_{k:Nat}(h:zz w B A xs)(hk:k<xs.length):∃ad,A=some ad∧ad.block<B∧w.cell? (ad.add k)=some xs[k]:=
 h k _ (List.getElem?_eq_getElem hk)
theorem zz.keep(h:zz w B A xs)(hk:∀p:Addr,p.block<B→w'.cell? p=w.cell? p):zz w' B A xs:=fun j u hu=>by
 obtain⟨ad,e,hb,hc⟩:=h j u hu;exact⟨ad,e,hb,(hk _ (by rw[zt];exact hb)).trans hc⟩
theorem zz.more(h:zz w B A xs)(hB:B≤B'):zz w B' A xs:=fun j u hu=>by
 obtain⟨ad,e,hb,hc⟩:=h j u hu;exact⟨ad,e,Nat.lt_of_lt_of_le hb hB,hc⟩
theorem zz.below(h:zz w B A xs)(hb:Below B w w'):zz w' B A xs:=h.keep fun _ hp=>hb.cell hp
theorem zz.below_to{C:Nat}(h:zz w B A xs)(hb:Below C w w')(hC:B≤C):zz w' B A xs:=h.keep fun _ hp=>hb.cell (Nat.lt_of_lt_of_le hp hC)
theorem zz.drew(h:zz w B A xs):zz w.drew B A xs:=h
theorem zz.drewN(h:zz w B A xs)(k:Nat):zz (w.drewN k) B A xs:=h
theorem zz.drop_(h:zz w B A xs)(k:Nat):zz w B (A.map (·.add k)) (xs.drop k):=fun j u hu=>by
 rw[List.getElem?_drop]at hu;obtain⟨ad,e,hb,hc⟩:=h _ _ hu;exact⟨ad.add k,by rw[e];rfl,by rw[zt];exact hb,by rw[Yc];exact hc⟩
theorem zz.take_(h:zz w B A xs)(k:Nat):zz w B A (xs.take k):=fun j u hu=>by
 rw[List.getElem?_take]at hu;split at hu
 ·exact h j u hu
 ·cases hu
theorem zz.cut(h:zz w B A xs){k cap:Nat}(hc:xs.length≤cap):zz w B (if cap=k then A else A.map (·.add k)) (xs.drop k):=by
 split
 ·rename_i e;rw[List.drop_eq_nil_of_le (by omega)];exact zz.nil
 ·exact h.drop_ k
theorem zz.of_own{base e n c:Nat}(h:w.ownsRow base e 1 (.slice A n c) n xs):zz w w.heap.size A xs:=by
 rcases h.2 with⟨hv,hn⟩|⟨g,cap,cur,hv,hb,hh,h1,h2,h3,h4⟩
 ·have:xs=[]:=List.eq_nil_of_length_eq_zero (by rw[h.1,hn]);rw[this];exact zz.nil
 ·intro j u hu;have hA:A=some ⟨g,0,none⟩:=by injection hv
  have hg:g<w.heap.size:=by
   rcases Nat.lt_or_ge g w.heap.size with hlt|hge
   ·exact hlt
   ·rw[Array.getElem?_eq_none hge]at hh;cases hh
  refine⟨⟨g,0,none⟩,hA,hg,?_⟩;have hju:cur.toList[j]? =some u:=by
   rw[←h4,List.getElem?_take]at hu;split at hu
   ·exact hu
   ·cases hu
  have hcell:w.cell? ⟨g,j,none⟩=cur[j]? :=cell_of_row w g j cur e (0,0) hh;have:(Addr.add ⟨g,0,none⟩ j)=⟨g,j,none⟩:=by
   unfold Addr.add;split
   ·rename_i h0;subst h0;rfl
   ·simp
  rw[this,hcell,←hju];simp
end
theorem q1x{w:World}{base e n:Nat}{v:Value}{xs:List Value}(h:w.ownsRow base e 1 v n xs):∃A c,v= .slice A n c∧zz w w.heap.size A xs:=by
 rcases h.2 with⟨rfl,rfl⟩|⟨g,cap,cur,rfl,_⟩
 ·exact⟨none,0,rfl,zz.of_own h⟩
 ·exact⟨_,cap,rfl,zz.of_own h⟩
theorem jI{w:World}{base base' e size n:Nat}{v:Value}{xs:List Value}(h:w.ownsRow base e size v n xs)(hb:base'≤base):w.ownsRow base' e size v n xs:=by
 refine⟨h.1,?_⟩;rcases h.2 with h0|⟨g,cap,cur,hv,hg,rest⟩
 ·exact .inl h0
 ·exact .inr ⟨g,cap,cur,hv,Nat.le_trans hb hg,rest⟩
theorem qG{w w':World}{base e size n B:Nat}{v:Value}{xs:List Value}(h:w.ownsRow base e size v n xs)(hb:Below B w w')(hB:∀g,v.ownBlock=some g→g<B):w'.ownsRow base e size v n xs:=by
 refine⟨h.1,?_⟩;rcases h.2 with h0|⟨g,cap,cur,hv,hg,hh,rest⟩
 ·exact .inl h0
 ·refine .inr ⟨g,cap,cur,hv,hg,?_,rest⟩;rw[hb.block g (hB g (by rw[hv];rfl))];exact hh
theorem qi{w:World}{base e size n:Nat}{v:Value}{xs:List Value}(h:w.ownsRow base e size v n xs):∀g,v.ownBlock=some g→g<w.heap.size:=by
 intro g hg;rcases h.2 with⟨rfl,_⟩|⟨g',cap,cur,rfl,hb,hh,_⟩
 ·simp[Value.ownBlock]at hg
 ·have:g'=g:=by simpa[Value.ownBlock]using hg
  subst this;rcases Nat.lt_or_ge g' w.heap.size with hlt|hge
  ·exact hlt
  ·rw[Array.getElem?_eq_none hge]at hh;cases hh
theorem q42{w:World}{B:Nat}{A:Option Addr}{xs:List Value}(H:Hid (zz w B A xs))(HB:Hid (B≤w.heap.size))(o:Obj):zz (w.alloc o) B A xs:=
 H.out.keep fun p hp=>World.cell?_alloc_lt w o p (Nat.lt_of_lt_of_le hp HB.out)
theorem JB(w:World)(T:TypeId):(w.alloc (.cells #[] T)).ownsRow w.heap.size T 1 (.slice (some ⟨w.heap.size,0,none⟩) 0 0) 0 []:=
 ⟨rfl,.inr ⟨w.heap.size,0,#[],rfl,zn _,heap_alloc_new _ _,zn _,by unfold maxLen;omega,rfl,rfl⟩⟩
abbrev zO(k n:Int):Value:= .agg #[.int .i64 k,.int .i64 n]
def jr(w:World)(B:Nat)(A:Option Addr)(sup:List Int):Prop:=
 ∀i s,sup[i]? =some s→∃ad,A=some ad∧ad.block<B∧w.cell? (ad.add (i*3))=some (.int .i64 s)
theorem jr.below_to{w w':World}{B C:Nat}{A:Option Addr}{sup:List Int}(h:jr w B A sup)(hb:Below C w w')(hC:B≤C):jr w' B A sup:=fun i s hs=>by
 obtain⟨ad,e,hlt,hc⟩:=h i s hs;exact⟨ad,e,hlt,(hb.cell (by rw[zt];omega)).trans hc⟩
theorem qm0{w:World}{B g:Nat}{xs:List Value}(h:zz w B (some ⟨g,0,none⟩) xs)(j:Nat)(hj:j<xs.length):w.cell? ⟨g,j,none⟩=some xs[j]:=by
 obtain⟨ad,e,_,hc⟩:=h.at_ hj;injection e with e;subst e;have e:(Addr.add ⟨g,0,none⟩ j)=⟨g,j,none⟩:=by
  unfold Addr.add;split
  ·rename_i h0;subst h0;rfl
  ·simp
 rw[←e];exact hc
theorem jf{B:Nat}{a w:World}(h:Below B a w)(n:Nat):Below B a (w.drewN n):=⟨h.os,h.tape,h.output,h.size,h.block⟩
def q6s(w:World)(p:Addr)(x y z:Int):Prop:=w.cell? p=some (.int .i64 x)∧w.cell? ⟨p.block,p.off+1,none⟩=some (.int .i64 y)∧w.cell? ⟨p.block,p.off+2,none⟩=some (.int .i64 z)
theorem q6s.keep{w w':World}{p:Addr}{x y z:Int}{B:Nat}(h:q6s w p x y z)(hb:Below B w w')(hp:p.block<B):q6s w' p x y z:=
 ⟨(hb.cell hp).trans h.1,(hb.cell (p:=⟨p.block,p.off+1,none⟩) hp).trans h.2.1,(hb.cell (p:=⟨p.block,p.off+2,none⟩) hp).trans h.2.2⟩
abbrev qI(α:Type):=World→Nat→Addr→α→Prop
def vF{α:Type}(At:qI α):Prop:=∀ ⦃w w':World⦄ ⦃B C:Nat⦄ ⦃p:Addr⦄ ⦃x:α⦄,At w B p x→p.block<B→B≤C→(∀q:Addr,q.block<B→w'.cell? q=w.cell? q)→At w' C p x
def qt{α:Type}(At:qI α)(k:Nat)(w:World)(B:Nat)(A:Option Addr)(l:List α):Prop:=
 ∀i x,l[i]? =some x→∃ad,A=some ad∧ad.block<B∧At w B (ad.add (i*k)) x
section
variable{α:Type}{At:qI α}{k:Nat}{w w':World}{B C:Nat}{A:Option Addr}{l:List α}
theorem qt.nil:qt At k w B A []:=fun _ _ h=>by simp at h
theorem qt.keep'(hK:vF At)(h:qt At k w B A l)(hC:B≤C)(hc:∀q:Addr,q.block<B→w'.cell? q=w.cell? q):qt At k w' C A l:=fun i x hi=>by
 obtain⟨ad,e,hb,ha⟩:=h i x hi;exact⟨ad,e,Nat.lt_of_lt_of_le hb hC,hK ha (by rw[zt];exact hb) hC hc⟩
theorem qt.below(hK:vF At)(h:qt At k w B A l)(hb:Below B w w'):qt At k w' B A l:=h.keep' hK (zn _) fun _ hq=>hb.cell hq
theorem qt.below_to(hK:vF At)(h:qt At k w B A l)(hb:Below C w w')(hC:B≤C):qt At k w' B A l:=h.keep' hK (zn _) fun _ hq=>hb.cell (Nat.lt_of_lt_of_le hq hC)
theorem qt.more(hK:vF At)(h:qt At k w B A l)(hC:B≤C):qt At k w C A l:=h.keep' hK hC fun _ _=>rfl
theorem qt.at_{i:Nat}(h:qt At k w B A l)(hi:i<l.length):∃ad,A=some ad∧ad.block<B∧At w B (ad.add (i*k)) l[i]:=h i _ (List.getElem?_eq_getElem hi)
theorem qt.take_(h:qt At k w B A l)(n:Nat):qt At k w B A (l.take n):=fun i x hi=>by
 rw[List.getElem?_take]at hi;split at hi
 ·exact h i x hi
 ·cases hi
end
abbrev zc(p:Addr)(n:Nat):Addr:=⟨p.block,p.off+n,none⟩
def zo:qI Int:=fun w _ p n=>w.cell? p=some (.int .i64 n)
theorem zo.keeps:vF zo:=fun _ _ _ _ p _ h hp _ hc=>(hc _ hp).trans h
def jo:qI Int:=fun w _ p n=>w.cell? p=some (.int .i32 n)∧ -2147483648≤n∧n≤2147483647
theorem jo.keeps:vF jo:=fun _ _ _ _ p _ h hp _ hc=>⟨(hc _ hp).trans h.1,h.2⟩
def zi:qI (Int×Int):=fun w _ p t=>w.cell? p=some (.int .i64 t.1)∧w.cell? (zc p 1)=some (.int .i64 t.2)
theorem zi.keeps:vF zi:=fun _ _ _ _ p _ h hp _ hc=>⟨(hc _ hp).trans h.1,(hc (zc p 1) hp).trans h.2⟩
def qw:qI (Int×Int×Int):=fun w _ p i=>w.cell? p=some (.int .i64 i.1)∧w.cell? (zc p 1)=some (.int .i64 i.2.1)∧w.cell? (zc p 2)=some (.int .i64 i.2.2)
theorem qw.keeps:vF qw:=fun _ _ _ _ p _ h hp _ hc=>⟨(hc _ hp).trans h.1,(hc (zc p 1) hp).trans h.2.1,(hc (zc p 2) hp).trans h.2.2⟩
structure zd{α:Type}(At:qI α)(k:Nat)(w:World)(B:Nat)(A:Option Addr)(cap:Nat)(l:List α):Prop where
 le:l.length≤cap
 cap:cap≤9223372036854775807
 row:qt At k w B A l
def qb{α:Type}(At:qI α)(k:Nat):qI (List α):=fun w B p l=>∃A cap,w.cell? p=some (.slice A l.length cap)∧zd At k w B A cap l
theorem zd.keep'{α:Type}{At:qI α}(hK:vF At){k:Nat}{w w':World}{B C:Nat}{A:Option Addr}{cap:Nat}{l:List α}(h:zd At k w B A cap l)(hC:B≤C)(hc:∀q:Addr,q.block<B→w'.cell? q=w.cell? q):zd At k w' C A cap l:=
 ⟨h.le,h.cap,h.row.keep' hK hC hc⟩
theorem zd.below_to{α:Type}{At:qI α}(hK:vF At){k:Nat}{w w':World}{B C:Nat}{A:Option Addr}{cap:Nat}{l:List α}(h:zd At k w B A cap l)(hb:Below C w w')(hC:B≤C):zd At k w' B A cap l:=
 h.keep' hK (zn _) fun _ hq=>hb.cell (Nat.lt_of_lt_of_le hq hC)
theorem qb.keeps{α:Type}{At:qI α}(hK:vF At)(k:Nat):vF (qb At k):=fun _ _ _ _ _ _ ⟨A,cap,h,hs⟩ hp hC hc=>⟨A,cap,(hc _ hp).trans h,hs.keep' hK hC hc⟩
structure qv where
 sup:Int
 fields:List (Int×Int)
 slots:List Int
deriving DecidableEq
structure ze where
 args:List (Int×Int)
 locals:List (Int×Int)
 ret:Int×Int
 code:List (Int×Int×Int)
 depth:Int
 pot:Int
 phi:List Int
deriving DecidableEq
structure za where
 classes:List qv
 statics:List (Int×Int)
 ints:List Int
 methods:List ze
 entries:List Int
 stack:Int
 heap:Int
deriving DecidableEq
structure jc(w:World)(B:Nat)(p:Addr)(c:qv):Prop where
 sup:w.cell? p=some (.int .i64 c.sup)
 fields:qb zi 2 w B (zc p 1) c.fields
 slots:qb zo 1 w B (zc p 2) c.slots
 rng: -9223372036854775808≤c.sup∧c.sup≤9223372036854775807
theorem jc.keeps:vF jc:=fun _ _ _ _ _ _ h hp hC hc=>⟨(hc _ hp).trans h.sup,qb.keeps zi.keeps 2 h.fields hp hC hc,qb.keeps zo.keeps 1 h.slots hp hC hc,h.rng⟩
structure jW(w:World)(B:Nat)(p:Addr)(x:ze):Prop where
 args:qb zi 2 w B p x.args
 locals:qb zi 2 w B (zc p 1) x.locals
 ret0:w.cell? (zc p 2)=some (.int .i64 x.ret.1)
 ret1:w.cell? (zc p 3)=some (.int .i64 x.ret.2)
 code:qb qw 3 w B (zc p 4) x.code
 depth:w.cell? (zc p 5)=some (.int .i64 x.depth)
 pot:w.cell? (zc p 6)=some (.int .i64 x.pot)
 phi:qb zo 1 w B (zc p 7) x.phi
theorem jW.keeps:vF jW:=fun _ _ _ _ p _ h hp hC hc=>
 ⟨qb.keeps zi.keeps 2 h.args hp hC hc,qb.keeps zi.keeps 2 h.locals hp hC hc,(hc (zc p 2) hp).trans h.ret0,(hc (zc p 3) hp).trans h.ret1,qb.keeps qw.keeps 3 h.code hp hC hc,
  (hc (zc p 5) hp).trans h.depth,(hc (zc p 6) hp).trans h.pot,qb.keeps zo.keeps 1 h.phi hp hC hc⟩
structure zl where
 A0:Option Addr
 A1:Option Addr
 A2:Option Addr
 A3:Option Addr
 A4:Option Addr
 c0:Nat
 c1:Nat
 c2:Nat
 c3:Nat
 c4:Nat
abbrev zr(h:zl)(m:za):Value:=
 .agg #[.slice h.A0 m.classes.length h.c0,.slice h.A1 m.statics.length h.c1,.slice h.A2 m.ints.length h.c2,.slice h.A3 m.methods.length h.c3,.slice h.A4 m.entries.length h.c4,.int .i64 m.stack,.int .i64 m.heap]
structure zp(w:World)(B:Nat)(h:zl)(m:za):Prop where
 classes:zd jc 3 w B h.A0 h.c0 m.classes
 statics:zd zi 2 w B h.A1 h.c1 m.statics
 ints:zd jo 1 w B h.A2 h.c2 m.ints
 methods:zd jW 8 w B h.A3 h.c3 m.methods
 entries:zd zo 1 w B h.A4 h.c4 m.entries
theorem zp.keep'{w w':World}{B C:Nat}{h:zl}{m:za}(H:zp w B h m)(hC:B≤C)(hc:∀q:Addr,q.block<B→w'.cell? q=w.cell? q):zp w' C h m:=
 ⟨H.classes.keep' jc.keeps hC hc,H.statics.keep' zi.keeps hC hc,H.ints.keep' jo.keeps hC hc,H.methods.keep' jW.keeps hC hc,H.entries.keep' zo.keeps hC hc⟩
theorem zp.below_to{w w':World}{B C:Nat}{h:zl}{m:za}(H:zp w B h m)(hb:Below C w w')(hC:B≤C):zp w' B h m:=H.keep' (zn _) fun _ hq=>hb.cell (Nat.lt_of_lt_of_le hq hC)
theorem zp.more{w:World}{B C:Nat}{h:zl}{m:za}(H:zp w B h m)(hC:B≤C):zp w C h m:=H.keep' hC fun _ _=>rfl
open Go.ChangeShapes Go.WideShapes Go.ChangeAt Go.RowKit
def qc(l:List Int)(n:Int):Bool:=decide (n ∈l)
theorem qrc(n:Int):qc [] n=false:=rfl
theorem QV(l:List Int)(n:Int)(A:Option Addr)(cap B:Nat)(w:World)(hl:l.length≤9223372036854775807)(h:zz w B A (l.map (Value.int .i64))):
  Calls Tryz.prog 61 #[.slice A l.length cap,.int .i64 n] w fun e w'=>e= .returned (.bool (qc l n))∧w=w':=by
 have HL:=zH h;clear h;go_enter Tryz.func61,Tryz.ntmps61;go_wp2
 go_loop [5] (fun i=>∃k:Nat,k≤l.length∧i= .int .i64 k∧qc l n=qc (l.drop k) n) (fun i=>l.length - (intOf i).toNat)
 case atStart=>exact⟨0,by omega,rfl,rfl⟩
 case round=>
  obtain⟨k,hk,rfl,hn⟩:=hrel;have HN:=zH hn;clear hn;by_cases hlt:k<l.length
  ·obtain⟨ad,rfl,_,hc⟩:=HL.out.at_ (k:=k) (by simpa using hlt);have E1:=zH (List.drop_eq_getElem_cons hlt);simp only[List.getElem_map]at hc;generalize l[k]=b at*
   by_cases hb:b=n
   ·subst hb;have R:=zH (show qc l b=true by rw[HN.out,E1.out];simp[qc]);clear HN E1;go_wp2_with fail
    go_ret;refine⟨?_,rfl⟩;rw[R.out];rfl
   ·have R:=zH (show qc l n=qc (l.drop (k+1)) n by
     rw[HN.out,E1.out];unfold qc;simp only[List.mem_cons];rw[decide_eq_decide];constructor
     ·rintro(h|h)
      ·exact absurd h.symm hb
      ·exact h
     ·exact .inr)
    clear HN E1;go_wp2_with fail
    go_round
    case rel=>exact⟨k+1,by omega,by go_num,R.out⟩
    case measure=>simp[intOf];omega
  ·have R:=zH (show qc l n=false by rw[HN.out,List.drop_eq_nil_of_le (by omega)];rfl);clear HN;go_wp2_with fail
   go_ret;refine⟨?_,rfl⟩;rw[R.out];rfl
def zT(w:World)(N:Nat)(vs:List Value):Prop:=∀i v,vs[i]? =some v→w.cell? ⟨N,i,none⟩=some v
theorem zT.keep{w w':World}{N B:Nat}{vs:List Value}(H:zT w N vs)(hb:Below B w w')(hN:N<B):zT w' N vs:=fun i v h=>(hb.cell (p:=⟨N,i,none⟩) hN).trans (H i v h)
theorem qd(w:World)(vs:List Value)(T:TypeId):zT (w.alloc (.cells vs.toArray T)) w.heap.size vs:=fun i v h=>by
 rw[World.cell?_alloc_at _ _ _ _ rfl];simpa using h
theorem zJ{w:World}{N:Nat}{v0 v1 v2:Value}{l:List Value}(h:zT w N (v0::v1::v2::l)):w.cell? ⟨N,0,none⟩=some v0∧w.cell? ⟨N,1,none⟩=some v1∧w.cell? ⟨N,2,none⟩=some v2:=⟨h 0 _ rfl,h 1 _ rfl,h 2 _ rfl⟩
theorem qm{w:World}{N:Nat}{v0 v1 v2 v3 v4 v5 v6:Value}{l:List Value}(h:zT w N (v0::v1::v2::v3::v4::v5::v6::l)):w.cell? ⟨N,0,none⟩=some v0∧w.cell? ⟨N,1,none⟩=some v1∧w.cell? ⟨N,2,none⟩=some v2∧w.cell? ⟨N,3,none⟩=some v3∧w.cell? ⟨N,4,none⟩=some v4∧w.cell? ⟨N,5,none⟩=some v5∧w.cell? ⟨N,6,none⟩=some v6:=⟨h 0 _ rfl,h 1 _ rfl,h 2 _ rfl,h 3 _ rfl,h 4 _ rfl,h 5 _ rfl,h 6 _ rfl⟩
theorem qH{w:World}{N:Nat}{v0 v1 v2 v3 v4 v5 v6 v7:Value}{l:List Value}(h:zT w N (v0::v1::v2::v3::v4::v5::v6::v7::l)):w.cell? ⟨N,0,none⟩=some v0∧w.cell? ⟨N,1,none⟩=some v1∧w.cell? ⟨N,2,none⟩=some v2∧w.cell? ⟨N,3,none⟩=some v3∧w.cell? ⟨N,4,none⟩=some v4∧w.cell? ⟨N,5,none⟩=some v5∧w.cell? ⟨N,6,none⟩=some v6∧w.cell? ⟨N,7,none⟩=some v7:=⟨h 0 _ rfl,h 1 _ rfl,h 2 _ rfl,h 3 _ rfl,h 4 _ rfl,h 5 _ rfl,h 6 _ rfl,h 7 _ rfl⟩
theorem zj{w0 w w':World}(H:Hid (Below w0.heap.size w0 w))(hb:Below w.heap.size w w'):Hid (Below w0.heap.size w0 w'):=zH (H.out.trans (hb.mono H.out.size))
def Zl(w:World)(N:Nat)(h:zl)(m:za):Prop:=
 w.cell? ⟨N,0,none⟩=some (.slice h.A0 m.classes.length h.c0)∧w.cell? ⟨N,1,none⟩=some (.slice h.A1 m.statics.length h.c1)∧w.cell? ⟨N,2,none⟩=some (.slice h.A2 m.ints.length h.c2)∧
 w.cell? ⟨N,3,none⟩=some (.slice h.A3 m.methods.length h.c3)∧w.cell? ⟨N,4,none⟩=some (.slice h.A4 m.entries.length h.c4)∧w.cell? ⟨N,5,none⟩=some (.int .i64 m.stack)∧w.cell? ⟨N,6,none⟩=some (.int .i64 m.heap)
theorem Zl.keep{w w':World}{N B:Nat}{h:zl}{m:za}(H:Zl w N h m)(hb:Below B w w')(hN:N<B):Zl w' N h m:=by
 obtain⟨h0,h1,h2,h3,h4,h5,h6⟩:=H;have c:∀i,w'.cell? ⟨N,i,none⟩=w.cell? ⟨N,i,none⟩:=fun i=>hb.cell (p:=⟨N,i,none⟩) hN;exact⟨(c 0).trans h0,(c 1).trans h1,(c 2).trans h2,(c 3).trans h3,(c 4).trans h4,(c 5).trans h5,(c 6).trans h6⟩
abbrev zq(h:zl)(m:za):Obj:=
 .cells #[.slice h.A0 m.classes.length h.c0,.slice h.A1 m.statics.length h.c1,.slice h.A2 m.ints.length h.c2,.slice h.A3 m.methods.length h.c3,.slice h.A4 m.entries.length h.c4,.int .i64 m.stack,.int .i64 m.heap] 28
theorem qf(w:World)(h:zl)(m:za):Zl (w.alloc (zq h m)) w.heap.size h m:=by
 refine⟨?_,?_,?_,?_,?_,?_,?_⟩<;>(rw[World.cell?_alloc_at _ _ _ _ rfl];rfl)
theorem Zc{α:Type}{f:α→Bool}{l:List α}{k:Nat}(hk:k<l.length)(h:∀x ∈l.take k,f x=true)(hx:f l[k]=true):∀x ∈l.take (k+1),f x=true:=by
 rw[List.take_add_one,List.getElem?_eq_getElem hk];intro x hm;rcases List.mem_append.mp hm with g|g
 ·exact h x g
 ·simp at g;subst g;exact hx
theorem Zx{α:Type}{f:α→Bool}{l:List α}{k:Nat}(hk:k<l.length)(hx:f l[k]=false):l.all f=false:=by
 rw[Bool.eq_false_iff];intro h;have:=List.all_eq_true.mp h _ (List.getElem_mem hk);rw[hx]at this;cases this
theorem ZO{α:Type}{f:α→Bool}{l:List α}{k:Nat}(h:∀x ∈l.take k,f x=true)(hk:l.length≤k):l.all f=true:=by
 rw[List.take_of_length_le hk]at h;exact List.all_eq_true.mpr h
structure Boxed(w:World)(g:Nat)(h:zl)(m:za):Prop where
 box:Zl w g h m
 lt:g<w.heap.size
 img:zp w w.heap.size h m
theorem zp.now{w w':World}{h:zl}{m:za}(H:zp w w.heap.size h m)(hb:Below w.heap.size w w'):zp w' w'.heap.size h m:=
 (H.below_to hb (zn _)).more hb.size
theorem Boxed.keep{w w':World}{g:Nat}{h:zl}{m:za}(H:Boxed w g h m)(hb:Below w.heap.size w w'):Boxed w' g h m:=
 ⟨H.box.keep hb H.lt,Nat.lt_of_lt_of_le H.lt hb.size,H.img.now hb⟩
theorem Boxed.new{w:World}{h:zl}{m:za}(H:zp w w.heap.size h m):Boxed (w.alloc (zq h m)) w.heap.size h m:=
 ⟨qf w h m,by simp,H.now ((zb _ _).alloc (zn _) _)⟩
theorem ko{w:World}{h:zl}{m:za}:Below w.heap.size w (w.alloc (zq h m)):=(zb _ _).alloc (zn _) _
theorem mvT{P:Program}{md:Region.Mode}{ops:Array Oper}{Q:Exit→Act→World→Prop}{S:World→Prop}{fuel:Nat}{listed:Array Bool}{a:Act}{w:World}(i:Nat){oi:Oper}{v:Value}(hS:S w)(hi:ops[i]? =some oi:=by rfl)
  (hs:Region.noSelect ops=true:=by kernel_rfl) (hf:Region.free md ops listed i=true:=by kernel_rfl) (hr:(Region.ready md ops listed).contains i=true:=by kernel_rfl)
  (hQ:∀c a w,Q (.panic c) (a.put oi.dst v) w→Q (.panic c) a w:=by exact fun _ _ _ h=>h) (hy:YieldsIf P ops S oi v a:=by(refine Or.inl ⟨by rfl,?_⟩;intro w hSw;(try dsimp only at hSw);go_simp<;>with_reducible rfl))
  (h:wpAnyH P md ops Q S fuel (listed.setIfInBounds i true) (a.put oi.dst v) w):wpAnyH P md ops Q S (fuel+1) listed a w:=wpAnyH_take hi hs hf hr hQ hy hS h
theorem mvU{P:Program}{md:Region.Mode}{ops:Array Oper}{Q:Exit→Act→World→Prop}{S:World→Prop}{fuel:Nat}{listed:Array Bool}{a:Act}{w:World}(i:Nat){oi:Oper}(hS:S w)(hi:ops[i]? =some oi:=by rfl)
  (hs:Region.noSelect ops=true:=by kernel_rfl) (hf:Region.free md ops listed i=true:=by kernel_rfl) (hr:(Region.ready md ops listed).contains i=true:=by kernel_rfl)
  (hQ:∀c a w,Q (.panic c) (a.put oi.dst undef) w→Q (.panic c) a w:=by exact fun _ _ _ h=>h) (hy:YieldsIf P ops S oi undef a:=by exact Or.inr ⟨by rfl,rfl⟩)
  (h:wpAnyH P md ops Q S fuel (listed.setIfInBounds i true) (a.put oi.dst undef) w):wpAnyH P md ops Q S (fuel+1) listed a w:=wpAnyH_take hi hs hf hr hQ hy hS h
theorem sA{α:Type}{xs:List α}{i:Nat}(h:i<xs.toArray.size):xs.toArray[i]=xs[i]'(by simpa using h):=List.getElem_toArray h
theorem sB{α:Type}{a:α}{ys:List α}{i:Nat}{h:i+1<(a::ys).length}:(a::ys)[i+1]'h=ys[i]'(Nat.lt_of_succ_lt_succ h):=rfl
theorem sC{α:Type}{a:α}{ys:List α}{h:0<(a::ys).length}:(a::ys)[0]'h=a:=rfl
theorem sD{α:Type}{l:List α}{i:Nat}{a:α}:l.toArray.setIfInBounds i a=(l.set i a).toArray:=List.setIfInBounds_toArray ..
theorem sE{α:Type}{x:α}{xs:List α}{a:α}:(x::xs).set 0 a=a::xs:=rfl
theorem sF{α:Type}{x:α}{xs:List α}{i:Nat}{a:α}:(x::xs).set (i+1) a=x::xs.set i a:=rfl
theorem mT{P:Program}{md:Region.Mode}{ops:Array Oper}{Q:Exit→Act→World→Prop}{S:World→Prop}{fuel:Nat}{listed listed':Array Bool}{a a':Act}{w:World}(i:Nat){oi:Oper}{v:Value}(hS:S w:=by assumption)(hi:ops[i]? =some oi:=by rfl)
  (hs:Region.noSelect ops=true:=by kernel_rfl) (hf:Region.free md ops listed i=true:=by kernel_rfl) (hr:(Region.ready md ops listed).contains i=true:=by kernel_rfl)
  (hQ:∀c a w,Q (.panic c) (a.put oi.dst v) w→Q (.panic c) a w:=by exact fun _ _ _ h=>h) (hy:YieldsIf P ops S oi v a:=by(refine Or.inl ⟨by rfl,?_⟩;intro w hSw;(try dsimp only at hSw);go_simp<;>with_reducible rfl))
  (hl:listed.setIfInBounds i true=listed':=by(first|(simp only[sA,sB,sC,Act.put,sD,sE,sF]<;>rfl)|rfl))
  (ha:a.put oi.dst v=a':=by(first|(simp only[sA,sB,sC,Act.put,sD,sE,sF]<;>rfl)|rfl))
  (h:wpAnyH P md ops Q S fuel listed' a' w):wpAnyH P md ops Q S (fuel+1) listed a w:=mvT i hS hi hs hf hr hQ hy (by rw[hl,ha];exact h)
theorem mU{P:Program}{md:Region.Mode}{ops:Array Oper}{Q:Exit→Act→World→Prop}{S:World→Prop}{fuel:Nat}{listed listed':Array Bool}{a a':Act}{w:World}(i:Nat){oi:Oper}(hS:S w:=by assumption)(hi:ops[i]? =some oi:=by rfl)
  (hs:Region.noSelect ops=true:=by kernel_rfl) (hf:Region.free md ops listed i=true:=by kernel_rfl) (hr:(Region.ready md ops listed).contains i=true:=by kernel_rfl)
  (hQ:∀c a w,Q (.panic c) (a.put oi.dst undef) w→Q (.panic c) a w:=by exact fun _ _ _ h=>h) (hy:YieldsIf P ops S oi undef a:=by exact Or.inr ⟨by rfl,rfl⟩)
  (hl:listed.setIfInBounds i true=listed':=by(first|(simp only[sA,sB,sC,Act.put,sD,sE,sF]<;>rfl)|rfl))
  (ha:a.put oi.dst undef=a':=by(first|(simp only[sA,sB,sC,Act.put,sD,sE,sF]<;>rfl)|rfl))
  (h:wpAnyH P md ops Q S fuel listed' a' w):wpAnyH P md ops Q S (fuel+1) listed a w:=mvU i hS hi hs hf hr hQ hy (by rw[hl,ha];exact h)
structure zS where
 A0:Option Addr
 A1:Option Addr
 A4:Option Addr
 A7:Option Addr
 k0:Nat
 k1:Nat
 k4:Nat
 k7:Nat
abbrev kW(h:zS)(x:ze):Value:=
 .agg #[.slice h.A0 x.args.length h.k0,.slice h.A1 x.locals.length h.k1,.int .i64 x.ret.1,.int .i64 x.ret.2,.slice h.A4 x.code.length h.k4,.int .i64 x.depth,.int .i64 x.pot,.slice h.A7 x.phi.length h.k7]
abbrev qe(h:zS)(x:ze):List Value:=
 [.slice h.A0 x.args.length h.k0,.slice h.A1 x.locals.length h.k1,.int .i64 x.ret.1,.int .i64 x.ret.2,.slice h.A4 x.code.length h.k4,.int .i64 x.depth,.int .i64 x.pot,.slice h.A7 x.phi.length h.k7]
structure qy(w:World)(B:Nat)(h:zS)(x:ze):Prop where
 args:zd zi 2 w B h.A0 h.k0 x.args
 locals:zd zi 2 w B h.A1 h.k1 x.locals
 code:zd qw 3 w B h.A4 h.k4 x.code
 phi:zd zo 1 w B h.A7 h.k7 x.phi
theorem qy.now{w w':World}{h:zS}{x:ze}(H:qy w w.heap.size h x)(hb:Below w.heap.size w w'):qy w' w'.heap.size h x:=
 ⟨(H.args.below_to zi.keeps hb (zn _)).keep' zi.keeps hb.size (fun _ _=>rfl),(H.locals.below_to zi.keeps hb (zn _)).keep' zi.keeps hb.size (fun _ _=>rfl),
  (H.code.below_to qw.keeps hb (zn _)).keep' qw.keeps hb.size (fun _ _=>rfl),(H.phi.below_to zo.keeps hb (zn _)).keep' zo.keeps hb.size (fun _ _=>rfl)⟩
section
variable{α:Type}
theorem YL{l m:List α}(h:l.length=m.length)(k:Nat)(hk:l.take k=m.take k)(hl:l.length≤k):l=m:=by
 rw[List.take_of_length_le hl,List.take_of_length_le (by omega)]at hk;exact hk
theorem YX{l m:List α}{k:Nat}(hl:k<l.length)(hm:k<m.length)(h:¬l[k]=m[k]):¬l=m:=fun e=>by subst e;exact h rfl
theorem Vb{l m:List α}{k:Nat}(hl:k<l.length)(hm:k<m.length)(hk:l.take k=m.take k)(h:l[k]=m[k]):l.take (k+1)=m.take (k+1):=by
 rw[List.take_add_one,List.take_add_one,List.getElem?_eq_getElem hl,List.getElem?_eq_getElem hm,hk,h]
end
theorem q37(l m:List (Int×Int))(A A':Option Addr)(cap cap' B:Nat)(w:World)(hB:B≤w.heap.size)(h:zd zi 2 w B A cap l)(h':zd zi 2 w B A' cap' m):
  Calls Tryz.prog 41 #[.slice A l.length cap,.slice A' m.length cap'] w fun e w'=>e= .returned (.bool (decide (l=m)))∧Below w.heap.size w w':=by
 have hlc:=h.le;have hcm:=h.cap;have hlc':=h'.le;have hcm':=h'.cap;have HL:=zH h;have HM:=zH h';have HB:=zH hB;clear h h' hB;obtain⟨b,hb⟩:∃b,decide (l=m)=b:=⟨_,rfl⟩
 rw[hb];have E:=zH hb.symm;clear hb;by_cases hn:l.length=m.length
 ·have HLN:=zH hn;have hlen:m.length=l.length:=hn.symm;rw[hlen];clear hn;go_enter Tryz.func41,Tryz.ntmps41;go_wp2
  go_loopw [5] (fun i wr=>∃k:Nat,k≤l.length∧i= .int .i64 k∧Hid (l.take k=m.take k)∧Hid (Below w.heap.size w wr)) (fun i _=>l.length - (intOf i).toNat)
  case atStart=>exact⟨0,by omega,rfl,zH (by simp),zH (zb _ _)⟩
  case round=>
   obtain⟨k,hk,rfl,HN,HX⟩:=hrel;by_cases hlt:k<l.length
   ·have hltm:k<m.length:=by omega
    obtain⟨ad,rfl,hab,q0,q1⟩:=(HL.out.below_to zi.keeps HX.out HB.out).row.at_ hlt;obtain⟨ad',rfl,hab',q0',q1'⟩:=(HM.out.below_to zi.keeps HX.out HB.out).row.at_ hltm;have HNE:=zH (fun g=>YX hlt hltm g);have HEQ:=zH (fun g=>Vb hlt hltm HN.out g);generalize l[k]=t at*
    generalize m[k]=s at*
    obtain⟨x,y⟩:=t;obtain⟨x',y'⟩:=s;dsimp only at q0 q1 q0' q1';by_cases hx:x=x'∧y=y'
    ·obtain⟨rfl,rfl⟩:=hx;have E2:=zH (HEQ.out rfl);go_wp2_with fail
     go_quiet (fail)
     go_wp2
     go_roundw;case rel=>exact⟨k+1,by omega,by go_num,E2,zH (jf HX.out _)⟩
     case measure=>simp[intOf];omega
    ·have E2:=zH (show b=false by rw[E.out];exact decide_eq_false (HNE.out (by simpa using hx)));have hxx:¬x=x'∨(x=x'∧¬y=y'):=by omega
     rcases hxx with hxx|⟨rfl,hxx⟩
     all_goals
      go_wp2_with fail
      go_quiet (fail)
      go_wp2
      go_ret;exact⟨by rw[E2.out];rfl,(jf HX.out _)⟩
   ·have E2:=zH (show b=true by rw[E.out];exact decide_eq_true (YL HLN.out k HN.out (by omega)));go_wp2_with fail
    go_ret;exact⟨by rw[E2.out];rfl,HX.out⟩
 ·have E2:=zH (show b=false by rw[E.out];exact decide_eq_false (fun g=>hn (by rw[g])));have hn':((l.length:Int)==(m.length:Int))=false:=beq_eq_false_iff_ne.mpr (by omega);go_enter Tryz.func41,Tryz.ntmps41;go_wp2
  go_ret;exact⟨by rw[E2.out];rfl,zb _ _⟩
def vA(n least most:Int):Bool:=decide (least≤n∧n≤most)
def Qd(t:Int×Int):Bool:=decide (0≤t.1∧t.1≤5∧(t.2=0∨t.1=3∧0≤t.2∧t.2≤7))
def Zh(l:List (Int×Int))(n:Int):Bool:=decide ((l.length:Int)≤n∧∀t ∈l,Qd t=true)
def ZW(l:List Int)(n most:Int):Bool:=decide ((l.length:Int)≤n∧∀x ∈l,0≤x∧x≤most)
theorem qex(n least most:Int)(w:World):Calls Tryz.prog 79 #[.int .i64 n,.int .i64 least,.int .i64 most] w fun e w'=>e= .returned (.bool (vA n least most))∧w=w':=by
 by_cases h:least≤n
 ·by_cases g:n≤most
  ·have E:=zH (show vA n least most=true from decide_eq_true ⟨h,g⟩);go_enter Tryz.func79,Tryz.ntmps79;go_wp2
   go_ret;exact⟨by rw[E.out];first|rfl|simp[g],rfl⟩
  ·have E:=zH (show vA n least most=false from decide_eq_false (fun x=>g x.2));go_enter Tryz.func79,Tryz.ntmps79;go_wp2
   go_ret;exact⟨by rw[E.out];first|rfl|simp[g],rfl⟩
 ·have E:=zH (show vA n least most=false from decide_eq_false (fun x=>h x.1));go_enter Tryz.func79,Tryz.ntmps79;go_wp2
  go_ret;exact⟨by rw[E.out];first|rfl|simp[h],rfl⟩
theorem kj{n least most:Int}{r:Bool}{w:World}(H:Hid (vA n least most=r)):Calls Tryz.prog 79 #[.int .i64 n,.int .i64 least,.int .i64 most] w fun e w'=>e= .returned (.bool r)∧w=w':=by
 have h:=qex n least most w;rw[H.out]at h;exact h
theorem q5k(t:Int×Int)(w:World):Calls Tryz.prog 80 #[zO t.1 t.2] w fun e w'=>e= .returned (.bool (Qd t))∧Below w.heap.size w w':=by
 obtain⟨k,n⟩:=t;dsimp only;have HW:=zH ((zb w.heap.size w).alloc (zn _) (.cells #[.int .i64 k,.int .i64 n] 39));obtain⟨r,hr⟩:∃r,vA k 0 5=r:=⟨_,rfl⟩
 obtain⟨q,hq⟩:∃q,vA n 0 7=q:=⟨_,rfl⟩
 have R:=zH hr;have Q:=zH hq;have E:Hid (Qd (k,n)=(r&& (decide (n=0)||(decide (k=3)&& q)))):=zH (by
  rw[←hr,←hq];unfold Qd vA;rw[Bool.eq_iff_iff];simp;omega)
 clear hr hq;generalize Qd (k,n)=b at E⊢
 cases r
 ·go_enter Tryz.func80,Tryz.ntmps80;go_wp2_with(go_at_call 79;(with_reducible refine(kj R).mono ?_);rintro e w' ⟨rfl,rfl⟩)
  go_ret;exact⟨by rw[E.out];rfl,HW.out⟩
 ·by_cases h0:n=0
  ·subst h0;go_enter Tryz.func80,Tryz.ntmps80;go_wp2_with(go_at_call 79;(with_reducible refine(kj R).mono ?_);rintro e w' ⟨rfl,rfl⟩)
   go_ret;exact⟨by rw[E.out];rfl,HW.out⟩
  ·by_cases h3:k=3
   ·subst h3;cases q;all_goals
     go_enter Tryz.func80,Tryz.ntmps80;go_wp2_with(first|(go_at_call 79;(with_reducible refine(kj R).mono ?_);rintro e w' ⟨rfl,rfl⟩)|(go_at_call 79;(with_reducible refine(kj Q).mono ?_);rintro e w' ⟨rfl,rfl⟩))
     go_ret;exact⟨by rw[E.out];simp[h0],HW.out⟩
   ·go_enter Tryz.func80,Tryz.ntmps80;go_wp2_with(go_at_call 79;(with_reducible refine(kj R).mono ?_);rintro e w' ⟨rfl,rfl⟩)
    go_ret;exact⟨by rw[E.out];simp[h0,h3],HW.out⟩
theorem qgf(l:List (Int×Int))(n:Int)(A:Option Addr)(cap B:Nat)(w:World)(hB:B≤w.heap.size)(h:zd zi 2 w B A cap l):
  Calls Tryz.prog 77 #[.slice A l.length cap,.int .i64 n] w fun e w'=>e= .returned (.bool (Zh l n))∧Below w.heap.size w w':=by
 have hlc:=h.le;have hcm:=h.cap;have HL:=zH h;have HB:=zH hB;clear h hB;by_cases hn:n<l.length
 ·have E:=zH (show Zh l n=false from decide_eq_false (fun x=>by omega));go_enter Tryz.func77,Tryz.ntmps77;go_wp2
  go_ret;exact⟨by rw[E.out];rfl,zb _ _⟩
 ·obtain⟨b,hb⟩:∃b,Zh l n=b:=⟨_,rfl⟩
  rw[hb];have E:Hid (b=decide (∀t ∈l,Qd t=true)):=zH (by rw[←hb];unfold Zh;rw[decide_eq_decide];exact⟨fun x=>x.2,fun x=>⟨by omega,x⟩⟩);clear hb;go_enter Tryz.func77,Tryz.ntmps77;go_wp2
  go_loopw [5] (fun i wr=>∃k:Nat,k≤l.length∧i= .int .i64 k∧Hid (∀t ∈l.take k,Qd t=true)∧Hid (Below w.heap.size w wr)) (fun i _=>l.length - (intOf i).toNat)
  case atStart=>exact⟨0,by omega,rfl,zH (by simp),zH (zb _ _)⟩
  case round=>
   obtain⟨k,hk,rfl,HN,HX⟩:=hrel;by_cases hlt:k<l.length
   ·obtain⟨ad,rfl,hab,q0,q1⟩:=(HL.out.below_to zi.keeps HX.out HB.out).row.at_ hlt;have T1:=zH (show l.take (k+1)=l.take k++[l[k]]by rw[List.take_add_one,List.getElem?_eq_getElem hlt];rfl);have M1:=zH (List.getElem_mem hlt);generalize l[k]=t at*
    obtain⟨r,hr⟩:∃r,Qd t=r:=⟨_,rfl⟩
    have R:=zH hr;clear hr;cases r
    ·have E2:=zH (show b=false by rw[E.out];exact decide_eq_false (fun x=>by have:=x t M1.out;rw[R.out]at this;cases this));go_wp2_with(go_at_call 80;(with_reducible refine(q5k t _).mono ?_);rintro e w1 ⟨he,hb⟩;rw[R.out]at he;subst he;have HX1:=zH (HX.out.trans (hb.mono HX.out.size)))
     go_ret;exact⟨by rw[E2.out];rfl,HX1.out⟩
    ·go_wp2_with(go_at_call 80;(with_reducible refine(q5k t _).mono ?_);rintro e w1 ⟨he,hb⟩;rw[R.out]at he;subst he;have HX1:=zH (HX.out.trans (hb.mono HX.out.size));clear hb)
     go_roundw;case rel=>exact⟨k+1,by omega,by go_num,zH (by rw[T1.out];intro s hs;rcases List.mem_append.mp hs with g|g;exact HN.out s g;simp at g;subst g;exact R.out),HX1⟩
     case measure=>simp[intOf];omega
   ·have E2:=zH (show b=true by rw[E.out];exact decide_eq_true (by have:=HN.out;rwa [List.take_of_length_le (by omega)]at this));go_wp2_with fail
    go_ret;exact⟨by rw[E2.out];rfl,HX.out⟩
theorem qks(l:List Int)(n most:Int)(A:Option Addr)(cap B:Nat)(w:World)(hB:B≤w.heap.size)(h:zd zo 1 w B A cap l):
  Calls Tryz.prog 78 #[.slice A l.length cap,.int .i64 n,.int .i64 most] w fun e w'=>e= .returned (.bool (ZW l n most))∧w=w':=by
 have hlc:=h.le;have hcm:=h.cap;have HL:=zH h;clear h;by_cases hn:n<l.length
 ·have E:=zH (show ZW l n most=false from decide_eq_false (fun x=>by omega));go_enter Tryz.func78,Tryz.ntmps78;go_wp2
  go_ret;exact⟨by rw[E.out];rfl,rfl⟩
 ·obtain⟨b,hb⟩:∃b,ZW l n most=b:=⟨_,rfl⟩
  rw[hb];have E:Hid (b=decide (∀t ∈l,0≤t∧t≤most)):=zH (by rw[←hb];unfold ZW;rw[decide_eq_decide];exact⟨fun x=>x.2,fun x=>⟨by omega,x⟩⟩);clear hb;go_enter Tryz.func78,Tryz.ntmps78;go_wp2
  go_loop [7] (fun i=>∃k:Nat,k≤l.length∧i= .int .i64 k∧Hid (∀t ∈l.take k,0≤t∧t≤most)) (fun i=>l.length - (intOf i).toNat)
  case atStart=>exact⟨0,by omega,rfl,zH (by simp)⟩
  case round=>
   obtain⟨k,hk,rfl,HN⟩:=hrel;by_cases hlt:k<l.length
   ·obtain⟨ad,rfl,hab,q0⟩:=HL.out.row.at_ hlt;rw[Nat.mul_one]at q0;have T1:=zH (show l.take (k+1)=l.take k++[l[k]]by rw[List.take_add_one,List.getElem?_eq_getElem hlt];rfl);have M1:=zH (List.getElem_mem hlt);generalize l[k]=t at*
    have q0':w.cell? (ad.add k)=some (.int .i64 t):=q0;obtain⟨r,hr⟩:∃r,vA t 0 most=r:=⟨_,rfl⟩
    have R:=zH hr;clear hr;cases r
    ·have E2:=zH (show b=false by rw[E.out];exact decide_eq_false (fun x=>by have:=of_decide_eq_false R.out;exact this (x t M1.out)));go_wp2_with(go_at_call 79;(with_reducible refine(kj R).mono ?_);rintro e w1 ⟨rfl,rfl⟩)
     go_ret;exact⟨by rw[E2.out];rfl,rfl⟩
    ·go_wp2_with(go_at_call 79;(with_reducible refine(kj R).mono ?_);rintro e w1 ⟨rfl,rfl⟩)
     go_round
     case rel=>exact⟨k+1,by omega,by go_num,zH (by rw[T1.out];intro s hs;rcases List.mem_append.mp hs with g|g;exact HN.out s g;simp at g;subst g;exact of_decide_eq_true R.out)⟩
     case measure=>simp[intOf];omega
   ·have E2:=zH (show b=true by rw[E.out];exact decide_eq_true (by have:=HN.out;rwa [List.take_of_length_le (by omega)]at this));go_wp2_with fail
    go_ret;exact⟨by rw[E2.out];rfl,rfl⟩
def zf(w:World)(g:Nat)(vs:List Value)(T:TypeId):Prop:=w.heap[g]? =some (.cells vs.toArray T (0,0))
theorem zf.new(w:World)(vs:List Value)(T:TypeId):zf (w.alloc (.cells vs.toArray T)) w.heap.size vs T:=heap_alloc_new _ _
theorem zf.at_{w:World}{N:Nat}(hN:w.heap.size=N)(vs:List Value)(T:TypeId):zf (w.alloc (.cells vs.toArray T)) N vs T:=by
 subst hN;exact zf.new w vs T
theorem zf.lt{w:World}{g:Nat}{vs:List Value}{T:TypeId}(h:zf w g vs T):g<w.heap.size:=by
 rcases Nat.lt_or_ge g w.heap.size with x|x
 ·exact x
 ·unfold zf at h;rw[Array.getElem?_eq_none x]at h;cases h
theorem zf.keep{w w':World}{g B:Nat}{vs:List Value}{T:TypeId}(h:zf w g vs T)(hb:Below B w w')(hg:g<B):zf w' g vs T:=(hb.block g hg).trans h
theorem zf.cells{w:World}{g:Nat}{vs:List Value}{T:TypeId}(h:zf w g vs T):zT w g vs:=fun i v hi=>by
 unfold zf at h;simp[World.cell?,h,hi]
theorem zf.free{w:World}{g:Nat}{vs:List Value}{T:TypeId}(h:zf w g vs T)(i:Nat):w.frozen? ⟨g,i,none⟩=false:=by
 unfold zf at h;simp[World.frozen?,h]
theorem zf.set{w:World}{g:Nat}{vs:List Value}{T:TypeId}(h:zf w g vs T)(i:Nat)(v:Value):zf (w.setCell ⟨g,i,none⟩ v) g (vs.set i v) T:=by
 have:=heap_setCell_same w g i vs.toArray T v h;unfold zf;rw[this];simp
theorem ji{α:Type}{At:qI α}{k:Nat}{w:World}{B:Nat}:zd At k w B none 0 []:=⟨zn _,by omega,qt.nil⟩
theorem km{w:World}{N:Nat}(hN:w.heap.size=N)(vs:List Value)(T:TypeId):
  zT (w.alloc (.cells vs.toArray T)) N vs∧(w.alloc (.cells vs.toArray T)).heap.size=N+1∧Below N w (w.alloc (.cells vs.toArray T)):=by
 subst hN;exact⟨qd w vs T,by simp,(zb _ _).alloc (zn _) _⟩
theorem qcr{α:Type}{At:qI α}{k:Nat}{w:World}{B g:Nat}{x:α}(h:At w B ⟨g,0,none⟩ x)(hg:g<B):qt At k w B (some ⟨g,0,none⟩) [x]:=fun i y hi=>by
 match i,hi with
 |0,hi=>
  simp at hi;subst hi;refine⟨_,rfl,hg,?_⟩;rw[Nat.zero_mul,show(⟨g,0,none⟩:Addr).add 0=⟨g,0,none⟩by simp[Addr.add]];exact h
def vR(EL:List (List Int))(i j:Nat):Prop:=(j:Int) ∈EL[i]?.getD []
inductive Way(EL:List (List Int))(n:Nat)(i:Nat):Nat→Prop
 |one {j:Nat} (h:vR EL i j):Way EL n i j
 |snoc {p j:Nat} (h:Way EL n i p) (hp:p<n) (e:vR EL p j):Way EL n i j
theorem Way.more{EL:List (List Int)}{n n' i j:Nat}(h:Way EL n i j)(hn:n≤n'):Way EL n' i j:=by
 induction h with
 |one h=>exact .one h
 |snoc _ hp e ih=>exact .snoc ih (by omega) e
theorem Way.join{EL:List (List Int)}{n i p j:Nat}(h:Way EL n i p)(hp:p<n)(h':Way EL n p j):Way EL n i j:=by
 induction h' with
 |one e=>exact .snoc h hp e
 |snoc _ hq e ih=>exact .snoc ih hq e
theorem Way.split{EL:List (List Int)}{k i j:Nat}(h:Way EL (k+1) i j):Way EL k i j∨(Way EL k i k∧Way EL k k j):=by
 induction h with
 |one e=>exact .inl (.one e)
 | @snoc p j _ hp e ih=>
  by_cases hk:p=k
  ·subst hk;rcases ih with h1|⟨h1,_⟩
   ·exact .inr ⟨h1,.one e⟩
   ·exact .inr ⟨h1,.one e⟩
  ·rcases ih with h1|⟨h1,h2⟩
   ·exact .inl (.snoc h1 (by omega) e)
   ·exact .inr ⟨h1,.snoc h2 (by omega) e⟩
open Go.ChangeShapes Go.WideShapes Go.RowKit
def jC(p:Nat→Bool)(n:Nat):List Int:=((List.range n).filter p).map (fun g:Nat=>(g:Int))
theorem qha(p:Nat→Bool)(n:Nat):(jC p n).length≤n:=by
 unfold jC;rw[List.length_map];exact Nat.le_trans (List.length_filter_le _ _) (by rw[List.length_range];exact zn _)
theorem Yq{p:Nat→Bool}{n:Nat}{x:Int}:x ∈jC p n↔∃g:Nat,x=(g:Int)∧g<n∧p g=true:=by
 unfold jC;rw[List.mem_map];constructor
 ·rintro⟨g,hg,rfl⟩;rw[List.mem_filter,List.mem_range]at hg;exact⟨g,rfl,hg⟩
 ·rintro⟨g,rfl,hg⟩;exact⟨g,by rw[List.mem_filter,List.mem_range];exact hg,rfl⟩
theorem qab{p q:Nat→Bool}{n:Nat}(h:∀g,g<n→p g=q g):jC p n=jC q n:=by
 unfold jC;congr 1;exact List.filter_congr (fun g hg=>h g (List.mem_range.mp hg))
def JP(Q:Exit→Act→World→Prop):Exit→Act→World→Prop
 | .normal,a,w=>Q .normal a w
 |_,_,_=>False
theorem JP.normal{Q:Exit→Act→World→Prop}{a:Act}{w:World}(h:Q .normal a w):JP Q .normal a w:=h
theorem qhn{l n:Nat}{P:Program}{o:Oper}{a:Act}{w:World}{K K':Act→World→Prop}{Q:Exit→Act→World→Prop}(hnd:∀c,o.op≠ .defer c)(hk:∀a w,K a w→K' a w)
  (h:o.wp P a w K (JP Q)):o.wpIn (Fence.wide.inRound l) n P a w K' Q:=by
 unfold Oper.wp at h;unfold Oper.wpIn;refine⟨fun _ _=>trivial,?_⟩;rw[Oper.semAt_eq _ _ _ hnd];generalize(execOp a.eval o).run P w=r at h;cases r with
 |ok x w'=>
  cases x<;>simp only[Oper.upon,Oper.uponIn]at h⊢
  case value v=>exact hk _ _ h
  case skip=>exact hk _ _ h
  case defer d=>exact hk _ _ h
  case enter f args=>
   refine⟨fun h0=>(by cases h0),CallsIn.inRound l (callsIn_wide.2 (h.mono fun e w'' he=> ?_))⟩;cases e with
   |returned v=>exact hk _ _ he
   |panicked chain=>exact(he:False).elim
   |outgrown=>obtain⟨_,_,hf⟩:=he;exact(hf:False).elim
  case row row args=>
   refine⟨fun h0=>(by cases h0),fun c cs _=> ?_⟩;obtain⟨v,w2,hv,hs⟩:=h c cs;exact⟨v,w2,hk _ _ hv,stepsIn_wide.2 hs⟩
 |halt x w'=>
  cases x<;>simp only[Oper.upon,Oper.uponIn]at h⊢
  all_goals exact(h:False).elim
theorem q1y{l n:Nat}{P:Program}{ops:Array Oper}{Q:Exit→Act→World→Prop}(hnd:∀(i:Nat) o,ops[i]? =some o→∀c,o.op≠ .defer c):∀(is:List Nat) (a:Act) (w:World),wpOps P ops (JP Q) is a w→wpOpsIn (Fence.wide.inRound l) n P ops Q is a w
 | [],a,w,h=>h
 |i::rest,a,w,h=>by
  simp only[wpOps]at h;simp only[wpOpsIn];cases ho:ops[i]? with
  |none=>simp only[ho]at h⊢;exact q1y hnd rest a w h
  |some o=>
   simp only[ho]at h⊢
   by_cases hw:Region.wanted o (yielded ops a.tmps)=true
   ·rw[if_pos hw]at h⊢
    rcases h with h|⟨_,_,_,h⟩
    ·exact qhn (hnd i o ho) (fun a w=>q1y hnd rest a w) h
    ·exact(h:False).elim
   ·rw[if_neg hw]at h⊢
    exact⟨fun _ _=>trivial,q1y hnd rest _ _ h⟩
theorem q6t{l n:Nat}{P:Program}{id:Nat}{ops:Array Oper}{Q:Exit→Act→World→Prop}{S:World→Prop}{a:Act}{w:World}(hm:P.follows .mixedOrders=true)(hnd:ops.all (fun o=>match o.op with| .defer _=>false|_=>true)=true)(hS:S w.drew)
  (h:S w.drew→wpAnyH P .any ops (JP Q) S ops.size (Array.replicate ops.size false) a w.drew):(Code.region id ops true).wpIn (Fence.wide.inRound l) n P Q a w:=
 wpIn_region_draw fun t=>q1y (fun i o ho c hc=>by
  have hx:=(Array.all_eq_true.mp hnd) i (by rcases Nat.lt_or_ge i ops.size with g|g;exact g;rw[Array.getElem?_eq_none g]at ho;cases ho);rw[Array.getElem?_eq_some_iff]at ho;obtain⟨_,ho⟩:=ho;rw[ho,hc]at hx;cases hx) _ _ _ (by
   simp only[Region.schedule,hm,Bool.true_or,if_true];exact wpAny_sound ops.size t _ a _ (wpAny_of_held _ _ _ _ (h hS)))
open Go.Shelf
def qno:Go.Shelf.Ren:=⟨fun|189=>107|125=>129|257=>128|128=>149|129=>150|294=>140|295=>141|296=>142|297=>143|298=>144|299=>145|216=>146|300=>147|301=>148|328=>153|329=>154|330=>155|331=>156|332=>157|215=>158|343=>159|n=>n,fun|28=>26|3=>3|46=>175|0=>0|51=>185|53=>187|4=>4|183=>180|182=>179|131=>103|5=>5|9=>9|218=>188|222=>192|228=>194|229=>195|n=>n,fun|n=>n⟩
theorem q4i:Go.Proofs.Lays.n189 Tryz.prog qno:={
 mixed:=by kernel_rfl
 f125:=Tryz.func129.trans (congrArg some (by kernel_rfl))
 f128:=Tryz.func149.trans (congrArg some (by kernel_rfl))
 f129:=Tryz.func150.trans (congrArg some (by kernel_rfl))
 f189:=Tryz.func107.trans (congrArg some (by kernel_rfl))
 f215:=Tryz.func158.trans (congrArg some (by kernel_rfl))
 f216:=Tryz.func146.trans (congrArg some (by kernel_rfl))
 f257:=Tryz.func128.trans (congrArg some (by kernel_rfl))
 f294:=Tryz.func140.trans (congrArg some (by kernel_rfl))
 f295:=Tryz.func141.trans (congrArg some (by kernel_rfl))
 f296:=Tryz.func142.trans (congrArg some (by kernel_rfl))
 f297:=Tryz.func143.trans (congrArg some (by kernel_rfl))
 f298:=Tryz.func144.trans (congrArg some (by kernel_rfl))
 f299:=Tryz.func145.trans (congrArg some (by kernel_rfl))
 f300:=Tryz.func147.trans (congrArg some (by kernel_rfl))
 f301:=Tryz.func148.trans (congrArg some (by kernel_rfl))
 f328:=Tryz.func153.trans (congrArg some (by kernel_rfl))
 f329:=Tryz.func154.trans (congrArg some (by kernel_rfl))
 f330:=Tryz.func155.trans (congrArg some (by kernel_rfl))
 f331:=Tryz.func156.trans (congrArg some (by kernel_rfl))
 f332:=Tryz.func157.trans (congrArg some (by kernel_rfl))
 f343:=Tryz.func159.trans (congrArg some (by kernel_rfl))
 t0:=Tryz.underlying0
 a0:=Tryz.isAgg0
 z0:=Tryz.sizeOf0
 v0:=Tryz.zeroValue0
 t3:=Tryz.underlying3
 a3:=Tryz.isAgg3
 z3:=Tryz.sizeOf3
 v3:=Tryz.zeroValue3
 t4:=Tryz.underlying4
 a4:=Tryz.isAgg4
 z4:=Tryz.sizeOf4
 v4:=Tryz.zeroValue4
 t5:=Tryz.underlying5
 a5:=Tryz.isAgg5
 z5:=Tryz.sizeOf5
 v5:=Tryz.zeroValue5
 t9:=Tryz.underlying9
 a9:=Tryz.isAgg9
 z9:=Tryz.sizeOf9
 v9:=Tryz.zeroValue9
 t28:=Tryz.underlying26
 a28:=Tryz.isAgg26
 z28:=Tryz.sizeOf26
 v28:=Tryz.zeroValue26
 t46:=Tryz.underlying175
 a46:=Tryz.isAgg175
 z46:=Tryz.sizeOf175
 v46:=Tryz.zeroValue175
 t51:=Tryz.underlying185
 a51:=Tryz.isAgg185
 z51:=Tryz.sizeOf185
 v51:=Tryz.zeroValue185
 t53:=Tryz.underlying187
 a53:=Tryz.isAgg187
 z53:=Tryz.sizeOf187
 v53:=Tryz.zeroValue187
 t131:=Tryz.underlying103
 a131:=Tryz.isAgg103
 z131:=Tryz.sizeOf103
 v131:=Tryz.zeroValue103
 t182:=Tryz.underlying179
 a182:=Tryz.isAgg179
 z182:=Tryz.sizeOf179
 v182:=Tryz.zeroValue179
 t183:=Tryz.underlying180
 a183:=Tryz.isAgg180
 z183:=Tryz.sizeOf180
 v183:=Tryz.zeroValue180
 t218:=Tryz.underlying188
 a218:=Tryz.isAgg188
 z218:=Tryz.sizeOf188
 v218:=Tryz.zeroValue188
 t222:=Tryz.underlying192
 a222:=Tryz.isAgg192
 z222:=Tryz.sizeOf192
 v222:=Tryz.zeroValue192
 t228:=Tryz.underlying194
 a228:=Tryz.isAgg194
 z228:=Tryz.sizeOf194
 v228:=Tryz.zeroValue194
 t229:=Tryz.underlying195
 a229:=Tryz.isAgg195
 z229:=Tryz.sizeOf195
 v229:=Tryz.zeroValue195}
def Qp(p:Nat→Bool):Nat→Nat
 |0=>0
 |n+1=>Qp p n+if p n then 0 else 1
theorem q9u{p:Nat→Bool}{g:Nat}:∀n,n≤g→Qp (fun k=>p k||decide (k=g)) n=Qp p n
 |0,_=>rfl
 |n+1,h=>by
  unfold Qp;rw[q9u n (by omega),show decide (n=g)=false from decide_eq_false (by omega),Bool.or_false]
theorem q1p{p:Nat→Bool}{g:Nat}(hp:p g=false):∀n,g<n→Qp (fun k=>p k||decide (k=g)) n+1=Qp p n
 |0,h=>by omega
 |n+1,h=>by
  unfold Qp;by_cases e:n=g
  ·subst e;rw[q9u n (zn _),hp];simp
  ·have:=q1p hp n (by omega);rw[show decide (n=g)=false from decide_eq_false e,Bool.or_false];omega
theorem q8j:∀n,Qp (fun _=>false) n=n
 |0=>rfl
 |n+1=>by unfold Qp;rw[q8j n];rfl
theorem qdi(op:Int)(h0:7≤op)(h1:op≤17)(w:World):Calls Tryz.prog 117 #[.int .i64 op] w fun e w'=>e= .returned (.bool true)∧w=w':=by
 have h:op=7∨op=8∨op=9∨op=10∨op=11∨op=12∨op=13∨op=14∨op=15∨op=16∨op=17:=by omega
 clear h0 h1;rcases h with rfl|rfl|rfl|rfl|rfl|rfl|rfl|rfl|rfl|rfl|rfl;all_goals
  go_enter Tryz.func117,Tryz.ntmps117;go_wp2
  go_ret;exact⟨rfl,rfl⟩
theorem is_no(op:Int)(h:op<7∨17<op)(w:World):Calls Tryz.prog 117 #[.int .i64 op] w fun e w'=>e= .returned (.bool false)∧w=w':=by
 have n7:¬op=7:=by omega
 have n8:¬op=8:=by omega
 have n9:¬op=9:=by omega
 have n10:¬op=10:=by omega
 have n11:¬op=11:=by omega
 have n12:¬op=12:=by omega
 have n13:¬op=13:=by omega
 have n14:¬op=14:=by omega
 have n15:¬op=15:=by omega
 have n16:¬op=16:=by omega
 have n17:¬op=17:=by omega
 clear h;go_enter Tryz.func117,Tryz.ntmps117;go_wp2
 go_ret;exact⟨rfl,rfl⟩
open Go.ChangeShapes Go.WideShapes Go.Deep Go.Joins Go.RowKit
theorem qdj{α:Type}{R:Nat→α→Prop}(n:Nat)(h:∀i,i<n→∃s,R i s):∃l:List α,l.length=n∧∀i s,l[i]? =some s→R i s:=by
 induction n with
 |zero=>exact⟨[],rfl,by simp⟩
 |succ n ih=>
  obtain⟨l,hl,hr⟩:=ih fun i hi=>h i (by omega);obtain⟨s,hs⟩:=h n (by omega);refine⟨l++[s],by simp[hl],fun i t ht=> ?_⟩;rcases Nat.lt_or_ge i l.length with hlt|hge
  ·rw[List.getElem?_append_left hlt]at ht;exact hr i t ht
  ·rw[List.getElem?_append_right hge]at ht;have hi:i - l.length=0:=by
    rcases Nat.eq_zero_or_pos (i - l.length)with h0|h0
    ·exact h0
    ·rw[List.getElem?_eq_none (by simp;omega)]at ht;cases ht
   rw[hi]at ht;have hin:i=n:=by omega
   subst hin;simp at ht;subst ht;exact hs
section
variable{H:Type}{enc:TypeId×Value→H}{P:Program}{w:World}{base:Nat}{held:Bool}
end
theorem q31{a:Int}(h:(Lit.int .u8 a).wf=true):0≤a∧a≤255:=by
 simpa[Lit.wf,IntKind.min,IntKind.max,IntKind.signed,IntKind.bits]using h
theorem qdd{a:Int}(h:(Lit.int .i32 a).wf=true): -2147483648≤a∧a≤2147483647:=by
 simpa[Lit.wf,IntKind.min,IntKind.max,IntKind.signed,IntKind.bits]using h
theorem wf_i64{a:Int}(h:(Lit.int .i64 a).wf=true): -9223372036854775808≤a∧a≤9223372036854775807:=by
 simpa[Lit.wf,IntKind.min,IntKind.max,IntKind.signed,IntKind.bits]using h
theorem YD(p:Addr):p.add 0=p:=by simp[Addr.add]
theorem Zy{n:Nat}(p:Addr)(h:0<n):p.add n=zc p n:=by
 unfold Addr.add zc;rw[if_neg (by omega)]
section
variable{α H:Type}{enc:TypeId×Value→H}{P:Program}{w:World}{base:Nat}{held:Bool}{spare:Nat→Bool}
def YF(enc:TypeId×Value→H)(P:Program)(w:World)(base:Nat)(spare:Nat→Bool)(held:Bool)(e:TypeId)(k:Nat)(At:qI α):Prop:=
 ∀(n:Nat) (cs:List Value) (y:DataW H×List MemPlace) (p:Addr),(∀j u,cs[j]? =some u→w.cell? (p.add j)=some u)→DataW.trod enc P w base spare held n e cs=some y→cs.length=k→∃x:α,At w w.heap.size p x
theorem YW{t e:TypeId}{k fuel:Nat}{cs:List Value}{x:DataW H×List MemPlace}{At:qI α}(ht:P.underlying t=some (.slice e))(hC:P.cellsOf e=k)(hk:0<k)(hO:YF enc P w base spare held e k At)
  (h:DataW.trod enc P w base spare held fuel t cs=some x):∃A cap l,cs=[.slice A l.length cap]∧zd At k w w.heap.size A cap l∧(A=none→cap=0):=by
 rcases open_slice ht h with⟨hcs,_⟩|⟨a,len,cap,m,n,D,Pl,hcs,_,hl,hm,hmm,_,hi⟩
 ·exact⟨none,0,[],hcs,⟨zn _,by omega,qt.nil⟩,fun _=>rfl⟩
 ·have hml:len≤m:=by rw[hmm];split<;>omega
  obtain⟨l,hLl,hL⟩:=qdj (R:=fun i (x:α)=>At w w.heap.size (a.add (i*k)) x∧a.block<w.heap.size) len fun i hil=>by
   obtain⟨cs',hc,ht'⟩:=hi i (by omega);rw[hC]at hc;obtain⟨_,hcl,hat⟩:=World.cells?_some hc;have hat':∀j u,cs'[j]? =some u→w.cell? ((a.add (i*k)).add j)=some u:=fun j u hu=>by
    have hj:j<k:=by
     rcases Nat.lt_or_ge j k with g|g
     ·exact g
     ·rw[List.getElem?_eq_none (by omega)]at hu;cases hu
    exact(hat j hj).trans hu
   obtain⟨x,hx⟩:=hO n cs' _ (a.add (i*k)) hat' ht' hcl;refine⟨x,hx,?_⟩;have h0:=hat' 0 (cs'[0]'(by omega)) (List.getElem?_eq_getElem (by omega));have:=World.block_lt_of_cell? w _ h0
   rwa [zt,zt]at this
  refine⟨some a,cap,l,by rw[hLl];exact hcs,⟨by omega,by unfold maxLen at hm;omega,fun i x hx=> ?_⟩,fun h=>by cases h⟩;exact⟨a,rfl,(hL i x hx).2,(hL i x hx).1⟩
end
section
variable{H:Type}{enc:TypeId×Value→H}{w:World}{base:Nat}{held:Bool}{spare:Nat→Bool}
theorem Vi:Tryz.prog.cellsOf 3=1:=by kernel_rfl
theorem q4c:Tryz.prog.cellsOf 26=1:=by kernel_rfl
section
variable{α β:Type}{k:Nat}{At:qI α}
theorem QF{n:Nat}{cs:List Value}{y:DataW H×List MemPlace}(h:DataW.trod enc Tryz.prog w base spare held n 3 cs=some y):∃v:Int,cs=[.int .i64 v]:=by
 obtain⟨v,rfl,_,_⟩:=DataW.trod_int Tryz.underlying3 h;exact⟨v,rfl⟩
theorem qoz{n:Nat}{cs:List Value}{y:DataW H×List MemPlace}(h:DataW.trod enc Tryz.prog w base spare held n 3 cs=some y):∃v:Int,cs=[.int .i64 v]∧ -9223372036854775808≤v∧v≤9223372036854775807:=by
 obtain⟨v,rfl,_,hw⟩:=DataW.trod_int Tryz.underlying3 h;exact⟨v,rfl,(wf_i64 hw).1,(wf_i64 hw).2⟩
theorem vn{γ:Type}{xs:List γ}{i n:Nat}{o:Option γ}(h:o=xs[i]?)(hl:xs.length=n)(hi:i<n):∃y,o=some y:=⟨_,h.trans (List.getElem?_eq_getElem (by omega))⟩
end
theorem qlq:YF enc Tryz.prog w base spare held 3 1 zo:=fun n cs y p hc h _=>by
 obtain⟨v,rfl⟩:=QF h;exact⟨v,by have:=hc 0 _ rfl;rwa [YD]at this⟩
theorem q5h{n:Nat}{cs:List Value}{y:DataW H×List MemPlace}(h:DataW.trod enc Tryz.prog w base spare held n 26 cs=some y):∃A cap l,cs=[.slice A l.length cap]∧zd zo 1 w w.heap.size A cap l∧(A=none→cap=0):=
 YW Tryz.underlying26 Vi (by decide) qlq h
end
section
variable{H:Type}{enc:TypeId×Value→H}{w:World}{base:Nat}{held:Bool}{spare:Nat→Bool}
theorem q9p:Tryz.prog.cellsOf 39=2:=by kernel_rfl
theorem q3q:Tryz.prog.cellsOf 23=1:=by kernel_rfl
theorem qho:YF enc Tryz.prog w base spare held 21 1 jo:=fun n cs y p hc h _=>by
 obtain⟨v,rfl,_,hw⟩:=DataW.trod_int Tryz.underlying21 h;exact⟨v,by have:=hc 0 _ rfl;rwa [YD]at this,(qdd hw).1,(qdd hw).2⟩
theorem q95:YF enc Tryz.prog w base spare held 39 2 zi:=fun n cs y p hc h hl=>by
 obtain⟨xs,m,_,_,_,hx,hf⟩:=DataW.trod_struct Tryz.underlying39 h
 match cs,hl with
 | [c0,c1],_=>
  obtain⟨y0,g0⟩:=vn (hf 0 _ rfl) hx (by decide);change DataW.trod enc Tryz.prog w base spare held m 3 (List.take (Tryz.prog.cellsOf 3) (List.drop 0 _))=_ at g0;obtain⟨y1,g1⟩:=vn (hf 1 _ rfl) hx (by decide);change DataW.trod enc Tryz.prog w base spare held m 3 (List.take (Tryz.prog.cellsOf 3) (List.drop 1 _))=_ at g1;rw[Vi]at g0 g1;obtain⟨v0,e0⟩:=QF g0;obtain⟨v1,e1⟩:=QF g1;simp at e0 e1;subst e0 e1;refine⟨(v0,v1),?_,?_⟩
  ·have:=hc 0 _ rfl;rwa [YD]at this
  ·have:=hc 1 _ rfl;rwa [Zy _ (by decide)]at this
theorem qhp:YF enc Tryz.prog w base spare held 45 3 qw:=fun n cs y p hc h hl=>by
 obtain⟨xs,m,_,_,_,hx,hf⟩:=DataW.trod_struct Tryz.underlying45 h
 match cs,hl with
 | [c0,c1,c2],_=>
  obtain⟨y0,g0⟩:=vn (hf 0 _ rfl) hx (by decide);change DataW.trod enc Tryz.prog w base spare held m 3 (List.take (Tryz.prog.cellsOf 3) (List.drop 0 _))=_ at g0;obtain⟨y1,g1⟩:=vn (hf 1 _ rfl) hx (by decide);change DataW.trod enc Tryz.prog w base spare held m 3 (List.take (Tryz.prog.cellsOf 3) (List.drop 1 _))=_ at g1;obtain⟨y2,g2⟩:=vn (hf 2 _ rfl) hx (by decide);change DataW.trod enc Tryz.prog w base spare held m 3 (List.take (Tryz.prog.cellsOf 3) (List.drop 2 _))=_ at g2;rw[Vi]at g0 g1 g2;obtain⟨v0,e0⟩:=QF g0;obtain⟨v1,e1⟩:=QF g1;obtain⟨v2,e2⟩:=QF g2;simp at e0 e1 e2;subst e0 e1 e2;refine⟨(v0,v1,v2),?_,?_,?_⟩
  ·have:=hc 0 _ rfl;rwa [YD]at this
  ·have:=hc 1 _ rfl;rwa [Zy _ (by decide)]at this
  ·have:=hc 2 _ rfl;rwa [Zy _ (by decide)]at this
theorem q1r{n:Nat}{cs:List Value}{y:DataW H×List MemPlace}(h:DataW.trod enc Tryz.prog w base spare held n 23 cs=some y):∃A cap l,cs=[.slice A l.length cap]∧zd zi 2 w w.heap.size A cap l∧(A=none→cap=0):=
 YW Tryz.underlying23 q9p (by decide) q95 h
theorem qnq{n:Nat}{cs:List Value}{y:DataW H×List MemPlace}(h:DataW.trod enc Tryz.prog w base spare held n 40 cs=some y):∃A cap l,cs=[.slice A l.length cap]∧zd qw 3 w w.heap.size A cap l∧(A=none→cap=0):=
 YW Tryz.underlying40 (by kernel_rfl) (by decide) qhp h
theorem qke{n:Nat}{cs:List Value}{y:DataW H×List MemPlace}(h:DataW.trod enc Tryz.prog w base spare held n 24 cs=some y):∃A cap l,cs=[.slice A l.length cap]∧zd jo 1 w w.heap.size A cap l∧(A=none→cap=0):=
 YW Tryz.underlying24 (by kernel_rfl) (by decide) qho h
theorem qje:Tryz.prog.cellsOf 40=1:=by kernel_rfl
theorem qf8:YF enc Tryz.prog w base spare held 90 3 jc:=fun n cs y p hc h hl=>by
 obtain⟨xs,m,_,_,_,hx,hf⟩:=DataW.trod_struct Tryz.underlying90 h
 match cs,hl with
 | [c0,c1,c2],_=>
  obtain⟨y0,g0⟩:=vn (hf 0 _ rfl) hx (by decide);change DataW.trod enc Tryz.prog w base spare held m 3 (List.take (Tryz.prog.cellsOf 3) (List.drop 0 _))=_ at g0;obtain⟨y1,g1⟩:=vn (hf 1 _ rfl) hx (by decide);change DataW.trod enc Tryz.prog w base spare held m 23 (List.take (Tryz.prog.cellsOf 23) (List.drop 1 _))=_ at g1;obtain⟨y2,g2⟩:=vn (hf 2 _ rfl) hx (by decide);change DataW.trod enc Tryz.prog w base spare held m 26 (List.take (Tryz.prog.cellsOf 26) (List.drop 2 _))=_ at g2;rw[Vi]at g0;rw[q3q]at g1;rw[q4c]at g2;obtain⟨v0,e0,r0⟩:=qoz g0;obtain⟨A1,k1,l1,e1,s1,_⟩:=q1r g1;obtain⟨A2,k2,l2,e2,s2,_⟩:=q5h g2;simp at e0 e1 e2;subst e0 e1 e2;refine⟨⟨v0,l1,l2⟩,?_,⟨A1,k1,?_,s1⟩,⟨A2,k2,?_,s2⟩,r0⟩
  ·have:=hc 0 _ rfl;rwa [YD]at this
  ·have:=hc 1 _ rfl;rwa [Zy _ (by decide)]at this
  ·have:=hc 2 _ rfl;rwa [Zy _ (by decide)]at this
theorem qef:YF enc Tryz.prog w base spare held 42 8 jW:=fun n cs y p hc h hl=>by
 obtain⟨xs,m,_,_,_,hx,hf⟩:=DataW.trod_struct Tryz.underlying42 h
 match cs,hl with
 | [c0,c1,c2,c3,c4,c5,c6,c7],_=>
  obtain⟨y0,g0⟩:=vn (hf 0 _ rfl) hx (by decide);change DataW.trod enc Tryz.prog w base spare held m 23 (List.take (Tryz.prog.cellsOf 23) (List.drop 0 _))=_ at g0;obtain⟨y1,g1⟩:=vn (hf 1 _ rfl) hx (by decide);change DataW.trod enc Tryz.prog w base spare held m 23 (List.take (Tryz.prog.cellsOf 23) (List.drop 1 _))=_ at g1;obtain⟨y2,g2⟩:=vn (hf 2 _ rfl) hx (by decide);change DataW.trod enc Tryz.prog w base spare held m 39 (List.take (Tryz.prog.cellsOf 39) (List.drop 2 _))=_ at g2;obtain⟨y3,g3⟩:=vn (hf 3 _ rfl) hx (by decide);change DataW.trod enc Tryz.prog w base spare held m 40 (List.take (Tryz.prog.cellsOf 40) (List.drop 4 _))=_ at g3;obtain⟨y4,g4⟩:=vn (hf 4 _ rfl) hx (by decide);change DataW.trod enc Tryz.prog w base spare held m 3 (List.take (Tryz.prog.cellsOf 3) (List.drop 5 _))=_ at g4;obtain⟨y5,g5⟩:=vn (hf 5 _ rfl) hx (by decide);change DataW.trod enc Tryz.prog w base spare held m 3 (List.take (Tryz.prog.cellsOf 3) (List.drop 6 _))=_ at g5;obtain⟨y6,g6⟩:=vn (hf 6 _ rfl) hx (by decide);change DataW.trod enc Tryz.prog w base spare held m 26 (List.take (Tryz.prog.cellsOf 26) (List.drop 7 _))=_ at g6;rw[q3q]at g0 g1;rw[q9p]at g2;rw[qje]at g3;rw[Vi]at g4 g5;rw[q4c]at g6;obtain⟨A0,k0,l0,e0,s0,_⟩:=q1r g0;obtain⟨A1,k1,l1,e1,s1,_⟩:=q1r g1;obtain⟨A3,k3,l3,e3,s3,_⟩:=qnq g3;obtain⟨v4,e4⟩:=QF g4;obtain⟨v5,e5⟩:=QF g5;obtain⟨A6,k6,l6,e6,s6,_⟩:=q5h g6;obtain⟨r,hr0,hr1⟩:=q95 m _ y2 (zc p 2) (fun j u hu=>by
   match j,hu with
   |0,hu=>simp at hu;subst hu;have:=hc 2 _ rfl;rw[Zy _ (by decide)]at this;rwa [YD]
   |1,hu=>simp at hu;subst hu;have:=hc 3 _ rfl;rw[Zy _ (by decide)]at this;rwa [Zy _ (by decide)]
   |j+2,hu=>simp at hu) g2 (by simp)
  simp at e0 e1 e3 e4 e5 e6;subst e0 e1 e3 e4 e5 e6;refine⟨⟨l0,l1,r,l3,v4,v5,l6⟩,⟨A0,k0,?_,s0⟩,⟨A1,k1,?_,s1⟩,hr0,?_,⟨A3,k3,?_,s3⟩,?_,?_,⟨A6,k6,?_,s6⟩⟩
  ·have:=hc 0 _ rfl;rwa [YD]at this
  ·have:=hc 1 _ rfl;rwa [Zy _ (by decide)]at this
  ·exact hr1
  ·have:=hc 4 _ rfl;rwa [Zy _ (by decide)]at this
  ·have:=hc 5 _ rfl;rwa [Zy _ (by decide)]at this
  ·have:=hc 6 _ rfl;rwa [Zy _ (by decide)]at this
  ·have:=hc 7 _ rfl;rwa [Zy _ (by decide)]at this
theorem VY{r:Reach}{b0:Nat}{v:Value}{d:DataW H}{p:List MemPlace}(hv:Value.okWide Tryz.prog w r b0 28 v)(h:DataW.Trod enc Tryz.prog w base spare held 28 v d p):
  ∃(hd:zl) (m:za),v=zr hd m∧zp w w.heap.size hd m:=by
 obtain⟨cs,rfl,hsz⟩:=okWide_struct Tryz.underlying28 hv;obtain⟨fuel,hf⟩:=h;have hsz':cs.size=7:=hsz.trans (by kernel_rfl);obtain⟨xs,m,_,_,_,hx,hf⟩:=DataW.trod_struct Tryz.underlying28 hf;obtain⟨l⟩:=cs;have hl:l.length=7:=hsz'
 match l,hl with
 | [c0,c1,c2,c3,c4,c5,c6],_=>
  obtain⟨y0,g0⟩:=vn (hf 0 _ rfl) hx (by decide);change DataW.trod enc Tryz.prog w base spare held m 22 (List.take (Tryz.prog.cellsOf 22) (List.drop 0 _))=_ at g0;obtain⟨y1,g1⟩:=vn (hf 1 _ rfl) hx (by decide);change DataW.trod enc Tryz.prog w base spare held m 23 (List.take (Tryz.prog.cellsOf 23) (List.drop 1 _))=_ at g1;obtain⟨y2,g2⟩:=vn (hf 2 _ rfl) hx (by decide);change DataW.trod enc Tryz.prog w base spare held m 24 (List.take (Tryz.prog.cellsOf 24) (List.drop 2 _))=_ at g2;obtain⟨y3,g3⟩:=vn (hf 3 _ rfl) hx (by decide);change DataW.trod enc Tryz.prog w base spare held m 25 (List.take (Tryz.prog.cellsOf 25) (List.drop 3 _))=_ at g3;obtain⟨y4,g4⟩:=vn (hf 4 _ rfl) hx (by decide);change DataW.trod enc Tryz.prog w base spare held m 26 (List.take (Tryz.prog.cellsOf 26) (List.drop 4 _))=_ at g4;obtain⟨y5,g5⟩:=vn (hf 5 _ rfl) hx (by decide);change DataW.trod enc Tryz.prog w base spare held m 3 (List.take (Tryz.prog.cellsOf 3) (List.drop 5 _))=_ at g5;obtain⟨y6,g6⟩:=vn (hf 6 _ rfl) hx (by decide);change DataW.trod enc Tryz.prog w base spare held m 3 (List.take (Tryz.prog.cellsOf 3) (List.drop 6 _))=_ at g6;rw[show Tryz.prog.cellsOf 22=1 by kernel_rfl]at g0;rw[q3q]at g1;rw[show Tryz.prog.cellsOf 24=1 by kernel_rfl]at g2;rw[show Tryz.prog.cellsOf 25=1 by kernel_rfl]at g3;rw[q4c]at g4;rw[Vi]at g5 g6;obtain⟨A0,k0,l0,e0,s0,_⟩:=YW Tryz.underlying22 (by kernel_rfl) (by decide) qf8 g0;obtain⟨A1,k1,l1,e1,s1,_⟩:=q1r g1;obtain⟨A2,k2,l2,e2,s2,_⟩:=qke g2;obtain⟨A3,k3,l3,e3,s3,_⟩:=YW Tryz.underlying25 (by kernel_rfl) (by decide) qef g3;obtain⟨A4,k4,l4,e4,s4,_⟩:=q5h g4;obtain⟨v5,e5⟩:=QF g5;obtain⟨v6,e6⟩:=QF g6;simp[Value.cells]at e0 e1 e2 e3 e4 e5 e6;subst e0 e1 e2 e3 e4 e5 e6;exact⟨⟨A0,A1,A2,A3,A4,k0,k1,k2,k3,k4⟩,⟨l0,l1,l2,l3,l4,v5,v6⟩,rfl,s0,s1,s2,s3,s4⟩
end
def qpr(c:qv):Prop:=c.fields.length*16≤140737488351232∧c.slots.length*8≤140737488351232
def qpp(x:ze):Prop:=x.args.length*16≤140737488351232∧x.locals.length*16≤140737488351232∧x.code.length*24≤140737488351232∧x.phi.length*8≤140737488351232
structure qcm(m:za):Prop where
 classes:m.classes.length*56≤140737488351232
 statics:m.statics.length*16≤140737488351232
 ints:m.ints.length*4≤140737488351232
 methods:m.methods.length*128≤140737488351232
 entries:m.entries.length*8≤140737488351232
 ct:∀c ∈m.classes,qpr c
 mt:∀x ∈m.methods,qpp x
section
variable{α H:Type}{enc:TypeId×Value→H}{P:Program}{w:World}{base:Nat}{held:Bool}{spare:Nat→Bool}
end
section
variable{H:Type}{enc:TypeId×Value→H}{w:World}{base:Nat}{held:Bool}{spare:Nat→Bool}
end
theorem qc2{w:World}{B c g i:Nat}{A:Option Addr}{L:List Int}{v:Value}(h:zd zo 1 w B A c L)(hA:∀ad,A=some ad→ad.block≠g):zd zo 1 (w.setCell ⟨g,i,none⟩ v) B A c L:=
 ⟨h.le,h.cap,fun j x hj=>by
  obtain⟨ad,e,hb,hc⟩:=h.row j x hj;exact⟨ad,e,hb,(World.cell?_of_block (w:=w) (Below.heap_setCell w ⟨g,i,none⟩ v _ (by rw[zt];exact hA ad e))).trans hc⟩⟩
structure vI(w:World)(g:Nat)(EL:List (List Int))(n k:Nat)(vs:List Value):Prop where
 blk:zf w g vs 26
 len:vs.length=n
 row:∀(i:Nat) (L:List Int),i<k→EL[i]? =some L→∃A c,vs[i]? =some (.slice A L.length c)∧zd zo 1 w w.heap.size A c L∧∀ad,A=some ad→g<ad.block
 rest:∀i:Nat,k≤i→i<n→vs[i]? =some (.slice none 0 0)
section
variable{w w':World}{g n k:Nat}{EL:List (List Int)}{vs:List Value}
theorem vI.keep(h:vI w g EL n k vs)(hb:Below w.heap.size w w'):vI w' g EL n k vs:=
 ⟨zf.keep h.blk hb (zf.lt h.blk),h.len,fun i L hi hL=>by
  obtain⟨A,c,h1,h2,h3⟩:=h.row i L hi hL;exact⟨A,c,h1,h2.keep' zo.keeps hb.size (fun q hq=>hb.cell hq),h3⟩,h.rest⟩
theorem vI.put(h:vI w g EL n k vs){A:Option Addr}{c:Nat}{L:List Int}(hk:k<n)(hL:EL[k]? =some L)(hs:zd zo 1 w w.heap.size A c L)(hA:∀ad,A=some ad→g<ad.block):vI (w.setCell ⟨g,k,none⟩ (.slice A L.length c)) g EL n (k+1) (vs.set k (.slice A L.length c)):=by
 have hz:(w.setCell ⟨g,k,none⟩ (.slice A L.length c)).heap.size=w.heap.size:=by simp
 refine⟨zf.set h.blk k _,by rw[List.length_set];exact h.len,fun i M hi hM=> ?_,fun i hi hn=>by rw[List.getElem?_set,if_neg (by omega)];exact h.rest i (by omega) hn⟩;rw[hz];rcases Nat.lt_or_ge i k with q|q
 ·obtain⟨A',c',h1,h2,h3⟩:=h.row i M q hM;exact⟨A',c',by rw[List.getElem?_set,if_neg (by omega)];exact h1,qc2 h2 (fun ad e=>by have:=h3 ad e;omega),h3⟩
 ·obtain rfl:i=k:=by omega
  have e:L=M:=by rw[hL]at hM;injection hM
  subst e;exact⟨A,c,by rw[List.getElem?_set,if_pos rfl,if_pos (by rw[h.len];exact hk)],qc2 hs (fun ad e=>by have:=hA ad e;omega),hA⟩
theorem vI.skip(h:vI w g EL n k vs)(hk:k<n)(hL:EL[k]? =some []):vI w g EL n (k+1) vs:=
 ⟨h.blk,h.len,fun i M hi hM=>by
  rcases Nat.lt_or_ge i k with q|q
  ·exact h.row i M q hM
  ·obtain rfl:i=k:=by omega
   have e:([]:List Int)=M:=by rw[hL]at hM;injection hM
   subst e;exact⟨none,0,h.rest i (zn _) hk,ji,fun ad e=>by cases e⟩,fun i hi hn=>h.rest i (by omega) hn⟩
theorem vI.cell(h:vI w g EL n k vs){i:Nat}(hi:i<n):∃v,w.cell? ⟨g,i,none⟩=some v:=
 ⟨_,(zf.cells h.blk) i _ (List.getElem?_eq_getElem (by rw[h.len];exact hi))⟩
theorem vI.slc(h:vI w g EL n k vs)(hn:EL.length=n)(hk:n≤k)(hc:n≤9223372036854775807):zd (qb zo 1) 1 w w.heap.size (some ⟨g,0,none⟩) n EL:=
 ⟨by omega,hc,fun i L hi=>by
  have hi':=(List.getElem?_eq_some_iff.mp hi).1;obtain⟨A,c,h1,h2,h3⟩:=h.row i L (by omega) hi;refine⟨_,rfl,zf.lt h.blk,A,c,?_,h2⟩;have:=(zf.cells h.blk) i _ h1;rw[show Addr.add ⟨g,0,none⟩ (i*1)=⟨g,i,none⟩by unfold Addr.add;split<;>simp_all];exact this⟩
end
open Go.ChangeShapes
abbrev hnd0:zl:=⟨none,none,none,none,none,0,0,0,0,0⟩
abbrev img0L:List Value:=[.slice none 0 0,.slice none 0 0,.slice none 0 0,.slice none 0 0,.slice none 0 0,.int .i64 0,.int .i64 0]
abbrev VD:Obj:= .cells #[.slice none 0 0,.slice none 0 0,.slice none 0 0,.slice none 0 0,.slice none 0 0,.int .i64 0,.int .i64 0] 28 (0,0)
end Go.Proofs.YtdbfllajopcccaaGreat
