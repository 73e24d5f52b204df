import Derived.Test.YtcmiljnbmgkdnaaGreatFB01
import Derived.ArgAppend
import Derived.OwnWalk
import Derived.ChangeOld
import Derived.Maps.OwnSet
import Derived.Maps.RangeWalk
import Derived.Sort.OwnSortedInts
import Derived.Deep.LoopGhost
import Derived.WalkSpells
import Derived.IntWalk
import Derived.ChangeAlike
namespace Go.Proofs.YtcmiljnbmgkdnaaGreat
set_option maxRecDepth 100000
set_option linter.unusedVariables false
set_option linter.unusedSimpArgs false
open Go.ChangeShapes Go.WideShapes Go.ChangeAt Go.RowKit
def kT(k:Int):Bool:=decide (k=2∨k=3∨k=4)
def jn(k n c:Int):Bool:=decide ((k=1∨k=2)∧n=0∨k=3∧0≤n∧n<c)
def Ju(sup:List Int)(c:Nat):List Int:=match sup[c]? with
 |none=> []
 |some s=>(c:Int)::(if h:0≤s∧s<c then Ju sup s.toNat else [])
termination_by c
decreasing_by omega
def zv(sup:List Int)(c:Int):List Int:=if 0≤c then Ju sup c.toNat else []
theorem q2a{sup:List Int}{c:Nat}(h:sup.length≤c):Ju sup c=[]:=by
 rw[Ju,Xv h]
theorem q29{sup:List Int}{c:Nat}{s:Int}(h:sup[c]? =some s):Ju sup c=(c:Int)::(if s<c then zv sup s else []):=by
 rw[Ju,h];dsimp only;unfold zv;by_cases h1:s<c
 ·by_cases h2:0≤s
  ·rw[dif_pos ⟨h2,h1⟩,Xb h1,Xb h2]
  ·rw[dif_neg (fun g=>h2 g.1),Xb h1,Xa h2]
 ·rw[dif_neg (fun g=>h1 g.2),Xa h1]
theorem qif(sup:List Int)(c:Nat):(Ju sup c).length≤c+1:=by
 induction c using Nat.strongRecOn with
 |ind c ih=>
  rw[Ju];split
  ·simp
  ·rename_i s _;by_cases h:0≤s∧s<c
   ·rw[dif_pos h];have:=ih s.toNat (by omega)
    simp;omega
   ·rw[dif_neg h];simp
theorem vT:(Tryz.prog.info? 3).map (fun i=>(i.zero,i.size,i.bytes))=some (some (.int .i64 0),1,8):=by kernel_rfl
def vl(l:List Int)(w:World)(e:Ending)(w':World):Prop:=
 ∃v,e= .returned v∧w'.ownsRow w.heap.size 3 1 v l.length (l.map (Value.int .i64))∧Below w.heap.size w w'
theorem YD{B:Nat}{w w1:World}{e:TypeId}{v v':Value}{pre:List Int}{b:Int}{o:Obj}{wr:World}
  (hown:wr.ownsRow B e 1 v pre.length (pre.map (Value.int .i64))) (hB:B≤wr.heap.size) (hnx:Below B w wr)
  (hown':w1.ownsRow B e 1 v' (pre.length+1) (pre.map (Value.int .i64)++[.int .i64 b])) (hgrow:(wr.alloc o).grownBy w1 v.ownBlock):
  w1.ownsRow B e 1 v' (pre++[b]).length ((pre++[b]).map (Value.int .i64))∧Below B w w1:=
 ⟨by simpa using hown',(hnx.alloc hB o).grown hgrow (by simp;omega) (fun j hj=>(hown.lt j hj).1)⟩
set_option maxRecDepth 1000000 in
set_option maxHeartbeats 1600000 in
theorem qji(sup:List Int)(c:Int)(A:Option Addr)(cap B:Nat)(w:World)(hl:sup.length≤1048576)(hB:B≤w.heap.size)(h:qY w B A sup):
  Calls Tryz.prog 71 #[.slice A sup.length cap,.int .i64 c] w (vl (zv sup c) w):=by
 obtain⟨i0,hi,hz0,hz1,hz2⟩:=info_parts vT;have HL:=zH h;clear h;go_enter Tryz.func71,Tryz.ntmps71;go_wp2
 go_loopw [1,5] (fun a v wr=>∃(C:Int) (pre:List Int),a= .int .i64 C∧pre++zv sup C=zv sup c∧pre.length≤1048576∧(0≤C→C<sup.length→pre.length+C+1≤sup.length)∧
   wr.ownsRow w.heap.size 3 1 v pre.length (pre.map (Value.int .i64))∧Below w.heap.size w wr) (fun a _ _=>(intOf a+1).toNat)
 case atStart=>
  refine⟨c,[],rfl,rfl,by simp,by simp;omega,⟨rfl,.inr ⟨w.heap.size,0,#[],rfl,zn _,Xw _ _,zn _,by unfold maxLen;omega,rfl,rfl⟩⟩,(zb _ _).alloc (zn _) _⟩
 case round=>
  obtain⟨C,pre,rfl,hpre,hp1,hp2,hown,hnx⟩:=hrel;have HP:=zH hpre;clear hpre;by_cases h0:0≤C
  ·by_cases h1:C<sup.length
   ·obtain⟨K,rfl⟩:=Xq h0;have hlt:K<sup.length:=by omega
    have hs0:=Xc hlt;obtain⟨ad,rfl,hab,hc⟩:=HL.out K _ hs0;have A1:=zH (q29 hs0);clear hs0;generalize sup[K]=s at*
    have hp3:pre.length+K+1≤sup.length:=by have:=hp2 h0 h1;omega
    clear hp2;have hcr:=(hnx.cell (p:=ad.add (K*3)) (by rw[zu];omega)).trans hc;clear hc;go_wp2_with(at_builtin;refine wpList_append_own _ rfl _ _ 26 rfl w.heap.size 3 i0 (.int .i64 0) 1 8 Tryz.underlying26 hi hz0 hz1 hz2 rfl (by decide) _ _ _ rfl (hown.alloc _) ⟨_,0,none⟩ 1 1 [.int .i64 (K:Int)] rfl rfl ?c1 ?c2 ?c3 ?c4 ?c5 ?_)
    case c1=>
     intro j u hj
     match j,hj with
     |0,hj=>simp at hj;subst hj;simp[Addr.add]
    case c2=>intro u hu;simp at hu;subst hu;rfl
    case c3=>unfold maxLen;omega
    case c4=>omega
    case c5=>have:=hnx.size;simp;omega
    intro v' w1 hown' hgrow _;have hb1:=(hnx.alloc hnx.size _).grown hgrow (by simp;have:=hnx.size;omega) (fun j hj=>(hown.lt j hj).1);have R:=YD hown hnx.size hnx hown' hgrow;have hc1:w1.cell? (ad.add (K*3))=some (.int .i64 s):=((R.2.cell (p:=ad.add (K*3)) (by rw[zu];omega)).trans (hnx.cell (p:=ad.add (K*3)) (by rw[zu];omega)).symm).trans hcr;clear hown' hgrow hown hcr hb1;have AK:=zH (show zv sup (K:Int)=(K:Int)::(if s<K then zv sup s else [])by unfold zv;rw[Xb (by omega),Xi];exact A1.out);clear A1;by_cases hs:s<K
    ·have A2:=zH (show(pre++[(K:Int)])++zv sup s=zv sup c by rw[←HP.out,AK.out,Xb hs];simp);clear AK HP;go_wp2_with fail
     go_roundw;case rel=>exact⟨s,pre++[(K:Int)],rfl,A2.out,by simp;omega,by simp;omega,R.1,R.2⟩
     case measure=>simp[intOf];omega
    ·have A2:=zH (show(pre++[(K:Int)])++zv sup (-1)=zv sup c by rw[←HP.out,AK.out,Xa hs];simp[zv]);clear AK HP;go_wp2_with fail
     go_roundw;case rel=>exact⟨-1,pre++[(K:Int)],rfl,A2.out,by simp;omega,by simp,R.1,R.2⟩
     case measure=>simp[intOf]
   ·have A2:=zH (show pre=zv sup c by rw[←HP.out];unfold zv;rw[Xb h0,q2a (by omega)];simp);clear HP;go_wp2_with fail
    go_ret;rw[←A2.out];exact⟨_,rfl,hown,hnx⟩
  ·have A2:=zH (show pre=zv sup c by rw[←HP.out];unfold zv;rw[Xa h0];simp);clear HP;go_wp2_with fail
   go_ret;rw[←A2.out];exact⟨_,rfl,hown,hnx⟩
def zA(sup:List Int)(k n k' n':Int):Bool:=if k=4 then kT k' else if k=3 then decide (k'=3)&& zX (zv sup n) n' else decide ((k=1∨k=2)∧k=k'∧n=n')
theorem YC{W w1:World}(hb:Below W.heap.size W w1):(∀b o,b<W.heap.size→w1.cell? ⟨b,o,none⟩=W.cell? ⟨b,o,none⟩)∧(∀b o,b<W.heap.size→w1.frozen? ⟨b,o,none⟩=W.frozen? ⟨b,o,none⟩):=
 ⟨fun b o h=>hb.cell (p:=⟨b,o,none⟩) h,fun b o h=>hb.frozen (p:=⟨b,o,none⟩) h⟩
theorem q10(sup:List Int)(n:Int):(zv sup n).length≤sup.length:=by
 unfold zv;split
 ·rcases Xk n.toNat sup.length with g|g
  ·have:=qif sup n.toNat;omega
  ·rw[q2a g];simp
 ·simp
def zz(cl:List zJ):List Int:=cl.map (·.sup)
def ve(cl:List zJ)(i:Int):List (Int×Int):=match cl[i.toNat]? with
 |some c=>c.fields
 |none=> []
def qh(cl:List zJ)(c:Int):List (Int×Int):=(zv (zz cl) c).reverse.flatMap (ve cl)
theorem JP{w:World}{B:Nat}{A:Option Addr}{cl:List zJ}(h:qv qj 3 w B A cl):qY w B A (zz cl):=fun i s hs=>by
 unfold zz at hs;rw[XB]at hs;cases hc:cl[i]? with
 |none=>rw[hc]at hs;simp at hs
 |some c=>
  rw[hc]at hs;simp at hs;subst hs;obtain⟨ad,e,hb,hx⟩:=h i c hc;exact⟨ad,e,hb,hx.sup⟩
theorem kq(cl:List zJ):(zz cl).length=cl.length:=Xo _
theorem qmn(sup:List Int)(c:Nat):∀i ∈Ju sup c,0≤i∧i≤c∧i<sup.length:=by
 induction c using Nat.strongRecOn with
 |ind c ih=>
  intro i hi;rcases Xk c sup.length with g|g
  ·rw[q29 (Xc g)]at hi;rcases XA.mp hi with rfl|hi
   ·omega
   ·split at hi
    ·rename_i hs;unfold zv at hi;split at hi
     ·rename_i h0;have:=ih (sup[c].toNat) (by omega) i hi;omega
     ·simp at hi
    ·simp at hi
  ·rw[q2a g]at hi;simp at hi
theorem qcd{sup:List Int}{c i:Int}(h:i ∈zv sup c):0≤i∧i<sup.length:=by
 unfold zv at h;split at h
 ·have:=qmn sup c.toNat i h;omega
 ·simp at h
def vw(l:List (Int×Int))(n:Int):Bool:=l.all fun t=>jn t.1 t.2 n
theorem qfh{P:Program}{w:World}(base:Nat)(t ty e:TypeId)(i:TypeInfo)(size c:Nat)(ht:P.underlying t=some (.slice e))(hi:P.info? e=some i)
  (v:Value) (n:Nat) (xs:List Value) (hown:w.ownsRow base e size v n xs):
  (Builtin.append_ #[t,t] ty #[v,.slice none 0 c]).run P w= .ok v w:=by
 rcases hown.2 with⟨rfl,rfl⟩|⟨g,cap,cur,rfl,_,_,hnc,_⟩
 ·simp[Builtin.append_,run_underlying ht,sizeOf,typeInfo,hi,Builtin.lenOf,Builtin.firstCells]
 ·simp[Builtin.append_,run_underlying ht,sizeOf,typeInfo,hi,Builtin.lenOf,Builtin.firstCells,hnc,storeCells]
theorem qe7{P:Program}{w:World}{o:Oper}{a:Act}{K:Act→World→Prop}{Q:Exit→Act→World→Prop}(s x:Operand)(t:TypeId)
  (ho:o.op= .call {callee:= .builtin .append,args:= #[s,x],argTypes:= #[t,t]})
  (base:Nat) (e:TypeId) (i:TypeInfo) (z:Value) (size bytes:Nat) (ht:P.underlying t=some (.slice e)) (hi:P.info? e=some i) (hz:i.zero=some z)
  (hsize:i.size=size) (hby:i.bytes=bytes) (hzs:z.cells.size=size) (hsz:0<size)
  (v:Value) (n:Nat) (xs:List Value) (hs:a.eval s=v) (hown:w.ownsRow base e size v n xs)
  (A:Option Addr) (m c B:Nat) (news:List Value) (hm:news.length=m*size) (hx:a.eval x= .slice A m c) (hl:zq w B A news) (h1:∀u ∈news,u.oneCell'=true)
  (h63:n+m≤maxLen) (hbytes:(n+m)*bytes≤140737488355328) (hbase:base≤w.heap.size)
  (h:∀v' w',w'.ownsRow base e size v' (n+m) (xs++news)→w.grownBy w' v.ownBlock→K (a.put o.dst v') w'):o.wp P a w K Q:=by
 rcases A with _|ad
 ·have hn:news=[]:=by
   cases news with
   |nil=>rfl
   |cons b r=>
    obtain⟨ad,e,_⟩:=hl 0 b rfl;cases e
  subst hn;have hm0:m=0:=by
   rcases Wo m with g|g
   ·exact g
   ·have:0<m*size:=Nat.mul_pos g hsz;simp at hm;omega
  subst hm0;have hrun:=qfh (P:=P) (w:=w) base t o.type e i size c ht hi v n xs hown;have hk:=h v w (by simpa using hown) (World.grownBy.refl _ _);unfold Oper.wp;simp[execOp,ho,resolve,invoke,builtin,hs,hx,hrun,Result.andThen];exact hk
 ·refine wp_append_own w s x t ho base e i z size bytes ht hi hz hsize hby hzs hsz v n xs hs hown ad m c news hx hm (fun j u hu=> ?_) h1 h63 hbytes hbase fun v' w' h2 h3 _=>h v' w' h2 h3;obtain⟨ad',e,_,hc⟩:=hl j u hu;injection e with e;subst e;exact hc
theorem Zj{P:Program}{w:World}{ops:Array Oper}{rest:List Oper}{o:Oper}{a:Act}{Q:Exit→Act→World→Prop}(hgd:o.guard=none)(s x:Operand)(t:TypeId)
  (ho:o.op= .call {callee:= .builtin .append,args:= #[s,x],argTypes:= #[t,t]})
  (base:Nat) (e:TypeId) (i:TypeInfo) (z:Value) (size bytes:Nat) (ht:P.underlying t=some (.slice e)) (hi:P.info? e=some i) (hz:i.zero=some z)
  (hsize:i.size=size) (hby:i.bytes=bytes) (hzs:z.cells.size=size) (hsz:0<size)
  (v:Value) (n:Nat) (xs:List Value) (hs:a.eval s=v) (hown:w.ownsRow base e size v n xs)
  (A:Option Addr) (m c B:Nat) (news:List Value) (hm:news.length=m*size) (hx:a.eval x= .slice A m c) (hl:zq w B A news) (h1:∀u ∈news,u.oneCell'=true)
  (h63:n+m≤maxLen) (hbytes:(n+m)*bytes≤140737488355328) (hbase:base≤w.heap.size)
  (h:∀v' w',w'.ownsRow base e size v' (n+m) (xs++news)→w.grownBy w' v.ownBlock→wpList P ops Q rest (a.put o.dst v') w'):wpList P ops Q (o::rest) a w:=
 wpList_plain hgd fun _ hK=>qe7 s x t ho base e i z size bytes ht hi hz hsize hby hzs hsz v n xs hs hown A m c B news hm hx hl h1 h63 hbytes hbase fun v' w' h2 h3=>hK _ _ (h v' w' h2 h3)
theorem q13{P:Program}{w:World}{ops:Array Oper}{o:Oper}{a:Act}{K:Act→World→Prop}{Q:Exit→Act→World→Prop}{E:Prop}(hgd:o.guard=none)(s x:Operand)(t:TypeId)
  (ho:o.op= .call {callee:= .builtin .append,args:= #[s,x],argTypes:= #[t,t]})
  (base:Nat) (e:TypeId) (i:TypeInfo) (z:Value) (size bytes:Nat) (ht:P.underlying t=some (.slice e)) (hi:P.info? e=some i) (hz:i.zero=some z)
  (hsize:i.size=size) (hby:i.bytes=bytes) (hzs:z.cells.size=size) (hsz:0<size)
  (v:Value) (n:Nat) (xs:List Value) (hs:a.eval s=v) (hown:w.ownsRow base e size v n xs)
  (A:Option Addr) (m c B:Nat) (news:List Value) (hm:news.length=m*size) (hx:a.eval x= .slice A m c) (hl:zq w B A news) (h1:∀u ∈news,u.oneCell'=true)
  (h63:n+m≤maxLen) (hbytes:(n+m)*bytes≤140737488355328) (hbase:base≤w.heap.size)
  (h:∀v' w',w'.ownsRow base e size v' (n+m) (xs++news)→w.grownBy w' v.ownBlock→K (a.put o.dst v') w'):
  if Region.wanted o (yielded ops a.tmps)=true then Oper.wp P o a w K Q else E:=by
 have hw:Region.wanted o (yielded ops a.tmps)=true:=by simp[Region.wanted,hgd]
 rw[Xb hw];exact qe7 s x t ho base e i z size bytes ht hi hz hsize hby hzs hsz v n xs hs hown A m c B news hm hx hl h1 h63 hbytes hbase h
theorem q72{α β:Type}{f:α→List β}{k:Nat}(hk:0<k)(hf:∀x,(f x).length=k):∀(l:List α) (j:Nat) (u:β),(l.flatMap f)[j]? =some u→∃i r x,j=i*k+r∧r<k∧l[i]? =some x∧(f x)[r]? =some u
 | [],j,u,h=>by simp at h
 |x::l,j,u,h=>by
  rw[List.flatMap_cons]at h;rcases Xk j k with g|g
  ·rw[XN (by rw[hf];exact g)]at h;exact⟨0,j,x,by simp,g,rfl,h⟩
  ·rw[XP (by rw[hf];exact g),hf]at h;obtain⟨i,r,y,hj,hr,hi,hu⟩:=q72 hk hf l (j - k) u h;exact⟨i+1,r,y,by rw[Nat.add_mul];omega,hr,hi,hu⟩
theorem Zo{α β:Type}{f:α→List β}{k:Nat}(hf:∀x,(f x).length=k):∀(l:List α) (i r:Nat) (x:α),l[i]? =some x→r<k→(l.flatMap f)[i*k+r]? =(f x)[r]?
 | [],i,r,x,h,_=>by simp at h
 |y::l,0,r,x,h,hr=>by
  simp at h;subst h;rw[List.flatMap_cons,XN (by rw[hf];omega)];simp
 |y::l,i+1,r,x,h,hr=>by
  rw[List.flatMap_cons,XP (by rw[hf,Nat.add_mul];omega),hf];rw[show(i+1)*k+r - k=i*k+r by rw[Nat.add_mul];omega];exact Zo hf l i r x (by simpa using h) hr
theorem q2d{α β:Type}{f:α→List β}{k:Nat}(hf:∀x,(f x).length=k):∀l:List α,(l.flatMap f).length=l.length*k
 | []=>by simp
 |x::l=>by rw[List.flatMap_cons,Xe,hf,q2d hf l,XJ,Nat.add_mul];omega
def tyC(t:Int×Int):List Value:=[.int .i64 t.1,.int .i64 t.2]
def qk(l:List (Int×Int)):List Value:=l.flatMap tyC
theorem JU(l:List (Int×Int)):(qk l).length=l.length*2:=q2d (f:=tyC) (k:=2) (fun _=>rfl) l
theorem Jn(l:List (Int×Int)):∀u ∈qk l,u.oneCell'=true:=fun u hu=>by
 obtain⟨t,_,h⟩:=List.mem_flatMap.mp hu;simp[tyC]at h;rcases h with rfl|rfl<;>rfl
theorem YZ{w:World}{B:Nat}{A:Option Addr}{l:List (Int×Int)}(h:qv zc 2 w B A l):zq w B A (qk l):=fun j u hu=>by
 obtain⟨i,r,t,rfl,hr,hi,hv⟩:=q72 (f:=tyC) (k:=2) (by decide) (fun _=>rfl) l j u hu;obtain⟨ad,e,hb,h0,h1⟩:=h i t hi;refine⟨ad,e,hb,?_⟩
 match r,hr,hv with
 |0,_,hv=>simp[tyC]at hv;subst hv;exact h0
 |1,_,hv=>
  simp[tyC]at hv;subst hv;rw[←Vz];have e:(ad.add (i*2)).add 1=zf (ad.add (i*2)) 1:=by unfold Addr.add;simp
  rw[e];exact h1
theorem YO{w:World}{B e size n g c:Nat}{xs:List Value}(h:w.ownsRow B e size (.slice (some ⟨g,0,none⟩) n c) n xs):B≤g∧∀j u,xs[j]? =some u→w.cell? ⟨g,j,none⟩=some u∧g<w.heap.size:=by
 rcases h.2 with⟨h1,_⟩|⟨g',cap,cur,h1,hb,hh,_,_,_,hx⟩
 ·cases h1
 ·injection h1 with h1;simp at h1;subst h1;refine⟨hb,fun j u hj=> ?_⟩;have hu:cur.toList[j]? =some u:=by
   rw[←hx,List.getElem?_take]at hj;split at hj
   ·exact hj
   ·cases hj
  have hc:w.cell? ⟨g,j,none⟩=some u:=by simp[World.cell?,hh];simpa using hu
  exact⟨hc,World.block_lt_of_cell? w _ hc⟩
theorem Zk{w:World}{B e size n:Nat}{v:Value}{xs:List Value}(h:w.ownsRow B e size v n xs):(v= .slice none 0 0∧n=0)∨∃g c,v= .slice (some ⟨g,0,none⟩) n c∧n≤c∧c≤9223372036854775807:=by
 rcases h.2 with⟨h1,h2⟩|⟨g',cap,cur,h1,hb,hh,h3,h4,_,hx⟩
 ·exact .inl ⟨h1,h2⟩
 ·exact .inr ⟨g',cap,h1,h3,by unfold maxLen at h4;omega⟩
theorem YN{w:World}{B e:Nat}{v:Value}{l:List (Int×Int)}(h:w.ownsRow B e 2 v l.length (qk l)):∃A c,v= .slice A l.length c∧ze zc 2 w w.heap.size A c l∧(A=none→c=0):=by
 rcases Zk h with⟨rfl,hn⟩|⟨g,c,rfl,h1,h2⟩
 ·have:l=[]:=X6 hn;subst this;exact⟨none,0,rfl,⟨zn _,by omega,qv.nil⟩,fun _=>rfl⟩
 ·obtain⟨hb,hc⟩:=YO h;refine⟨_,c,rfl,⟨h1,h2,fun i t hi=> ?_⟩,fun x=>by cases x⟩;have e0:=Zo (f:=tyC) (k:=2) (fun _=>rfl) l i 0 t hi (by decide);have e1:=Zo (f:=tyC) (k:=2) (fun _=>rfl) l i 1 t hi (by decide);obtain⟨c0,hg⟩:=hc _ _ e0;obtain⟨c1,_⟩:=hc _ _ e1;have ea:(Addr.add ⟨g,0,none⟩ (i*2))=⟨g,i*2,none⟩:=by
   unfold Addr.add;split
   ·rename_i h0;rw[h0]
   ·simp
  refine⟨_,rfl,hg,?_,?_⟩
  ·rw[ea];exact c0
  ·rw[ea];exact c1
theorem kO{w:World}{B e:Nat}{v:Value}{l:List Int}(h:w.ownsRow B e 1 v l.length (l.map (Value.int .i64))):∃A c,v= .slice A l.length c∧zq w w.heap.size A (l.map (Value.int .i64))∧l.length≤c∧c≤9223372036854775807:=by
 rcases Zk h with⟨rfl,hn⟩|⟨g,c,rfl,h1,h2⟩
 ·have:l=[]:=X6 hn;subst this;exact⟨none,0,rfl,zq.nil,zn _,by omega⟩
 ·exact⟨_,c,rfl,zq.of_own h,h1,h2⟩
theorem YE(w:World)(T:TypeId)(k:Nat):(w.alloc (.cells #[] T)).ownsRow w.heap.size T k (.slice (some ⟨w.heap.size,0,none⟩) 0 0) 0 []:=
 ⟨by simp,.inr ⟨w.heap.size,0,#[],rfl,zn _,Xw _ _,zn _,by unfold maxLen;omega,by simp,by simp⟩⟩
theorem jV{B:Nat}{w w1 w2:World}{v:Value}{e size n:Nat}{xs:List Value}(hb:Below B w w1)(hown:w1.ownsRow B e size v n xs)(hB:B≤w1.heap.size)(hg:w1.grownBy w2 v.ownBlock):Below B w w2:=
 hb.grown hg hB fun k hk=>by
  rcases hown.2 with⟨rfl,_⟩|⟨g',cap,cur,rfl,hb',_⟩
  ·simp[Value.ownBlock]at hk
  ·have:g'=k:=by simpa[Value.ownBlock]using hk
   omega
theorem q7s(l m:List (Int×Int))(A A':Option Addr)(cap cap' B:Nat)(w:World)(hB:B≤w.heap.size)(h:ze zc 2 w B A cap l)(h':ze zc 2 w B A' cap' m):
  Calls Tryz.prog 31 #[.slice A l.length cap,.slice A' m.length cap'] w fun e w'=>e= .returned (.bool (decide (l=m)))∧Below w.heap.size w w':=by
 have hlc:=h.le;have hcm:=h.cap;have hlc':=h'.le;have hcm':=h'.cap;have HL:=zH h;have HM:=zH h';have HB:=zH hB;clear h h' hB;obtain⟨b,hb⟩:∃b,decide (l=m)=b:=⟨_,rfl⟩
 rw[hb];have E:=zH hb.symm;clear hb;by_cases hn:l.length=m.length
 ·have HLN:=zH hn;have hlen:m.length=l.length:=hn.symm;rw[hlen];clear hn;go_enter Tryz.func31,Tryz.ntmps31;go_wp2
  go_loopw [5] (fun i wr=>∃k:Nat,k≤l.length∧i= .int .i64 k∧Hid (l.take k=m.take k)∧Hid (Below w.heap.size w wr)) (fun i _=>l.length - (intOf i).toNat)
  case atStart=>exact⟨0,by omega,rfl,zH (by simp),zH (zb _ _)⟩
  case round=>
   obtain⟨k,hk,rfl,HN,HX⟩:=hrel;by_cases hlt:k<l.length
   ·have hltm:k<m.length:=by omega
    obtain⟨ad,rfl,hab,q0,q1⟩:=(HL.out.below_to zc.keeps HX.out HB.out).row.at_ hlt;obtain⟨ad',rfl,hab',q0',q1'⟩:=(HM.out.below_to zc.keeps HX.out HB.out).row.at_ hltm;have HNE:=zH (fun g=>YF hlt hltm g);have HEQ:=zH (fun g=>YJ hlt hltm HN.out g);generalize l[k]=t at*
    generalize m[k]=s at*
    obtain⟨x,y⟩:=t;obtain⟨x',y'⟩:=s;dsimp only at q0 q1 q0' q1';by_cases hx:x=x'∧y=y'
    ·obtain⟨rfl,rfl⟩:=hx;have E2:=zH (HEQ.out rfl);go_wp2_with fail
     go_quiet (fail)
     go_wp2
     go_roundw;case rel=>exact⟨k+1,by omega,by go_num,E2,zH (qZ HX.out _)⟩
     case measure=>simp[intOf];omega
    ·have E2:=zH (show b=false by rw[E.out];exact Xg (HNE.out (by simpa using hx)));have hxx:¬x=x'∨(x=x'∧¬y=y'):=by omega
     rcases hxx with hxx|⟨rfl,hxx⟩
     all_goals
      go_wp2_with fail
      go_quiet (fail)
      go_wp2
      go_ret;exact⟨by rw[E2.out];rfl,(qZ HX.out _)⟩
   ·have E2:=zH (show b=true by rw[E.out];exact Xm (Yw HLN.out k HN.out (by omega)));go_wp2_with fail
    go_ret;exact⟨by rw[E2.out];rfl,HX.out⟩
 ·have E2:=zH (show b=false by rw[E.out];exact Xg (fun g=>hn (by rw[g])));have hn':((l.length:Int)==(m.length:Int))=false:=XG.mpr (by omega);go_enter Tryz.func31,Tryz.ntmps31;go_wp2
  go_ret;exact⟨by rw[E2.out];rfl,zb _ _⟩
def zP(n least most:Int):Bool:=decide (least≤n∧n≤most)
def qd(t:Int×Int):Bool:=decide (0≤t.1∧t.1≤5∧(t.2=0∨t.1=3∧0≤t.2∧t.2≤7))
def kC(l:List (Int×Int))(n:Int):Bool:=decide ((l.length:Int)≤n∧∀t ∈l,qd t=true)
def kh(l:List Int)(n most:Int):Bool:=decide ((l.length:Int)≤n∧∀x ∈l,0≤x∧x≤most)
theorem qha(n least most:Int)(w:World):Calls Tryz.prog 34 #[.int .i64 n,.int .i64 least,.int .i64 most] w fun e w'=>e= .returned (.bool (zP n least most))∧w=w':=by
 by_cases h:least≤n
 ·by_cases g:n≤most
  ·have E:=zH (show zP n least most=true from Xm ⟨h,g⟩);go_enter Tryz.func34,Tryz.ntmps34;go_wp2
   go_ret;exact⟨by rw[E.out];first|rfl|simp[g],rfl⟩
  ·have E:=zH (show zP n least most=false from Xg (fun x=>g x.2));go_enter Tryz.func34,Tryz.ntmps34;go_wp2
   go_ret;exact⟨by rw[E.out];first|rfl|simp[g],rfl⟩
 ·have E:=zH (show zP n least most=false from Xg (fun x=>h x.1));go_enter Tryz.func34,Tryz.ntmps34;go_wp2
  go_ret;exact⟨by rw[E.out];first|rfl|simp[h],rfl⟩
theorem vR{n least most:Int}{r:Bool}{w:World}(H:Hid (zP n least most=r)):Calls Tryz.prog 34 #[.int .i64 n,.int .i64 least,.int .i64 most] w fun e w'=>e= .returned (.bool r)∧w=w':=by
 have h:=qha n least most w;rw[H.out]at h;exact h
theorem q68(t:Int×Int)(w:World):Calls Tryz.prog 35 #[zU t.1 t.2] w fun e w'=>e= .returned (.bool (qd t))∧Below w.heap.size w w':=by
 obtain⟨k,n⟩:=t;dsimp only;have HW:=zH ((zb w.heap.size w).alloc (zn _) (.cells #[.int .i64 k,.int .i64 n] 50));obtain⟨r,hr⟩:∃r,zP k 0 5=r:=⟨_,rfl⟩
 obtain⟨q,hq⟩:∃q,zP n 0 7=q:=⟨_,rfl⟩
 have R:=zH hr;have Q:=zH hq;have E:Hid (qd (k,n)=(r&& (decide (n=0)||(decide (k=3)&& q)))):=zH (by
  rw[←hr,←hq];unfold qd zP;rw[XV];simp;omega)
 clear hr hq;generalize qd (k,n)=b at E⊢
 cases r
 ·go_enter Tryz.func35,Tryz.ntmps35;go_wp2_with(go_at_call 34;(with_reducible refine(vR R).mono ?_);rintro e w' ⟨rfl,rfl⟩)
  go_ret;exact⟨by rw[E.out];rfl,HW.out⟩
 ·by_cases h0:n=0
  ·subst h0;go_enter Tryz.func35,Tryz.ntmps35;go_wp2_with(go_at_call 34;(with_reducible refine(vR R).mono ?_);rintro e w' ⟨rfl,rfl⟩)
   go_ret;exact⟨by rw[E.out];rfl,HW.out⟩
  ·by_cases h3:k=3
   ·subst h3;cases q;all_goals
     go_enter Tryz.func35,Tryz.ntmps35;go_wp2_with(first|(go_at_call 34;(with_reducible refine(vR R).mono ?_);rintro e w' ⟨rfl,rfl⟩)|(go_at_call 34;(with_reducible refine(vR Q).mono ?_);rintro e w' ⟨rfl,rfl⟩))
     go_ret;exact⟨by rw[E.out];simp[h0],HW.out⟩
   ·go_enter Tryz.func35,Tryz.ntmps35;go_wp2_with(go_at_call 34;(with_reducible refine(vR R).mono ?_);rintro e w' ⟨rfl,rfl⟩)
    go_ret;exact⟨by rw[E.out];simp[h0,h3],HW.out⟩
theorem qj9(l:List (Int×Int))(n:Int)(A:Option Addr)(cap B:Nat)(w:World)(hB:B≤w.heap.size)(h:ze zc 2 w B A cap l):
  Calls Tryz.prog 32 #[.slice A l.length cap,.int .i64 n] w fun e w'=>e= .returned (.bool (kC l n))∧Below w.heap.size w w':=by
 have hlc:=h.le;have hcm:=h.cap;have HL:=zH h;have HB:=zH hB;clear h hB;by_cases hn:n<l.length
 ·have E:=zH (show kC l n=false from Xg (fun x=>by omega));go_enter Tryz.func32,Tryz.ntmps32;go_wp2
  go_ret;exact⟨by rw[E.out];rfl,zb _ _⟩
 ·obtain⟨b,hb⟩:∃b,kC l n=b:=⟨_,rfl⟩
  rw[hb];have E:Hid (b=decide (∀t ∈l,qd t=true)):=zH (by rw[←hb];unfold kC;rw[X8];exact⟨fun x=>x.2,fun x=>⟨by omega,x⟩⟩);clear hb;go_enter Tryz.func32,Tryz.ntmps32;go_wp2
  go_loopw [5] (fun i wr=>∃k:Nat,k≤l.length∧i= .int .i64 k∧Hid (∀t ∈l.take k,qd t=true)∧Hid (Below w.heap.size w wr)) (fun i _=>l.length - (intOf i).toNat)
  case atStart=>exact⟨0,by omega,rfl,zH (by simp),zH (zb _ _)⟩
  case round=>
   obtain⟨k,hk,rfl,HN,HX⟩:=hrel;by_cases hlt:k<l.length
   ·obtain⟨ad,rfl,hab,q0,q1⟩:=(HL.out.below_to zc.keeps HX.out HB.out).row.at_ hlt;have T1:=zH (show l.take (k+1)=l.take k++[l[k]]by rw[XH,Xc hlt];rfl);have M1:=zH (Xf hlt);generalize l[k]=t at*
    obtain⟨r,hr⟩:∃r,qd t=r:=⟨_,rfl⟩
    have R:=zH hr;clear hr;cases r
    ·have E2:=zH (show b=false by rw[E.out];exact Xg (fun x=>by have:=x t M1.out;rw[R.out]at this;cases this));go_wp2_with(go_at_call 35;(with_reducible refine(q68 t _).mono ?_);rintro e w1 ⟨he,hb⟩;rw[R.out]at he;subst he;have HX1:=zH (HX.out.trans (hb.mono HX.out.size)))
     go_ret;exact⟨by rw[E2.out];rfl,HX1.out⟩
    ·go_wp2_with(go_at_call 35;(with_reducible refine(q68 t _).mono ?_);rintro e w1 ⟨he,hb⟩;rw[R.out]at he;subst he;have HX1:=zH (HX.out.trans (hb.mono HX.out.size));clear hb)
     go_roundw;case rel=>exact⟨k+1,by omega,by go_num,zH (by rw[T1.out];intro s hs;rcases Xn.mp hs with g|g;exact HN.out s g;simp at g;subst g;exact R.out),HX1⟩
     case measure=>simp[intOf];omega
   ·have E2:=zH (show b=true by rw[E.out];exact Xm (by have:=HN.out;rwa [XK (by omega)]at this));go_wp2_with fail
    go_ret;exact⟨by rw[E2.out];rfl,HX.out⟩
theorem qnu(l:List Int)(n most:Int)(A:Option Addr)(cap B:Nat)(w:World)(hB:B≤w.heap.size)(h:ze zl 1 w B A cap l):
  Calls Tryz.prog 33 #[.slice A l.length cap,.int .i64 n,.int .i64 most] w fun e w'=>e= .returned (.bool (kh l n most))∧w=w':=by
 have hlc:=h.le;have hcm:=h.cap;have HL:=zH h;clear h;by_cases hn:n<l.length
 ·have E:=zH (show kh l n most=false from Xg (fun x=>by omega));go_enter Tryz.func33,Tryz.ntmps33;go_wp2
  go_ret;exact⟨by rw[E.out];rfl,rfl⟩
 ·obtain⟨b,hb⟩:∃b,kh l n most=b:=⟨_,rfl⟩
  rw[hb];have E:Hid (b=decide (∀t ∈l,0≤t∧t≤most)):=zH (by rw[←hb];unfold kh;rw[X8];exact⟨fun x=>x.2,fun x=>⟨by omega,x⟩⟩);clear hb;go_enter Tryz.func33,Tryz.ntmps33;go_wp2
  go_loop [7] (fun i=>∃k:Nat,k≤l.length∧i= .int .i64 k∧Hid (∀t ∈l.take k,0≤t∧t≤most)) (fun i=>l.length - (intOf i).toNat)
  case atStart=>exact⟨0,by omega,rfl,zH (by simp)⟩
  case round=>
   obtain⟨k,hk,rfl,HN⟩:=hrel;by_cases hlt:k<l.length
   ·obtain⟨ad,rfl,hab,q0⟩:=HL.out.row.at_ hlt;rw[Xz]at q0;have T1:=zH (show l.take (k+1)=l.take k++[l[k]]by rw[XH,Xc hlt];rfl);have M1:=zH (Xf hlt);generalize l[k]=t at*
    have q0':w.cell? (ad.add k)=some (.int .i64 t):=q0;obtain⟨r,hr⟩:∃r,zP t 0 most=r:=⟨_,rfl⟩
    have R:=zH hr;clear hr;cases r
    ·have E2:=zH (show b=false by rw[E.out];exact Xg (fun x=>by have:=of_decide_eq_false R.out;exact this (x t M1.out)));go_wp2_with(go_at_call 34;(with_reducible refine(vR R).mono ?_);rintro e w1 ⟨rfl,rfl⟩)
     go_ret;exact⟨by rw[E2.out];rfl,rfl⟩
    ·go_wp2_with(go_at_call 34;(with_reducible refine(vR R).mono ?_);rintro e w1 ⟨rfl,rfl⟩)
     go_round
     case rel=>exact⟨k+1,by omega,by go_num,zH (by rw[T1.out];intro s hs;rcases Xn.mp hs with g|g;exact HN.out s g;simp at g;subst g;exact Xy R.out)⟩
     case measure=>simp[intOf];omega
   ·have E2:=zH (show b=true by rw[E.out];exact Xm (by have:=HN.out;rwa [XK (by omega)]at this));go_wp2_with fail
    go_ret;exact⟨by rw[E2.out];rfl,rfl⟩
def qM(x:zh)(n:Int):Int×Int:=if 0≤n then(x.args++x.locals)[n.toNat]?.getD (0,0)else(0,0)
theorem qhm{x:zh}{n:Int}(h:n<0):qM x n=(0,0):=by unfold qM;rw[Xa (by omega)]
theorem qhn{x:zh}{j:Nat}(h:j<x.args.length):qM x j=x.args[j]:=by
 unfold qM;rw[Xb (by omega),Xi,XN h,Xc h];rfl
theorem qfy{x:zh}{j:Nat}(h:j<x.locals.length):qM x ((x.args.length+j:Nat):Int)=x.locals[j]:=by
 unfold qM;rw[Xb (by omega),Xi,XP (by omega),Nat.add_sub_cancel_left,Xc h];rfl
theorem qgj{x:zh}{n:Int}(h:(x.args.length:Int)+x.locals.length≤n):qM x n=(0,0):=by
 unfold qM;rw[Xb (by omega),Xv (by rw[Xe];omega)];rfl
def jP(cl:List zJ)(c n:Int):Option Int:=if 0≤c∧0≤n then cl[c.toNat]?.bind fun x=>x.slots[n.toNat]? else none
theorem q4r{cl:List zJ}{i j:Nat}(hi:i<cl.length)(hj:j<cl[i].slots.length):jP cl i j=some cl[i].slots[j]:=by
 unfold jP;rw[Xb ⟨by omega,by omega⟩,Xi,Xc hi,Xi];simp[Xc hj]
theorem q87{cl:List zJ}{c n:Int}(h:c<0∨(cl.length:Int)≤c):jP cl c n=none:=by
 unfold jP;split
 ·rename_i g;rw[Xv (by omega)];rfl
 ·rfl
theorem q8j{cl:List zJ}{i:Nat}{n:Int}(hi:i<cl.length)(h:n<0∨(cl[i].slots.length:Int)≤n):jP cl i n=none:=by
 unfold jP;split
 ·rename_i g;rw[Xi,Xc hi];exact Xv (by omega)
 ·rfl
def q3p(o:Option Int)(w:World)(e:Ending)(w':World):Prop:=e= .returned (.tuple #[.int .i64 (o.getD 0),.bool o.isSome])∧Below w.heap.size w w'
theorem q0w{sup:List Int}{a:Int}{s:Int}(h0:0≤a)(h:sup[a.toNat]? =some s):zv sup a=a::(if s<a then zv sup s else []):=by
 have e:=q29 h;have ea:(a.toNat:Int)=a:=by omega
 rw[ea]at e;rw[←e];unfold zv;rw[Xb h0]
theorem JO{sup:List Int}{a:Int}(h:a<0∨(sup.length:Int)≤a):zv sup a=[]:=by
 unfold zv;split
 ·exact q2a (by omega)
 ·rfl
theorem q3a{sup:List Int}{a:Int}(h0:0≤a)(h1:a<sup.length):∃s,sup[a.toNat]? =some s:=
 ⟨_,Xc (show a.toNat<sup.length by omega)⟩
theorem VJ{sup:List Int}{a:Int}(h0:0≤a)(h1:a<sup.length):a ∈zv sup a:=by
 obtain⟨s,hs⟩:=q3a h0 h1;rw[q0w h0 hs];exact XD
theorem q36(sup:List Int)(n:Nat):∀a:Int,a<n→(∀b ∈zv sup a,0≤b∧b≤a∧a<sup.length)∧(∀b ∈zv sup a,∀c ∈zv sup b,c ∈zv sup a)∧
  (∀b ∈zv sup a,∀c ∈zv sup a,c≤b→c ∈zv sup b)∧(zv sup a).Pairwise (· > ·):=by
 induction n with
 |zero=>
  intro a ha;rw[JO (.inl (by omega))];simp
 |succ n ih=>
  intro a ha;by_cases hv:0≤a∧a<sup.length
  ·obtain⟨h0,h1⟩:=hv;obtain⟨s,hs⟩:=q3a h0 h1;have e:=q0w h0 hs;by_cases hsa:s<a
   ·rw[Xb hsa]at e;obtain⟨i1,i2,i3,i4⟩:=ih s (by omega);refine⟨?_,?_,?_,?_⟩
    ·intro b hb;rw[e]at hb;rcases XA.mp hb with rfl|hb
     ·exact⟨h0,by omega,h1⟩
     ·have:=i1 b hb;exact⟨this.1,by omega,h1⟩
    ·intro b hb c hc;rw[e]at hb;rcases XA.mp hb with rfl|hb
     ·exact hc
     ·rw[e];exact XF _ (i2 b hb c hc)
    ·intro b hb c hc hcb;have hb':=hb;rw[e]at hb' hc;rcases XA.mp hb' with rfl|hb2
     ·rw[e];exact hc
     ·rcases XA.mp hc with rfl|hc2
      ·have:=i1 b hb2;omega
      ·exact i3 b hb2 c hc2 hcb
    ·rw[e,List.pairwise_cons];exact⟨fun b hb=>by have:=i1 b hb;omega,i4⟩
   ·rw[Xa hsa]at e;rw[e];refine⟨?_,?_,?_,by simp⟩
    ·intro b hb;simp at hb;subst hb;exact⟨h0,by omega,h1⟩
    ·intro b hb c hc;simp at hb;subst hb;rw[←e];exact hc
    ·intro b hb c hc _;simp at hb;subst hb;rw[e];exact hc
  ·rw[JO (by omega)];simp
theorem vP{sup:List Int}{a b:Int}(h:b ∈zv sup a):0≤b∧b≤a∧a<sup.length:=(q36 sup (a.toNat+1) a (by omega)).1 b h
theorem qie{sup:List Int}{a b c:Int}(h:b ∈zv sup a)(g:c ∈zv sup b):c ∈zv sup a:=(q36 sup (a.toNat+1) a (by omega)).2.1 b h c g
theorem qmk{sup:List Int}{a b c:Int}(h:b ∈zv sup a)(g:c ∈zv sup a)(l:c≤b):c ∈zv sup b:=(q36 sup (a.toNat+1) a (by omega)).2.2.1 b h c g l
theorem qml(sup:List Int)(a:Int):(zv sup a).Pairwise (· > ·):=(q36 sup (a.toNat+1) a (by omega)).2.2.2
theorem qmm{sup:List Int}{a b:Int}(h:b ∈zv sup a)(g:a ∈zv sup b):a=b:=by
 have:=vP h;have:=vP g;omega
theorem QV{l:List Int}{n:Int}:zX l n=true↔n ∈l:=by unfold zX;simp
theorem jW(sup:List Int)(k n k' n':Int):zA sup k n k' n'=true↔(k=4∧(k'=2∨k'=3∨k'=4))∨(k=3∧k'=3∧n' ∈zv sup n)∨((k=1∨k=2)∧k=k'∧n=n'):=by
 unfold zA;by_cases h4:k=4
 ·subst h4;simp[kT]
 ·by_cases h3:k=3
  ·subst h3;simp[zX]
  ·simp[h3,h4]
structure Vt(w:World)(p:Addr)(hx:qx)(x:zh):Prop where
 c0:w.cell? p=some (.slice hx.A0 x.args.length hx.k0)
 c1:w.cell? (zf p 1)=some (.slice hx.A1 x.locals.length hx.k1)
 c2:w.cell? (zf p 2)=some (.int .i64 x.ret.1)
 c3:w.cell? (zf p 3)=some (.int .i64 x.ret.2)
 c4:w.cell? (zf p 4)=some (.slice hx.A4 x.code.length hx.k4)
 c5:w.cell? (zf p 5)=some (.int .i64 x.depth)
 c6:w.cell? (zf p 6)=some (.int .i64 x.pot)
 c7:w.cell? (zf p 7)=some (.slice hx.A7 x.phi.length hx.k7)
theorem Vt.keep{w w':World}{p:Addr}{hx:qx}{x:zh}{B:Nat}(h:Vt w p hx x)(hb:Below B w w')(hp:p.block<B):Vt w' p hx x:=
 ⟨(hb.cell hp).trans h.c0,(hb.cell (p:=zf p 1) hp).trans h.c1,(hb.cell (p:=zf p 2) hp).trans h.c2,(hb.cell (p:=zf p 3) hp).trans h.c3,(hb.cell (p:=zf p 4) hp).trans h.c4,
  (hb.cell (p:=zf p 5) hp).trans h.c5,(hb.cell (p:=zf p 6) hp).trans h.c6,(hb.cell (p:=zf p 7) hp).trans h.c7⟩
theorem qd8{w:World}{B:Nat}{p:Addr}{x:zh}(h:qC w B p x):∃hx,jt w B hx x∧Vt w p hx x:=by
 obtain⟨⟨A0,k0,s0,hs0⟩,⟨A1,k1,s1,hs1⟩,s2,s3,⟨A4,k4,s4,hs4⟩,s5,s6,⟨A7,k7,s7,hs7⟩⟩:=h;exact⟨⟨A0,A1,A4,A7,k0,k1,k4,k7⟩,⟨hs0,hs1,hs4,hs7⟩,⟨s0,s1,s2,s3,s4,s5,s6,s7⟩⟩
theorem Qe{w:World}{B:Nat}{h:zi}{m:za}(H:zm w B h m){k:Nat}(hk:k<m.methods.length):∃ad hx,h.A3=some ad∧ad.block<B∧jt w B hx m.methods[k]∧Vt w (ad.add (k*8)) hx m.methods[k]:=by
 obtain⟨ad,e,hb,hm⟩:=H.methods.row.at_ hk;obtain⟨hx,h1,h2⟩:=qd8 hm;exact⟨ad,hx,e,hb,h1,h2⟩
theorem q07(w:World)(v:Value)(T:TypeId):zq (w.alloc (.cells #[v] T)) (w.alloc (.cells #[v] T)).heap.size (some ⟨w.heap.size,0,none⟩) [v]:=fun j u hj=>by
 match j,hj with
 |0,hj=>simp at hj;subst hj;exact⟨_,rfl,by simp,by simp[Addr.add]⟩
 |j+1,hj=>simp at hj
theorem JR{v:Value}(h:v.oneCell'=true):∀u ∈ [v],u.oneCell'=true:=fun u hu=>by
 rw[XL.mp hu];exact h
def oN(O:List Int)(t:Nat):Int:=O[t]?.getD 0
theorem ZA{O:List Int}{t:Nat}(h:t<O.length):oN O t=O[t]:=by unfold oN;rw[Xc h];rfl
theorem Yd{O:List Int}{f t:Nat}{v:Int}(hf:f<O.length):oN (O.set f v) t=if t=f then v else oN O t:=by
 unfold oN;rw[Wc];by_cases h:f=t
 ·subst h;rw[Xb rfl,Xb hf,Xb rfl];rfl
 ·rw[Xa h,Xa (fun e=>h e.symm)]
theorem q1f{z v:Value}(hz:z.cells= #[v])(n:Nat):(madeCells z.cells (n*1)).toList=List.replicate n v:=by
 rw[hz];refine List.ext_getElem? fun i=> ?_;unfold madeCells;by_cases hi:i<n
 ·rw[Array.getElem?_toList,Array.getElem?_map,Array.getElem?_range,Xb (by omega),Wm,Xb hi];simp[Nat.mod_one]
 ·rw[Xv (by simp;omega),Xv (by simp;omega)]
theorem q2j{w:World}{base g n:Nat}{xs:List Value}{T:TypeId}(h:w.ownsRow base T 1 (.slice (some ⟨g,0,none⟩) n n) n xs):zd w g xs T:=by
 obtain⟨h0,h1⟩:=h;rcases h1 with⟨h1,_⟩|⟨g',cap,cur,h1,_,hh,_,_,hs,hx⟩
 ·cases h1
 ·injection h1 with e1 e2 e3;simp at e1;subst e1 e3;have hc:cur.toList=xs:=by rw[←hx,XK (by rw[Array.length_toList,hs];exact zn _)]
  unfold zd;rw[hh,←hc]
def qg(w:World)(g:Nat)(O:List Int):Prop:=zd w g (O.map (Value.int .i64)) 3
theorem qg.at_{w:World}{g t:Nat}{O:List Int}(h:qg w g O)(ht:t<O.length):w.cell? ⟨g,t,none⟩=some (.int .i64 (oN O t)):=by
 refine h.cells t _ ?_;rw[XB,Xc ht,ZA ht];rfl
theorem qg.set{w:World}{g t:Nat}{O:List Int}(h:qg w g O)(v:Int):qg (w.setCell ⟨g,t,none⟩ (.int .i64 v)) g (O.set t v):=by
 have:=zd.set h t (.int .i64 v);unfold qg;rw[List.map_set];exact this
theorem qg.keep{w w':World}{g:Nat}{O:List Int}(h:qg w g O)(hb:Below w.heap.size w w'):qg w' g O:=zd.keep h hb (zd.lt h)
theorem qg.slc{w:World}{g n:Nat}{O:List Int}(h:qg w g O)(hn:O.length=n)(hl:n≤1000):ze zl 1 w w.heap.size (some ⟨g,0,none⟩) n O:=
 ⟨by omega,by omega,fun i x hi=>by
  obtain⟨hi',e⟩:=XM.mp hi;have hc:=h.at_ hi';rw[ZA hi',e]at hc;refine⟨_,rfl,zd.lt h,?_⟩;show w.cell? (Addr.add ⟨g,0,none⟩ (i*1))=_;rw[show Addr.add ⟨g,0,none⟩ (i*1)=⟨g,i,none⟩by unfold Addr.add;split<;>simp_all];exact hc⟩
def qe{α:Type}(f:Nat→α)(a:Nat)(b:α):Nat→α:=fun x=>if x=a then b else f x
theorem vW{α:Type}(f:Nat→α)(a:Nat)(b:α):qe f a b a=b:=Xb rfl
theorem Zs{α:Type}(f:Nat→α){a x:Nat}(b:α)(h:x≠a):qe f a b x=f x:=Xa h
def vz(n:Nat)(f:Nat→Int):List Int:=(List.range n).map f
theorem JV(n:Nat)(f:Nat→Int):(vz n f).length=n:=by unfold vz;rw[Xo,XZ]
theorem q6s{n v:Nat}(f:Nat→Int)(hv:v<n):oN (vz n f) v=f v:=by
 rw[ZA (by rw[JV];exact hv)];unfold vz;simp
theorem q69{n v:Nat}(f:Nat→Int)(b:Int):(vz n f).set v b=vz n (qe f v b):=by
 refine We (by rw[XI,JV,JV]) fun i h1 h2=> ?_;rw[JV]at h2;have hl:v<n→v<(vz n f).length:=fun q=>by rw[JV];exact q
 have hg:∀(F:Nat→Int) (h:i<(vz n F).length),(vz n F)[i]=F i:=fun F h=>(List.getElem_eq_iff h).mpr (by unfold vz;rw[XB,Wp h2];rfl);rw[List.getElem_set,hg,hg];unfold qe;by_cases e:v=i
 ·subst e;simp
 ·rw[Xa e,Xa (fun q:i=v=>e q.symm)]
abbrev jL:Int:=9223372036854775807
structure Wk where
 met:Nat
 place:Nat→Nat
 back:Nat→Int
 gone:Nat→Nat
 way:List Nat
 opn:List Nat
 parts:List (List Nat)
abbrev eds(EL:List (List Int))(v:Nat):List Int:=EL[v]?.getD []
section
variable(EL:List (List Int))(n:Nat)
structure zO(S:Wk):Prop where
 wsub:∀p ∈S.way,p ∈S.opn
 winc:S.way.Pairwise (fun a b=>S.place a<S.place b)
 oinc:S.opn.Pairwise (fun a b=>S.place a<S.place b)
 olt:∀v ∈S.opn,v<n
 opos:∀v ∈S.opn,0<S.place v∧S.place v≤S.met
 zero:∀v,v<n→0<S.place v→v ∈S.opn∨v ∈S.parts.flatten
 clt:∀v ∈S.parts.flatten,v<n∧0<S.place v∧v ∉S.opn∧S.back v=jL
 cnt:S.met+QI (fun v=>decide (0<S.place v)) n=n
 gz:∀v,v<n→S.place v=0→S.gone v=0
 bin:∀v ∈S.opn,1≤S.back v∧S.back v≤S.place v∧∃u ∈S.opn,(S.place u:Int)=S.back v∧(u=v∨qy EL n v u)
 gle:∀v ∈S.opn,S.gone v≤(eds EL v).length
 low:∀v ∈S.opn,∀t:Nat,t<n→(t:Int) ∈(eds EL v).take (S.gone v)→t ∈S.parts.flatten∨(t ∈S.opn∧S.back v≤S.place t)
 fin:∀v ∈S.opn,v ∉S.way→S.gone v=(eds EL v).length∧S.back v<S.place v
 tree:∀p ∈S.way,∀v ∈S.opn,S.place p≤S.place v→p=v∨qy EL n p v
 subt:∀p ∈S.way,∀v ∈S.opn,v ∉S.way→S.place p<S.place v→(∀q ∈S.way,S.place p<S.place q→S.place v<S.place q)→S.back p≤S.back v
 nod:S.parts.flatten.Nodup
 ord:∀i (h:i<S.parts.length),∀v ∈S.parts[i],∀t,t<n→vb EL v t→∃j,∃h:j<S.parts.length,j≤i∧t ∈S.parts[j]
 ring:∀c ∈S.parts,∀a ∈c,∀b ∈c,a=b∨qy EL n a b
 srt:∀c ∈S.parts,c≠ []∧c.Pairwise (· < ·)
end
section
variable{EL:List (List Int)}{n:Nat}{S:Wk}
theorem pw_inj{l:List Nat}{f:Nat→Nat}(h:l.Pairwise (fun a b=>f a<f b)){a b:Nat}(ha:a ∈l)(hb:b ∈l)(e:f a=f b):a=b:=by
 induction l with
 |nil=>cases ha
 |cons x l ih=>
  rw[List.pairwise_cons]at h;rcases XA.mp ha with rfl|ha'<;>rcases XA.mp hb with rfl|hb'
  ·rfl
  ·have:=h.1 b hb';omega
  ·have:=h.1 a ha';omega
  ·exact ih h.2 ha' hb'
theorem qee{l:List Nat}{f g:Nat→Nat}(h:l.Pairwise (fun a b=>f a<f b))(e:∀v ∈l,g v=f v):l.Pairwise (fun a b=>g a<g b):=
 List.Pairwise.imp_of_mem (fun {a b} ha hb q=>by rw[e a ha,e b hb];exact q) h
theorem qed{l:List Nat}{f:Nat→Nat}{v:Nat}(h:l.Pairwise (fun a b=>f a<f b))(hv:∀a ∈l,f a<f v):(l++[v]).Pairwise (fun a b=>f a<f b):=by
 rw[Wh];exact⟨h,List.pairwise_singleton _ _,fun a ha b hb=>by rw[XL]at hb;subst hb;exact hv a ha⟩
theorem zO.start:zO EL n ⟨0,fun _=>0,fun _=>0,fun _=>0,[],[],[]⟩where
 wsub:=fun p hp=>by cases hp
 winc:=List.Pairwise.nil
 oinc:=List.Pairwise.nil
 olt:=fun v hv=>by cases hv
 opos:=fun v hv=>by cases hv
 zero:=fun v _ h=>by simp at h
 clt:=fun v hv=>by cases hv
 cnt:=by
  have:=q90 n;simpa using this
 gz:=fun _ _ _=>rfl
 bin:=fun v hv=>by cases hv
 gle:=fun v hv=>by cases hv
 low:=fun v hv=>by cases hv
 fin:=fun v hv=>by cases hv
 tree:=fun p hp=>by cases hp
 subt:=fun p hp=>by cases hp
 nod:=by simp
 ord:=fun i h=>by simp at h
 ring:=fun c hc=>by cases hc
 srt:=fun c hc=>by cases hc
theorem zO.met_le(h:zO EL n S):S.met≤n:=by have:=h.cnt;omega
theorem zO.met_lt(h:zO EL n S){v:Nat}(hv:v<n)(h0:S.place v=0):S.met<n:=by
 have h1:=q2q (p:=fun v=>decide (0<S.place v)) (g:=v) (by simp[h0]) n hv;have:=h.cnt;omega
def Wk.meet(S:Wk)(v:Nat):Wk:=⟨S.met+1,qe S.place v (S.met+1),qe S.back v ((S.met+1:Nat):Int),S.gone,S.way++[v],S.opn++[v],S.parts⟩
theorem zO.meet(h:zO EL n S){v:Nat}(hv:v<n)(h0:S.place v=0)(hr:∀p ∈S.way,qy EL n p v):zO EL n (S.meet v):=by
 have hno:∀x ∈S.opn,x≠v:=fun x hx e=>by subst e;have:=(h.opos x hx).1;omega
 have hnc:∀x ∈S.parts.flatten,x≠v:=fun x hx e=>by subst e;have:=(h.clt x hx).2.1;omega
 have hnw:∀x ∈S.way,x≠v:=fun x hx=>hno x (h.wsub x hx);have hpl:∀x,x≠v→(S.meet v).place x=S.place x:=fun x hx=>Zs _ _ hx;have hbk:∀x,x≠v→(S.meet v).back x=S.back x:=fun x hx=>Zs _ _ hx;have hpv:(S.meet v).place v=S.met+1:=vW _ _ _;have hbv:(S.meet v).back v=((S.met+1:Nat):Int):=vW _ _ _;have hmo:∀{x},x ∈(S.meet v).opn→x ∈S.opn∨x=v:=fun {x} hx=>by
  have hx:x ∈S.opn++[v]:=hx;simpa using hx
 have hmw:∀{x},x ∈(S.meet v).way→x ∈S.way∨x=v:=fun {x} hx=>by
  have hx:x ∈S.way++[v]:=hx;simpa using hx
 have hio:∀{x},x ∈S.opn→x ∈(S.meet v).opn:=fun {x} hx=>List.mem_append_left _ hx;have hiw:∀{x},x ∈S.way→x ∈(S.meet v).way:=fun {x} hx=>List.mem_append_left _ hx;have hiv:v ∈(S.meet v).opn:=by show v ∈S.opn++[v];simp
 have hwv:v ∈(S.meet v).way:=by show v ∈S.way++[v];simp
 refine⟨?_,?_,?_,?_,?_,?_,?_,?_,?_,?_,?_,?_,?_,?_,?_,h.nod,h.ord,h.ring,h.srt⟩
 ·intro p hp;rcases hmw hp with q|rfl
  ·exact hio (h.wsub p q)
  ·exact hiv
 ·show(S.way++[v]).Pairwise _;refine qed (qee h.winc (fun x hx=>hpl x (hnw x hx))) (fun a ha=> ?_);rw[hpl a (hnw a ha),hpv];have:=(h.opos a (h.wsub a ha)).2;omega
 ·show(S.opn++[v]).Pairwise _;refine qed (qee h.oinc (fun x hx=>hpl x (hno x hx))) (fun a ha=> ?_);rw[hpl a (hno a ha),hpv];have:=(h.opos a ha).2;omega
 ·intro x hx;rcases hmo hx with q|rfl
  ·exact h.olt x q
  ·exact hv
 ·intro x hx;rcases hmo hx with q|rfl
  ·rw[hpl x (hno x q)];have:=h.opos x q;exact⟨this.1,Nat.le_succ_of_le this.2⟩
  ·rw[hpv];exact⟨by omega,zn _⟩
 ·intro x hx hp;by_cases e:x=v
  ·subst e;exact .inl hiv
  ·rw[hpl x e]at hp;rcases h.zero x hx hp with q|q
   ·exact .inl (hio q)
   ·exact .inr q
 ·intro x hx;have hx':x ∈S.parts.flatten:=hx;have e:=hnc x hx';obtain⟨h1,h2,h3,h4⟩:=h.clt x hx';refine⟨h1,by rw[hpl x e];exact h2,fun q=> ?_,by rw[hbk x e];exact h4⟩;rcases hmo q with q|q
  ·exact h3 q
  ·exact e q
 ·have h1:=q2q (p:=fun v=>decide (0<S.place v)) (g:=v) (by simp[h0]) n hv;have h2:(fun x=>decide (0<(S.meet v).place x))=fun k=>decide (0<S.place k)||decide (k=v):=funext fun x=>by
   by_cases e:x=v
   ·subst e;rw[hpv];simp
   ·rw[hpl x e];simp[e]
  rw[h2];have:=h.cnt;show S.met+1+_=n;omega
 ·intro x hx hp;by_cases e:x=v
  ·subst e;exact h.gz x hx h0
  ·rw[hpl x e]at hp;exact h.gz x hx hp
 ·intro x hx;rcases hmo hx with q|rfl
  ·rw[hpl x (hno x q),hbk x (hno x q)];obtain⟨h1,h2,u,h3,h4,h5⟩:=h.bin x q;exact⟨h1,h2,u,hio h3,by rw[hpl u (hno u h3)];exact h4,h5⟩
  ·rw[hpv,hbv];exact⟨by omega,XE _,x,hiv,by rw[hpv],.inl rfl⟩
 ·intro x hx;rcases hmo hx with q|rfl
  ·exact h.gle x q
  ·show S.gone x≤_;rw[h.gz x hv h0];exact Xp _
 ·intro x hx t ht hm;rcases hmo hx with q|rfl
  ·rcases h.low x q t ht hm with r|⟨r1,r2⟩
   ·exact .inl r
   ·exact .inr ⟨hio r1,by rw[hbk x (hno x q),hpl t (hno t r1)];exact r2⟩
  ·have hm:(t:Int) ∈(eds EL x).take (S.gone x):=hm;rw[h.gz x hv h0,List.take_zero]at hm;cases hm
 ·intro x hx hw;rcases hmo hx with q|rfl
  ·rw[hbk x (hno x q),hpl x (hno x q)];exact h.fin x q (fun r=>hw (hiw r))
  ·exact absurd hwv hw
 ·intro p hp x hx hpx;rcases hmw hp with q|rfl
  ·rcases hmo hx with r|rfl
   ·rw[hpl p (hnw p q),hpl x (hno x r)]at hpx;exact h.tree p q x r hpx
   ·exact .inr (hr p q)
  ·rcases hmo hx with r|rfl
   ·rw[hpv,hpl x (hno x r)]at hpx;have:=(h.opos x r).2;omega
   ·exact .inl rfl
 ·intro p hp x hx hxw hpx hq;have hxv:x≠v:=fun e=>hxw (by rw[e];exact hwv);have hxo:x ∈S.opn:=(hmo hx).resolve_right hxv;rcases hmw hp with q|rfl
  ·rw[hpl p (hnw p q),hpl x hxv]at hpx;rw[hbk p (hnw p q),hbk x hxv];refine h.subt p q x hxo (fun r=>hxw (hiw r)) hpx (fun y hy hpy=> ?_);have:=hq y (hiw hy) (by rw[hpl p (hnw p q),hpl y (hnw y hy)];exact hpy);rw[hpl x hxv,hpl y (hnw y hy)]at this;exact this
  ·rw[hpv,hpl x hxv]at hpx;have:=(h.opos x hxo).2;omega
def Wk.go(S:Wk)(v:Nat):Wk:={S with gone:=qe S.gone v (S.gone v+1)}
theorem zO.go(h:zO EL n S){v:Nat}(hw:v ∈S.way)(hl:S.gone v<(eds EL v).length)(ht:∀t:Nat,t<n→(eds EL v)[S.gone v]=(t:Int)→t ∈S.parts.flatten∨(t ∈S.opn∧S.back v≤S.place t)):zO EL n (S.go v):=by
 refine⟨h.wsub,h.winc,h.oinc,h.olt,h.opos,h.zero,h.clt,h.cnt,?_,h.bin,?_,?_,?_,h.tree,h.subt,h.nod,h.ord,h.ring,h.srt⟩
 ·intro x hx hp;have hne:x≠v:=fun e=>by subst e;have:=(h.opos x (h.wsub x hw)).1;exact absurd hp (by show S.place x≠0;omega)
  show qe _ _ _ _=0;rw[Zs _ _ hne];exact h.gz x hx hp
 ·intro x hx;show qe _ _ _ _≤_;by_cases e:x=v
  ·subst e;rw[vW];exact hl
  ·rw[Zs _ _ e];exact h.gle x hx
 ·intro x hx t htn hm;have hm:(t:Int) ∈(eds EL x).take (qe S.gone v (S.gone v+1) x):=hm;by_cases e:x=v
  ·subst e;rw[vW,XH,Xc hl,Xn]at hm;rcases hm with hm|hm
   ·exact h.low x hx t htn hm
   ·refine ht t htn ?_;simp at hm;exact hm.symm
  ·rw[Zs _ _ e]at hm;exact h.low x hx t htn hm
 ·intro x hx hxw;have e:x≠v:=fun e=>hxw (by rw[e];exact hw);show qe _ _ _ _=_∧_;rw[Zs _ _ e];exact h.fin x hx hxw
def Wk.lower(S:Wk)(v:Nat)(b:Int):Wk:={S with back:=qe S.back v b}
theorem zO.lower(h:zO EL n S){v:Nat}{b:Int}(hw:v ∈S.way)(h1:1≤b)(h2:b≤S.back v)(hu:∃u ∈S.opn,(S.place u:Int)=b∧(u=v∨qy EL n v u)):zO EL n (S.lower v b):=by
 have hle:∀x,(S.lower v b).back x≤S.back x:=fun x=>by
  show qe _ _ _ _≤_;by_cases e:x=v
  ·subst e;rw[vW];exact h2
  ·rw[Zs _ _ e];exact XE _
 have hne:∀x,x≠v→(S.lower v b).back x=S.back x:=fun x e=>Zs _ _ e;refine⟨h.wsub,h.winc,h.oinc,h.olt,h.opos,h.zero,?_,h.cnt,h.gz,?_,h.gle,?_,?_,h.tree,?_,h.nod,h.ord,h.ring,h.srt⟩
 ·intro x hx;obtain⟨g1,g2,g3,g4⟩:=h.clt x hx;have e:x≠v:=fun e=>g3 (by rw[e];exact h.wsub v hw);exact⟨g1,g2,g3,by rw[hne x e];exact g4⟩
 ·intro x hx;by_cases e:x=v
  ·subst e;have hb:(S.lower x b).back x=b:=vW _ _ _;rw[hb];exact⟨h1,Int.le_trans h2 (h.bin x hx).2.1,hu⟩
  ·rw[hne x e];exact h.bin x hx
 ·intro x hx t ht hm;rcases h.low x hx t ht hm with r|⟨r1,r2⟩
  ·exact .inl r
  ·exact .inr ⟨r1,Int.le_trans (hle x) r2⟩
 ·intro x hx hxw;have e:x≠v:=fun e=>hxw (by rw[e];exact hw);rw[hne x e];exact h.fin x hx hxw
 ·intro p hp x hx hxw hpx hq;have e:x≠v:=fun e=>hxw (by rw[e];exact hw);rw[hne x e];exact Int.le_trans (hle p) (h.subt p hp x hx hxw hpx hq)
theorem zO.see(h:zO EL n S)(hn:(n:Int)≤jL){v t:Nat}(hw:v ∈S.way)(ht:t<n)(h0:0<S.place t)(he:vb EL v t):
  zO EL n (S.lower v (min (S.back v) (S.back t)))∧(t ∈S.parts.flatten∨(t ∈S.opn∧min (S.back v) (S.back t)≤S.place t)):=by
 have hvo:=h.wsub v hw;obtain⟨b1,b2,u,hu,b3,b4⟩:=h.bin v hvo;rcases h.zero t ht h0 with q|q
 ·obtain⟨c1,c2,x,hx,c3,c4⟩:=h.bin t q;refine⟨h.lower hw (by omega) (by omega) ?_,.inr ⟨q,by omega⟩⟩;by_cases hm:S.back v≤S.back t
  ·rw[show min (S.back v) (S.back t)=S.back v by omega];exact⟨u,hu,b3,b4⟩
  ·rw[show min (S.back v) (S.back t)=S.back t by omega];refine⟨x,hx,c3,.inr ?_⟩;rcases c4 with rfl|c4
   ·exact .one he
   ·exact(qy.one he).join ht c4
 ·have hb:S.back t=jL:=(h.clt t q).2.2.2;have hp:=(h.opos v hvo).2;have hn':(S.place v:Int)≤jL:=by have:=h.met_le;omega
  rw[show min (S.back v) (S.back t)=S.back v by omega];exact⟨h.lower hw b1 (XE _) ⟨u,hu,b3,b4⟩,.inl q⟩
theorem zO.none_open(h:zO EL n S)(hw:S.way=[]):S.opn=[]:=by
 have H:∀k v,v ∈S.opn→S.place v≤k→False:=by
  intro k
  induction k with
  |zero=>intro v hv hk;have:=(h.opos v hv).1;omega
  |succ k ih=>
   intro v hv hk;obtain⟨_,_,u,hu,e,_⟩:=h.bin v hv;have:=(h.fin v hv (by rw[hw];simp)).2;exact ih u hu (by omega)
 cases ho:S.opn with
 |nil=>rfl
 |cons v l=>exact(H (S.place v) v (by rw[ho];exact XD ..) (zn _)).elim
def Wk.pop(S:Wk):Wk:={S with way:=S.way.dropLast}
theorem zO.pop(h:zO EL n S){W:List Nat}{v:Nat}(hw:S.way=W++[v])(hg:S.gone v=(eds EL v).length)(hb:S.back v<S.place v)(hl:∀p ∈W,(∀q ∈W,S.place q≤S.place p)→S.back p≤S.back v):zO EL n S.pop:=by
 have hpop:S.pop.way=W:=by show S.way.dropLast=W;rw[hw];simp
 have hin:∀{p},p ∈W→p ∈S.way:=fun {p} hp=>by rw[hw];exact List.mem_append_left _ hp
 have hvw:v ∈S.way:=by rw[hw];simp
 have hvo:=h.wsub v hvw;have hwi:=h.winc;rw[hw,Wh]at hwi;have hlt:∀p ∈W,S.place p<S.place v:=fun p hp=>hwi.2.2 p hp v (by simp);refine⟨?_,?_,h.oinc,h.olt,h.opos,h.zero,h.clt,h.cnt,h.gz,h.bin,h.gle,h.low,?_,?_,?_,h.nod,h.ord,h.ring,h.srt⟩
 ·intro p hp;rw[hpop]at hp;exact h.wsub p (hin hp)
 ·rw[hpop];exact hwi.1
 ·intro x hx hxw;rw[hpop]at hxw;by_cases e:x=v
  ·subst e;exact⟨hg,hb⟩
  ·exact h.fin x hx (fun q=>by
    rw[hw,Xn,XL]at q;rcases q with q|q
    ·exact hxw q
    ·exact e q)
 ·intro p hp x hx hpx;rw[hpop]at hp;exact h.tree p (hin hp) x hx hpx
 ·intro p hp x hx hxw hpx hq;rw[hpop]at hp hxw hq;have hpx:S.place p<S.place x:=hpx;show S.back p≤S.back x;have hq:∀q ∈W,S.place p<S.place q→S.place x<S.place q:=hq;by_cases e:x=v
  ·subst e;exact hl p hp (fun q hq'=>by
    rcases Xk (S.place p) (S.place q)with r|r
    ·have:=hq q hq' r;have:=hlt q hq';omega
    ·exact r)
  ·have hxw':x ∉S.way:=fun q=>by
    rw[hw,Xn,XL]at q;rcases q with q|q
    ·exact hxw q
    ·exact e q
   rcases Xk (S.place x) (S.place v)with r|r
   ·refine h.subt p (hin hp) x hx hxw' hpx (fun q hq' hpq=> ?_);rw[hw,Xn,XL]at hq';rcases hq' with hq'|rfl
    ·exact hq q hq' hpq
    ·exact r
   ·have r':S.place v<S.place x:=by
     rcases Xk (S.place v) (S.place x)with q|q
     ·exact q
     ·exact absurd (pw_inj h.oinc hx hvo (by omega)) e
    have h1:=h.subt v hvw x hx hxw' r' (fun q hq' hpq=>by
     rw[hw,Xn,XL]at hq';rcases hq' with hq'|rfl
     ·have:=hlt q hq';omega
     ·omega)
    refine Int.le_trans (hl p hp (fun q hq'=> ?_)) h1;rcases Xk (S.place p) (S.place q)with y|y
    ·have:=hq q hq' y;have:=hlt q hq';omega
    ·exact y
def Wk.close(S:Wk)(O:List Nat)(X c:List Nat):Wk:=⟨S.met,S.place,fun x=>if x ∈X then jL else S.back x,S.gone,S.way.dropLast,O,S.parts++[c]⟩
theorem zO.close(h:zO EL n S){W O X c:List Nat}{v:Nat}(hw:S.way=W++[v])(ho:S.opn=O++v::X)(hg:S.gone v=(eds EL v).length)(hb:S.back v=S.place v)(hc:c.Perm (v::X))(hs:c.Pairwise (· ≤ ·)):zO EL n (S.close O (v::X) c):=by
 have hvw:v ∈S.way:=by rw[hw];simp
 have hvo:=h.wsub v hvw;have hwi:=h.winc;rw[hw,Wh]at hwi;have hlt:∀p ∈W,S.place p<S.place v:=fun p hp=>hwi.2.2 p hp v (by simp);have hoi:=h.oinc;rw[ho,Wh,List.pairwise_cons]at hoi;have hO:∀x ∈O,S.place x<S.place v:=fun x hx=>hoi.2.2 x hx v (XD ..);have hX:∀x ∈X,S.place v<S.place x:=fun x hx=>hoi.2.1.1 x hx;have hXo:∀x ∈v::X,x ∈S.opn:=fun x hx=>by rw[ho];exact List.mem_append_right _ hx
 have hOo:∀x ∈O,x ∈S.opn:=fun x hx=>by rw[ho];exact List.mem_append_left _ hx
 have hvX:∀x ∈v::X,S.place v≤S.place x:=fun x hx=>by
  rcases XA.mp hx with rfl|q
  ·exact zn _
  ·exact Xh (hX x q)
 have hsp:∀x ∈S.opn,(x ∈O∧S.place x<S.place v)∨(x ∈v::X∧S.place v≤S.place x):=fun x hx=>by
  rw[ho,Xn]at hx;rcases hx with q|q
  ·exact .inl ⟨q,hO x q⟩
  ·exact .inr ⟨q,hvX x q⟩
 have hOX:∀x ∈O,x ∉v::X:=fun x hx q=>by have:=hO x hx;have:=hvX x q;omega
 have hXw:∀x ∈X,x ∉S.way:=fun x hx q=>by
  rw[hw,Xn,XL]at q;have:=hX x hx;rcases q with q|rfl
  ·have:=hlt x q;omega
  ·omega
 have hXf:∀x ∈X,S.gone x=(eds EL x).length∧S.back x<S.place x∧S.back v≤S.back x:=fun x hx=>by
  have hxo:=hXo x (XF _ hx);obtain⟨h1,h2⟩:=h.fin x hxo (hXw x hx);exact⟨h1,h2,h.subt v hvw x hxo (hXw x hx) (hX x hx) (fun q hq hpq=>by
   rw[hw,Xn,XL]at hq;rcases hq with hq|rfl
   ·have:=hlt q hq;omega
   ·omega)⟩
 have hto:∀k x,x ∈v::X→S.place x≤k→x=v∨qy EL n x v:=by
  intro k
  induction k with
  |zero=>intro x hx hk;have:=(h.opos x (hXo x hx)).1;omega
  |succ k ih=>
   intro x hx hk;rcases XA.mp hx with q|q
   ·exact .inl q
   ·obtain⟨_,h2,h3⟩:=hXf x q;obtain⟨_,_,u,hu,e,hw'⟩:=h.bin x (hXo x hx);have huX:u ∈v::X:=by
     rcases hsp u hu with⟨_,r⟩|⟨r,_⟩
     ·omega
     ·exact r
    rcases hw' with rfl|hw'
    ·omega
    ·rcases ih u huX (by omega)with rfl|r
     ·exact .inr hw'
     ·exact .inr (hw'.join (h.olt u hu) r)
 have hfrom:∀x ∈v::X,v=x∨qy EL n v x:=fun x hx=>h.tree v hvw x (hXo x hx) (hvX x hx);have hgl:∀x ∈v::X,S.gone x=(eds EL x).length∧(S.place v:Int)≤S.back x:=fun x hx=>by
  rcases XA.mp hx with rfl|q
  ·exact⟨hg,by omega⟩
  ·obtain⟨h1,_,h3⟩:=hXf x q;exact⟨h1,by omega⟩
 have hed:∀x ∈v::X,∀t,t<n→vb EL x t→t ∈S.parts.flatten∨t ∈v::X:=fun x hx t ht he=>by
  obtain⟨h1,h2⟩:=hgl x hx;rcases h.low x (hXo x hx) t ht (by rw[h1,XU];exact he)with q|⟨q1,q2⟩
  ·exact .inl q
  ·rcases hsp t q1 with⟨_,r⟩|⟨r,_⟩
   ·omega
   ·exact .inr r
 have hmc:∀x,x ∈c↔x ∈v::X:=fun x=>hc.mem_iff;have hfl:(S.close O (v::X) c).parts.flatten=S.parts.flatten++c:=by show(S.parts++[c]).flatten=_;simp
 have hpw:(S.close O (v::X) c).way=W:=by show S.way.dropLast=W;rw[hw];simp
 have hbo:∀x ∈O,(S.close O (v::X) c).back x=S.back x:=fun x hx=>Xa (hOX x hx);have hbX:∀x ∈v::X,(S.close O (v::X) c).back x=jL:=fun x hx=>Xb hx;have hWw:∀{p},p ∈W→p ∈S.way:=fun {p} hp=>by rw[hw];exact List.mem_append_left _ hp
 have hWO:∀p ∈W,p ∈O:=fun p hp=>by
  rcases hsp p (h.wsub p (hWw hp))with⟨q,_⟩|⟨_,q⟩
  ·exact q
  ·have:=hlt p hp;omega
 have hwc:∀x ∈O,x ∉W→x ∉S.way:=fun x hx hxw q=>by
  rw[hw,Xn,XL]at q;rcases q with q|rfl
  ·exact hxw q
  ·have:=hO x hx;omega
 have hnX:(v::X).Nodup:=by
  have:(v::X).Pairwise (fun a b=>S.place a<S.place b):=by rw[List.pairwise_cons];exact hoi.2.1
  exact this.imp (fun {a b} q e=>by subst e;omega)
 refine⟨?_,?_,hoi.1,?_,?_,?_,?_,h.cnt,h.gz,?_,?_,?_,?_,?_,?_,?_,?_,?_,?_⟩
 ·intro p hp;rw[hpw]at hp;exact hWO p hp
 ·rw[hpw];exact hwi.1
 ·exact fun x hx=>h.olt x (hOo x hx)
 ·exact fun x hx=>h.opos x (hOo x hx)
 ·intro x hx hp;rw[hfl,Xn];rcases h.zero x hx hp with q|q
  ·rcases hsp x q with⟨r,_⟩|⟨r,_⟩
   ·exact .inl r
   ·exact .inr (.inr ((hmc x).mpr r))
  ·exact .inr (.inl q)
 ·intro x hx;rw[hfl,Xn]at hx;rcases hx with q|q
  ·obtain⟨h1,h2,h3,h4⟩:=h.clt x q;refine⟨h1,h2,fun r=>h3 (hOo x r),?_⟩;show(if x ∈v::X then jL else S.back x)=jL;rw[Xa (fun r=>h3 (hXo x r))];exact h4
  ·rw[hmc]at q;exact⟨h.olt x (hXo x q),(h.opos x (hXo x q)).1,fun r=>hOX x r q,hbX x q⟩
 ·intro x hx;rw[hbo x hx];obtain⟨h1,h2,u,hu,h3,h4⟩:=h.bin x (hOo x hx);refine⟨h1,h2,u,?_,h3,h4⟩;rcases hsp u hu with⟨r,_⟩|⟨_,r⟩
  ·exact r
  ·have:=hO x hx;omega
 ·exact fun x hx=>h.gle x (hOo x hx)
 ·intro x hx t ht hm;rw[hfl,Xn,hbo x hx];rcases h.low x (hOo x hx) t ht hm with q|⟨q1,q2⟩
  ·exact .inl (.inl q)
  ·rcases hsp t q1 with⟨r,_⟩|⟨r,_⟩
   ·exact .inr ⟨r,q2⟩
   ·exact .inl (.inr ((hmc t).mpr r))
 ·intro x hx hxw;rw[hpw]at hxw;rw[hbo x hx];exact h.fin x (hOo x hx) (hwc x hx hxw)
 ·intro p hp x hx hpx;rw[hpw]at hp;exact h.tree p (hWw hp) x (hOo x hx) hpx
 ·intro p hp x hx hxw hpx hq;rw[hpw]at hp hxw hq;rw[hbo p (hWO p hp),hbo x hx];refine h.subt p (hWw hp) x (hOo x hx) (hwc x hx hxw) hpx (fun q hq' hpq=> ?_);rw[hw,Xn,XL]at hq';rcases hq' with hq'|rfl
  ·exact hq q hq' hpq
  ·exact hO x hx
 ·rw[hfl,List.nodup_append];refine⟨h.nod,hc.nodup_iff.mpr hnX,fun a ha b hb e=> ?_⟩;subst e;exact(h.clt a ha).2.2.1 (hXo a ((hmc a).mp hb))
 ·intro i hi x hx t ht he;have hi':i<(S.parts++[c]).length:=hi;have hx:x ∈(S.parts++[c])[i]:=hx;rcases Xk i S.parts.length with q|q
  ·rw[List.getElem_append_left q]at hx;obtain⟨j,hj,hji,hm⟩:=h.ord i q x hx t ht he;refine⟨j,by show j<(S.parts++[c]).length;simp;omega,hji,?_⟩;show t ∈(S.parts++[c])[j]'_;rw[List.getElem_append_left hj];exact hm
  ·have hi2:i=S.parts.length:=by simp at hi';omega
   subst hi2;have hx:x ∈c:=by simpa using hx
   rcases hed x ((hmc x).mp hx) t ht he with r|r
   ·obtain⟨l,hl,hm⟩:=List.mem_flatten.mp r;obtain⟨j,hj,rfl⟩:=Wl hl;refine⟨j,by show j<(S.parts++[c]).length;simp;omega,by omega,?_⟩;show t ∈(S.parts++[c])[j]'_;rw[List.getElem_append_left hj];exact hm
   ·refine⟨S.parts.length,hi,zn _,?_⟩;have e:(S.parts++[c])[S.parts.length]'(by simp)=c:=by simp
    have hm:t ∈(S.parts++[c])[S.parts.length]'(by simp):=by rw[e];exact(hmc t).mpr r
    exact hm
 ·intro k hk a ha b hb;have hk:k ∈S.parts++[c]:=hk;rw[Xn,XL]at hk;rcases hk with hk|rfl
  ·exact h.ring k hk a ha b hb
  ·have ha:=(hmc a).mp ha;have hb:=(hmc b).mp hb;rcases hto _ a ha (zn _)with rfl|q
   ·exact hfrom b hb
   ·rcases hfrom b hb with rfl|r
    ·exact .inr q
    ·exact .inr (q.join (h.olt v hvo) r)
 ·intro k hk;have hk:k ∈S.parts++[c]:=hk;rw[Xn,XL]at hk;rcases hk with hk|rfl
  ·exact h.srt k hk
  ·refine⟨fun e=> ?_,?_⟩
   ·have:v ∈k:=(hmc v).mpr (XD ..);rw[e]at this;cases this
   ·have hn:=hc.nodup_iff.mpr hnX;exact(List.pairwise_and_iff.mpr ⟨hs,hn⟩).imp (fun {a b} q=>by have:=q.1;have:=q.2;omega)
structure vt(EL:List (List Int))(n:Nat)(P:List (List Nat)):Prop where
 all:∀v,v<n→v ∈P.flatten
 lt:∀v ∈P.flatten,v<n
 nod:P.flatten.Nodup
 ord:∀i (h:i<P.length),∀v ∈P[i],∀t,t<n→vb EL v t→∃j,∃h:j<P.length,j≤i∧t ∈P[j]
 ring:∀c ∈P,∀a ∈c,∀b ∈c,a=b∨qy EL n a b
 srt:∀c ∈P,c≠ []∧c.Pairwise (· < ·)
theorem zO.end_(h:zO EL n S)(hw:S.way=[])(hm:∀v,v<n→0<S.place v):vt EL n S.parts:=
 ⟨fun v hv=>(h.zero v hv (hm v hv)).resolve_left (by rw[h.none_open hw];simp),fun v hv=>(h.clt v hv).1,h.nod,h.ord,h.ring,h.srt⟩
end
open Go.Maps (Keyed)
theorem Vd:Keyed Tryz.prog 3:=Go.Maps.int_keyed Tryz.underlying3
theorem qmo(w:World):(zeroValue 165).run Tryz.prog w= .ok (.agg #[]) w:=by kernel_rfl
theorem q9n(p:Nat→Bool)(n:Nat):(jl p n).Nodup:=by
 unfold jl;refine List.pairwise_map.mpr ((List.nodup_range.filter _).imp ?_);intro a b h e;exact h (by omega)
theorem qhg(p:Nat→Bool)(n:Nat):(jl p n).Pairwise (fun a b=>decide (a≤b)=true):=by
 unfold jl;refine List.pairwise_map.mpr ((List.pairwise_lt_range.filter _).imp ?_);intro a b h;simp;omega
theorem qne{p:Nat→Bool}{n:Nat}{ss:List Int}(hd:ss.Nodup)(hm:∀x,x ∈ss↔x ∈jl p n):ss.mergeSort (fun x y=>decide (x≤y))=jl p n:=by
 have tr:∀a b c:Int,decide (a≤b)=true→decide (b≤c)=true→decide (a≤c)=true:=fun a b c h1 h2=>by simp at*;omega
 have tot:∀a b:Int,(decide (a≤b)||decide (b≤a))=true:=fun a b=>by simp;omega
 have hp:ss.Perm (jl p n):=(List.perm_ext_iff_of_nodup hd (q9n p n)).2 hm;refine List.Perm.eq_of_pairwise (le:=fun a b=>decide (a≤b)=true) (fun a b _ _ h1 h2=> ?_) (List.pairwise_mergeSort tr tot ss) (qhg p n) ((List.mergeSort_perm ss _).trans hp);simp at h1 h2;omega
theorem qa9{p:Nat→Bool}{n:Nat}{ss:List Int}(hd:ss.Nodup)(hm:∀x ∈ss,x ∈jl p n):ss.length≤n:=by
 have h1:ss.Perm ((jl p n).filter (fun x=>decide (x ∈ss))):=by
  refine(List.perm_ext_iff_of_nodup hd ((q9n p n).filter _)).2 fun x=> ?_;rw[List.mem_filter];exact⟨fun h=>⟨hm x h,by simp[h]⟩,fun h=>by simpa using h.2⟩
 rw[h1.length_eq];exact Xd (List.length_filter_le _ _) (qjm p n)
def ji(w:World)(b:Nat)(p:Nat→Bool)(n:Nat):Prop:=
 ∃D:DataW Unit,w.ownsMap Tryz.prog 3 (unitElem (H:=Unit)) b (Go.Maps.size D) D∧∀x:Int,Go.Maps.has D (.int .i64 x)=decide (x ∈jl p n)
theorem qjw{w:World}{b n:Nat}{D:DataW Unit}(h:w.ownsMap Tryz.prog 3 (unitElem (H:=Unit)) b n D):w.ownsMap Tryz.prog 3 (unitElem (H:=Unit)) b (Go.Maps.size D) D:=by
 obtain⟨es,clock,hb,F,_,rfl⟩:=h;exact⟨es,clock,hb,F,by simp[Go.Maps.size,length_sorted],rfl⟩
theorem qoc{w:World}{b n:Nat}{D:DataW Unit}(h:w.ownsMap Tryz.prog 3 (unitElem (H:=Unit)) b n D):∃ks:List Int,ks.Nodup∧ks.length=Go.Maps.size D∧∀x:Int,x ∈ks↔Go.Maps.has D (.int .i64 x)=true:=by
 obtain⟨es,hD,hpw,_⟩:=h.entries Vd;obtain⟨es',clock,_,F,_,hD'⟩:=h;have hk:∀p ∈es,∃x:Int,p.1= .int .i64 x:=by
  intro p hp;rw[hD]at hD';have e:es=(es'.toList.map (WideElems.rg Tryz.prog 3 (unitElem (H:=Unit)))).foldr DataW.insert []:=by simpa using hD'
  rw[e]at hp;obtain⟨x,hx,rfl⟩:=XW.1 (mem_sorted.1 hp);obtain⟨y,hy⟩:=F.reads x hx;obtain⟨z,_,hz,_⟩:=Maps.keyOf_int_inv Tryz.underlying3 (WideElems.rd_key hy);exact⟨z,by rw[WideElems.rg_of hy];exact hz⟩
 subst hD;refine⟨es.map (fun p=>match p.1 with| .int _ x=>x|_=>0),?_,by simp[Go.Maps.size],fun x=> ?_⟩
 ·refine List.pairwise_map.2 (hpw.imp_of_mem fun {p q} hp hq hne e=>hne ?_);obtain⟨a,ha⟩:=hk p hp;obtain⟨c,hc⟩:=hk q hq;rw[ha,hc]at e⊢
  exact congrArg _ e
 ·rw[XW];constructor
  ·rintro⟨p,hp,rfl⟩;obtain⟨a,ha⟩:=hk p hp;exact X7.2 ⟨p,hp,by rw[ha];simp[Lit.sameKey]⟩
  ·intro hx;obtain⟨p,hp,hs⟩:=X7.1 hx;obtain⟨a,ha⟩:=hk p hp;rw[ha]at hs;exact⟨p,hp,by rw[ha];simpa[Lit.sameKey]using hs⟩
theorem qda{w:World}{b n:Nat}{p:Nat→Bool}{D:DataW Unit}(h:w.ownsMap Tryz.prog 3 (unitElem (H:=Unit)) b (Go.Maps.size D) D)(hh:∀x:Int,Go.Maps.has D (.int .i64 x)=decide (x ∈jl p n)):Go.Maps.size D≤n:=by
 obtain⟨ks,hd,hl,hm⟩:=qoc h;rw[←hl];refine qa9 (p:=p) hd (fun x hx=> ?_);have:=(hm x).1 hx;rw[hh x]at this;simpa using this
theorem ji.made(w:World)(n:Nat):ji (w.alloc (.map #[] 0)) w.heap.size (fun _=>false) n:=by
 refine⟨.map [],World.ownsMap_made w Tryz.prog _ _,fun x=> ?_⟩;have:x ∉jl (fun _=>false) n:=fun h=>by
  obtain⟨g,_,_,hg⟩:=YV.1 h;cases hg
 simp[this,Go.Maps.has]
theorem ji.kept{w w':World}{b n:Nat}{p:Nat→Bool}{row:Option Nat}(h:ji w b p n)(hg:w.grownBy w' row)(hne:some b≠row):ji w' b p n:=by
 obtain⟨D,ho,hh⟩:=h;exact⟨D,ho.kept hg hne,hh⟩
theorem ji.lt{w:World}{b n:Nat}{p:Nat→Bool}(h:ji w b p n):b<w.heap.size:=by
 obtain⟨D,ho,hh⟩:=h;exact ho.lt
theorem ji.below{w w':World}{b n B:Nat}{p:Nat→Bool}(h:ji w b p n)(hb:Below B w w')(hB:b<B):ji w' b p n:=by
 obtain⟨D,⟨es,clock,he,r⟩,hh⟩:=h;exact⟨D,⟨es,clock,(hb.block b hB).trans he,r⟩,hh⟩
theorem ji.cong{w:World}{b n:Nat}{p q:Nat→Bool}(h:ji w b p n)(e:∀g,g<n→p g=q g):ji w b q n:=by
 obtain⟨D,ho,hh⟩:=h;exact⟨D,ho,fun x=>by rw[hh x,qba e]⟩
theorem qek{x:Int}(h:(Lit.int .i64 x).wf=true):keyOf Tryz.prog 3 (.int .i64 x)=some (.int .i64 x):=Go.Maps.keyOf_int_mk Tryz.underlying3 h
theorem qf5{g n:Nat}(hg:g<n)(hn:n≤9223372036854775807):(Lit.int .i64 (g:Int)).wf=true:=WalkArith.wf_i64 (by omega)
theorem ji.put{b n g:Nat}{p:Nat→Bool}{D:DataW Unit}{w':World}(hg:g<n)(hh:∀x:Int,Go.Maps.has D (.int .i64 x)=decide (x ∈jl p n))(h:w'.ownsMap Tryz.prog 3 (unitElem (H:=Unit)) b (Go.Maps.size D+1) (D.put (.int .i64 (g:Int)) (.agg [])))(hm:Go.Maps.IsMap D):
  ji w' b (fun k=>p k||decide (k=g)) n:=by
 refine⟨_,qjw h,fun x=> ?_⟩;by_cases hx:x=(g:Int)
 ·subst hx;rw[Go.Maps.has_put_same hm (k:= .int .i64 (g:Int)) (by simp[WideAt.IsKeyLit])];exact(Xm (YV.2 ⟨g,rfl,hg,by simp⟩)).symm
 ·rw[Go.Maps.has_put_other (by simpa using hx),hh x,XV,Xt,Xt,YV,YV];constructor
  ·rintro⟨k,rfl,hk,hp⟩;exact⟨k,rfl,hk,by simp[hp]⟩
  ·rintro⟨k,rfl,hk,hp⟩;refine⟨k,rfl,hk,?_⟩;simp only[Wf,Xt]at hp;rcases hp with hp|hp
   ·exact hp
   ·exact absurd (by rw[hp]) hx
section
variable{ops:Array Oper}{rest:List Oper}{o:Oper}{a:Act}{Q:Exit→Act→World→Prop}
theorem q81(w:World)(hg:o.guard=none)(m x v:Operand)(t:TypeId)(hop:o.op=Op.mapUpdate t m x v∨o.op=Op.insert t m x v)(ht:Tryz.prog.underlying t=some (.map 3 165))(b n g:Nat)(p:Nat→Bool)
  (hm:a.eval m= .map (some b)) (H:ji w b p n) (hgn:g<n) (hn:n≤1048576) (hx:a.eval x= .int .i64 (g:Int)) (hv:a.eval v= .agg #[])
  (hK:∀w',ji w' b (fun k=>p k||decide (k=g)) n→w.grownBy w' (some b)→wpList Tryz.prog ops Q rest (a.put o.dst undef) w'):
  wpList Tryz.prog ops Q (o::rest) a w:=by
 refine wpList_plain hg fun K' hK'=> ?_;obtain⟨D,ho,hh⟩:=H;have hs:=qda ho hh;obtain⟨w',hrun,r1,r2⟩:=ho.update Vd ht (by unfold maxLen;omega) (qek (qf5 hgn (by omega))) (val:= .agg #[]) unitElem_mk;unfold Oper.wp;rcases hop with hop|hop<;>
 ·simp[execOp,hop,hm,hx,hv,hrun,Result.andThen];exact hK' _ _ (hK w' (ji.put hgn hh r1 ho.isMap) r2)
theorem q8h(w:World)(hg:o.guard=none)(m x:Operand)(t:TypeId)(hop:o.op=Op.lookup t m x true)(ht:Tryz.prog.underlying t=some (.map 3 165))(b n g:Nat)(p:Nat→Bool)(r:Bool)
  (hm:a.eval m= .map (some b)) (H:ji w b p n) (hgn:g<n) (hn:n≤1048576) (hx:a.eval x= .int .i64 (g:Int)) (hr:p g=r)
  (hK:wpList Tryz.prog ops Q rest (a.put o.dst (.tuple #[.agg #[],.bool r])) w):
  wpList Tryz.prog ops Q (o::rest) a w:=by
 obtain⟨D,ho,hh⟩:=H;have hk:=qek (qf5 hgn (by omega));refine wpList_lookup_own_unit w hg m x t hop _ _ Vd ht (qmo w) b _ D hm ho _ _ hx hk ?_;have e:Go.Maps.has D (.int .i64 (g:Int))=r:=by
  rw[hh,←hr,XV,Xt,YV];constructor
  ·rintro⟨k,hk,_,hp⟩;have:g=k:=by omega
   rw[this];exact hp
  ·exact fun h=>⟨g,rfl,hgn,h⟩
 rw[e];exact hK
end
def zQ(l:List Nat):List Value:=l.map (fun k:Nat=>Value.int .i64 (k:Int))
theorem JW(l:List Nat):(zQ l).length=l.length:=Xo ..
theorem qbi(l:List Nat)(v:Nat):zQ (l++[v])=zQ l++[.int .i64 (v:Int)]:=by unfold zQ;rw[XY];rfl
theorem qcm(f:Nat→Nat)(v b:Nat):(fun x=>((qe f v b x:Nat):Int))=qe (fun x=>(f x:Int)) v (b:Int):=funext fun x=>by
 unfold qe;split<;>rfl
theorem q7i(w:World)(v:Value)(T:TypeId):∀(j:Nat) (u:Value),[v][j]? =some u→(w.alloc (.cells #[v] T)).cell? ((⟨w.heap.size,0,none⟩:Addr).add j)=some u:=fun j u hj=>by
 match j,hj with
 |0,hj=>simp at hj;subst hj;simp[Addr.add]
 |j+1,hj=>simp at hj
structure qo(w w':World)(ρ:Nat→Nat)(r:Nat):Prop where
 os:w'.os=w.os
 tape:w'.tape=w.tape
 output:w'.output=w.output
 size:w.heap.size≤w'.heap.size
 block:∀b,b<w.heap.size→ρ b≠r→w'.heap[b]? =w.heap[b]?
theorem qo.refl{w:World}{ρ:Nat→Nat}{r:Nat}:qo w w ρ r:=⟨rfl,rfl,rfl,zn _,fun _ _ _=>rfl⟩
theorem qo.cell{w:World}{ρ:Nat→Nat}{r:Nat}{a:Addr}(h:ρ a.block=r)(v:Value):qo w (w.setCell a v) ρ r:=⟨rfl,rfl,rfl,by simp,fun b _ hr=>Below.heap_setCell w a v b (fun e=>hr (by rw[e];exact h))⟩
theorem qo.grown{w w':World}{ρ:Nat→Nat}{r:Nat}{row:Option Nat}(hg:w.grownBy w' row)(h:∀b,row=some b→ρ b=r):qo w w' ρ r:=⟨hg.os,hg.tape,hg.output,hg.size,fun b hb hr=>hg.block b hb (fun e=>hr (h b e.symm))⟩
theorem qo.below{w w':World}{ρ:Nat→Nat}{r:Nat}(h:Below w.heap.size w w'):qo w w' ρ r:=⟨h.os,h.tape,h.output,h.size,fun b hb _=>h.block b hb⟩
theorem qo.trans{w w1 w2:World}{ρ:Nat→Nat}{r:Nat}(h:qo w w1 ρ r)(h':qo w1 w2 ρ r):qo w w2 ρ r:=⟨h'.os.trans h.os,h'.tape.trans h.tape,h'.output.trans h.output,Xd h.size h'.size,fun b hb hr=>(h'.block b (Xj hb h.size) hr).trans (h.block b hb hr)⟩
theorem qo.low{w w':World}{ρ:Nat→Nat}{r B:Nat}(h:qo w w' ρ r)(hl:∀b,b<B→ρ b=9)(hB:B≤w.heap.size)(hr:r≠9):Below B w w':=⟨h.os,h.tape,h.output,h.size,fun b hb=>h.block b (Xj hb hB) (by rw[hl b hb];exact fun e=>hr e.symm)⟩
theorem vQ{w w':World}{ρ:Nat→Nat}{r g:Nat}{vs:List Value}{T:TypeId}(h:zd w g vs T)(hO:qo w w' ρ r)(hr:ρ g≠r):zd w' g vs T:=(hO.block g (zd.lt h) hr).trans h
theorem kw{w w':World}{ρ:Nat→Nat}{r B e k n:Nat}{v:Value}{xs:List Value}(h:w.ownsRow B e k v n xs)(hO:qo w w' ρ r)(hr:∀b,v.ownBlock=some b→ρ b≠r):w'.ownsRow B e k v n xs:=by
 have hlt:=zL h;refine⟨h.1,?_⟩;rcases h.2 with h0|⟨g,cap,cur,hv,hg,hh,rest⟩
 ·exact .inl h0
 ·exact .inr ⟨g,cap,cur,hv,hg,(hO.block g (hlt g (by rw[hv];rfl)) (hr g (by rw[hv];rfl))).trans hh,rest⟩
def Yg(w:World)(B:Nat)(ρ:Nat→Nat)(v:Value)(c:List Nat):Prop:=∃gi ci rest,v= .slice (some ⟨gi,0,none⟩) c.length ci∧B≤gi∧ρ gi=7∧c.length≤ci∧ci≤9223372036854775807∧zd w gi (zQ c++rest) 3
theorem Yg.move{w w':World}{B r:Nat}{ρ ρ':Nat→Nat}{v:Value}{c:List Nat}(h:Yg w B ρ v c)(hO:qo w w' ρ r)(hr:r≠7)(hρ:∀b,b<w.heap.size→ρ b≠r→ρ' b=ρ b):Yg w' B ρ' v c:=by
 obtain⟨gi,ci,rest,h1,h2,h3,h4,h5,h6⟩:=h;have hn:ρ gi≠r:=by rw[h3];exact fun e=>hr e.symm
 exact⟨gi,ci,rest,h1,h2,by rw[hρ gi (zd.lt h6) hn];exact h3,h4,h5,vQ h6 hO hn⟩
theorem qcl{w:World}{ρ:Nat→Nat}{N r:Nat}(hN:ρ N=r∨w.heap.size≤N):∀b,b<w.heap.size→ρ b≠r→qe ρ N r b=ρ b:=fun b hb hr=>by
 refine Zs _ _ (fun e=> ?_);subst e;rcases hN with q|q
 ·exact hr q
 ·omega
structure Jg where
 gp:Nat
 gb:Nat
 gg:Nat
 E:Option Addr
 ce:Nat
 Ay:Option Addr
 cy:Nat
 Ao:Option Addr
 co:Nat
 Ap:Option Addr
 cp:Nat
 vs:List Value
abbrev wkV(S:Wk)(n:Nat)(a:Jg):List Value:=[.slice a.E n a.ce,.int .i64 (S.met:Int),.slice (some ⟨a.gp,0,none⟩) n n,.slice (some ⟨a.gb,0,none⟩) n n,.slice (some ⟨a.gg,0,none⟩) n n,.slice a.Ay S.way.length a.cy,.slice a.Ao S.opn.length a.co,.slice a.Ap S.parts.length a.cp]
structure zC(w:World)(B g:Nat)(EL:List (List Int))(n:Nat)(S:Wk)(a:Jg)(ρ:Nat→Nat):Prop where
 low:∀b,b<B→ρ b=9
 size:B≤w.heap.size
 len:EL.length=n
 n0:0≤n
 n1:n≤1048576
 edges:ze (zI zl 1) 1 w B a.E a.ce EL
 el:∀l ∈EL,l.length≤1048576
 blk:zd w g (wkV S n a) 162
 pl:qg w a.gp (vz n (fun v=>(S.place v:Int)))
 bk:qg w a.gb (vz n S.back)
 gn:qg w a.gg (vz n (fun v=>(S.gone v:Int)))
 way:w.ownsRow B 3 1 (.slice a.Ay S.way.length a.cy) S.way.length (zQ S.way)
 opn:w.ownsRow B 3 1 (.slice a.Ao S.opn.length a.co) S.opn.length (zQ S.opn)
 prt:w.ownsRow B 26 1 (.slice a.Ap S.parts.length a.cp) S.parts.length a.vs
 pin:∀(i:Nat) (v:Value) (c:List Nat),a.vs[i]? =some v→S.parts[i]? =some c→Yg w B ρ v c
 r0:ρ g=0
 r1:ρ a.gp=1
 r2:ρ a.gb=2
 r3:ρ a.gg=3
 r4:∀b,(Value.slice a.Ay S.way.length a.cy).ownBlock=some b→ρ b=4
 r5:∀b,(Value.slice a.Ao S.opn.length a.co).ownBlock=some b→ρ b=5
 r6:∀b,(Value.slice a.Ap S.parts.length a.cp).ownBlock=some b→ρ b=6
section
variable{w w':World}{B g n:Nat}{EL:List (List Int)}{S:Wk}{a:Jg}{ρ ρ':Nat→Nat}
structure q21(w:World)(B g:Nat)(EL:List (List Int))(n:Nat)(S:Wk)(a:Jg)(ρ:Nat→Nat)(r:Nat):Prop where
 low:∀b,b<B→ρ b=9
 size:B≤w.heap.size
 edges:ze (zI zl 1) 1 w B a.E a.ce EL
 blk:r≠0→zd w g (wkV S n a) 162
 pl:r≠1→qg w a.gp (vz n (fun v=>(S.place v:Int)))
 bk:r≠2→qg w a.gb (vz n S.back)
 gn:r≠3→qg w a.gg (vz n (fun v=>(S.gone v:Int)))
 way:r≠4→w.ownsRow B 3 1 (.slice a.Ay S.way.length a.cy) S.way.length (zQ S.way)
 opn:r≠5→w.ownsRow B 3 1 (.slice a.Ao S.opn.length a.co) S.opn.length (zQ S.opn)
 prt:r≠6→w.ownsRow B 26 1 (.slice a.Ap S.parts.length a.cp) S.parts.length a.vs
 pin:r≠7→∀(i:Nat) (v:Value) (c:List Nat),a.vs[i]? =some v→S.parts[i]? =some c→Yg w B ρ v c
 r0:ρ g=0
 r1:ρ a.gp=1
 r2:ρ a.gb=2
 r3:ρ a.gg=3
 r4:r≠4→∀b,(Value.slice a.Ay S.way.length a.cy).ownBlock=some b→ρ b=4
 r5:r≠5→∀b,(Value.slice a.Ao S.opn.length a.co).ownBlock=some b→ρ b=5
 r6:r≠6→∀b,(Value.slice a.Ap S.parts.length a.cp).ownBlock=some b→ρ b=6
theorem zC.move(h:zC w B g EL n S a ρ){r:Nat}(hO:qo w w' ρ r)(hρ:∀b,b<w.heap.size→ρ b≠r→ρ' b=ρ b)(hr9:r≠9)(h0:ρ' g=0)(h1:ρ' a.gp=1)(h2:ρ' a.gb=2)(h3:ρ' a.gg=3):q21 w' B g EL n S a ρ' r where
 low:=fun b hb=>by rw[hρ b (Xj hb h.size) (by rw[h.low b hb];exact fun e=>hr9 e.symm)];exact h.low b hb
 size:=Xd h.size hO.size
 edges:=h.edges.below_to (zI.keeps zl.keeps 1) (hO.low h.low h.size hr9) (zn _)
 blk:=fun hr=>vQ h.blk hO (by rw[h.r0];exact fun e=>hr e.symm)
 pl:=fun hr=>vQ h.pl hO (by rw[h.r1];exact fun e=>hr e.symm)
 bk:=fun hr=>vQ h.bk hO (by rw[h.r2];exact fun e=>hr e.symm)
 gn:=fun hr=>vQ h.gn hO (by rw[h.r3];exact fun e=>hr e.symm)
 way:=fun hr=>kw h.way hO (fun b hb=>by rw[h.r4 b hb];exact fun e=>hr e.symm)
 opn:=fun hr=>kw h.opn hO (fun b hb=>by rw[h.r5 b hb];exact fun e=>hr e.symm)
 prt:=fun hr=>kw h.prt hO (fun b hb=>by rw[h.r6 b hb];exact fun e=>hr e.symm)
 pin:=fun hr i v c hv hc=>(h.pin i v c hv hc).move hO hr hρ
 r0:=h0
 r1:=h1
 r2:=h2
 r3:=h3
 r4:=fun hr b hb=>by rw[hρ b (zL h.way b hb) (by rw[h.r4 b hb];exact fun e=>hr e.symm)];exact h.r4 b hb
 r5:=fun hr b hb=>by rw[hρ b (zL h.opn b hb) (by rw[h.r5 b hb];exact fun e=>hr e.symm)];exact h.r5 b hb
 r6:=fun hr b hb=>by rw[hρ b (zL h.prt b hb) (by rw[h.r6 b hb];exact fun e=>hr e.symm)];exact h.r6 b hb
theorem zC.roles(h:zC w B g EL n S a ρ):g<w.heap.size∧a.gp<w.heap.size∧a.gb<w.heap.size∧a.gg<w.heap.size:=⟨zd.lt h.blk,zd.lt h.pl,zd.lt h.bk,zd.lt h.gn⟩
theorem zC.moveU(h:zC w B g EL n S a ρ){r N:Nat}(hO:qo w w' ρ r)(hN:ρ N=r∨w.heap.size≤N)(hr:4≤r)(hr9:r≠9):q21 w' B g EL n S a (qe ρ N r) r:=by
 obtain⟨h0,h1,h2,h3⟩:=h.roles;have hu:=qcl hN;refine h.move hO hu hr9 ?_ ?_ ?_ ?_
 ·rw[hu g h0 (by rw[h.r0];omega)];exact h.r0
 ·rw[hu _ h1 (by rw[h.r1];omega)];exact h.r1
 ·rw[hu _ h2 (by rw[h.r2];omega)];exact h.r2
 ·rw[hu _ h3 (by rw[h.r3];omega)];exact h.r3
theorem zC.moveS(h:zC w B g EL n S a ρ){r:Nat}(hO:qo w w' ρ r)(hr9:r≠9):q21 w' B g EL n S a ρ r:=h.move hO (fun _ _ _=>rfl) hr9 h.r0 h.r1 h.r2 h.r3
theorem zC.keep(h:zC w B g EL n S a ρ)(hb:Below w.heap.size w w'):zC w' B g EL n S a ρ:=
 let q:=h.moveS (r:=10) (qo.below hb) (by decide)
 ⟨q.low,q.size,h.len,h.n0,h.n1,q.edges,h.el,q.blk (by decide),q.pl (by decide),q.bk (by decide),q.gn (by decide),q.way (by decide),q.opn (by decide),q.prt (by decide),q.pin (by decide),q.r0,q.r1,q.r2,q.r3,q.r4 (by decide),q.r5 (by decide),q.r6 (by decide)⟩
theorem zC.place(h:zC w B g EL n S a ρ){v k:Nat}{z:Int}(hz:z=(k:Int)):zC (w.setCell ⟨a.gp,v,none⟩ (.int .i64 z)) B g EL n {S with place:=qe S.place v k} a ρ:=
 let q:=h.moveS (r:=1) (qo.cell (a:=⟨a.gp,v,none⟩) h.r1 (.int .i64 z)) (by decide)
 ⟨q.low,q.size,h.len,h.n0,h.n1,q.edges,h.el,q.blk (by decide),by have:=h.pl.set (t:=v) z;subst hz;rw[q69,←qcm]at this;exact this,q.bk (by decide),q.gn (by decide),q.way (by decide),q.opn (by decide),q.prt (by decide),q.pin (by decide),q.r0,q.r1,q.r2,q.r3,q.r4 (by decide),q.r5 (by decide),q.r6 (by decide)⟩
theorem zC.back(h:zC w B g EL n S a ρ){v:Nat}{k:Int}:zC (w.setCell ⟨a.gb,v,none⟩ (.int .i64 k)) B g EL n {S with back:=qe S.back v k} a ρ:=
 let q:=h.moveS (r:=2) (qo.cell (a:=⟨a.gb,v,none⟩) h.r2 (.int .i64 k)) (by decide)
 ⟨q.low,q.size,h.len,h.n0,h.n1,q.edges,h.el,q.blk (by decide),q.pl (by decide),by have:=h.bk.set (t:=v) k;rw[q69]at this;exact this,q.gn (by decide),q.way (by decide),q.opn (by decide),q.prt (by decide),q.pin (by decide),q.r0,q.r1,q.r2,q.r3,q.r4 (by decide),q.r5 (by decide),q.r6 (by decide)⟩
theorem zC.gone(h:zC w B g EL n S a ρ){v k:Nat}{z:Int}(hz:z=(k:Int)):zC (w.setCell ⟨a.gg,v,none⟩ (.int .i64 z)) B g EL n {S with gone:=qe S.gone v k} a ρ:=
 let q:=h.moveS (r:=3) (qo.cell (a:=⟨a.gg,v,none⟩) h.r3 (.int .i64 z)) (by decide)
 ⟨q.low,q.size,h.len,h.n0,h.n1,q.edges,h.el,q.blk (by decide),q.pl (by decide),q.bk (by decide),by have:=h.gn.set (t:=v) z;subst hz;rw[q69,←qcm]at this;exact this,q.way (by decide),q.opn (by decide),q.prt (by decide),q.pin (by decide),q.r0,q.r1,q.r2,q.r3,q.r4 (by decide),q.r5 (by decide),q.r6 (by decide)⟩
theorem zC.met(h:zC w B g EL n S a ρ){k:Nat}{z:Int}(hz:z=(k:Int)):zC (w.setCell ⟨g,1,none⟩ (.int .i64 z)) B g EL n {S with met:=k} a ρ:=
 let q:=h.moveS (r:=0) (qo.cell (a:=⟨g,1,none⟩) h.r0 (.int .i64 z)) (by decide)
 ⟨q.low,q.size,h.len,h.n0,h.n1,q.edges,h.el,by have:=zd.set h.blk 1 (.int .i64 z);subst hz;exact this,q.pl (by decide),q.bk (by decide),q.gn (by decide),q.way (by decide),q.opn (by decide),q.prt (by decide),q.pin (by decide),q.r0,q.r1,q.r2,q.r3,q.r4 (by decide),q.r5 (by decide),q.r6 (by decide)⟩
theorem zC.way'(h:zC w B g EL n S a ρ){N:Nat}{A:Option Addr}{c:Nat}{W:List Nat}(hO:qo w w' ρ 4)(hN:ρ N=4∨w.heap.size≤N)(hA:∀b,(Value.slice A W.length c).ownBlock=some b→qe ρ N 4 b=4)(ho:w'.ownsRow B 3 1 (.slice A W.length c) W.length (zQ W)):
  zC (w'.setCell ⟨g,5,none⟩ (.slice A W.length c)) B g EL n {S with way:=W} {a with Ay:=A,cy:=c} (qe ρ N 4):=by
 have p:=h.moveU hO hN (by decide) (by decide);have hO2:qo w' (w'.setCell ⟨g,5,none⟩ (.slice A W.length c)) (qe ρ N 4) 0:=qo.cell (a:=⟨g,5,none⟩) p.r0 _;have hi:zC (w'.setCell ⟨g,5,none⟩ (.slice A W.length c)) B g EL n {S with way:=W} {a with Ay:=A,cy:=c} (qe ρ N 4):=
  ⟨p.low,by have:=p.size;simpa using this,h.len,h.n0,h.n1,p.edges.below_to (zI.keeps zl.keeps 1) (hO2.low p.low p.size (by decide)) (zn _),h.el,by have:=zd.set (p.blk (by decide)) 5 (.slice A W.length c);exact this,
   vQ (p.pl (by decide)) hO2 (by rw[p.r1];decide),vQ (p.bk (by decide)) hO2 (by rw[p.r2];decide),vQ (p.gn (by decide)) hO2 (by rw[p.r3];decide),kw ho hO2 (fun b hb=>by rw[hA b hb];decide),kw (p.opn (by decide)) hO2 (fun b hb=>by rw[p.r5 (by decide) b hb];decide),kw (p.prt (by decide)) hO2 (fun b hb=>by rw[p.r6 (by decide) b hb];decide),
   fun i v c hv hc=>(p.pin (by decide) i v c hv hc).move hO2 (by decide) (fun _ _ _=>rfl),p.r0,p.r1,p.r2,p.r3,hA,p.r5 (by decide),p.r6 (by decide)⟩
 exact hi
theorem zC.opn'(h:zC w B g EL n S a ρ){N:Nat}{A:Option Addr}{c:Nat}{W:List Nat}(hO:qo w w' ρ 5)(hN:ρ N=5∨w.heap.size≤N)(hA:∀b,(Value.slice A W.length c).ownBlock=some b→qe ρ N 5 b=5)(ho:w'.ownsRow B 3 1 (.slice A W.length c) W.length (zQ W)):
  zC (w'.setCell ⟨g,6,none⟩ (.slice A W.length c)) B g EL n {S with opn:=W} {a with Ao:=A,co:=c} (qe ρ N 5):=by
 have p:=h.moveU hO hN (by decide) (by decide);have hO2:qo w' (w'.setCell ⟨g,6,none⟩ (.slice A W.length c)) (qe ρ N 5) 0:=qo.cell (a:=⟨g,6,none⟩) p.r0 _;have hi:zC (w'.setCell ⟨g,6,none⟩ (.slice A W.length c)) B g EL n {S with opn:=W} {a with Ao:=A,co:=c} (qe ρ N 5):=
  ⟨p.low,by have:=p.size;simpa using this,h.len,h.n0,h.n1,p.edges.below_to (zI.keeps zl.keeps 1) (hO2.low p.low p.size (by decide)) (zn _),h.el,by have:=zd.set (p.blk (by decide)) 6 (.slice A W.length c);exact this,
   vQ (p.pl (by decide)) hO2 (by rw[p.r1];decide),vQ (p.bk (by decide)) hO2 (by rw[p.r2];decide),vQ (p.gn (by decide)) hO2 (by rw[p.r3];decide),kw (p.way (by decide)) hO2 (fun b hb=>by rw[p.r4 (by decide) b hb];decide),kw ho hO2 (fun b hb=>by rw[hA b hb];decide),kw (p.prt (by decide)) hO2 (fun b hb=>by rw[p.r6 (by decide) b hb];decide),
   fun i v c hv hc=>(p.pin (by decide) i v c hv hc).move hO2 (by decide) (fun _ _ _=>rfl),p.r0,p.r1,p.r2,p.r3,p.r4 (by decide),hA,p.r6 (by decide)⟩
 exact hi
theorem zC.prt'(h:zC w B g EL n S a ρ){N:Nat}{A:Option Addr}{c:Nat}{x:List Nat}{u:Value}(hO:qo w w' ρ 6)(hN:ρ N=6∨w.heap.size≤N)(hA:∀b,(Value.slice A (S.parts.length+1) c).ownBlock=some b→qe ρ N 6 b=6)(ho:w'.ownsRow B 26 1 (.slice A (S.parts.length+1) c) (S.parts.length+1) (a.vs++[u]))(hx:Yg w B ρ u x):
  zC (w'.setCell ⟨g,7,none⟩ (.slice A (S.parts.length+1) c)) B g EL n {S with parts:=S.parts++[x]} {a with Ap:=A,cp:=c,vs:=a.vs++[u]} (qe ρ N 6):=by
 have p:=h.moveU hO hN (by decide) (by decide);have hl:a.vs.length=S.parts.length:=by have:=h.prt.1;simpa using this
 have hl2:(S.parts++[x]).length=S.parts.length+1:=by simp
 have hO2:qo w' (w'.setCell ⟨g,7,none⟩ (.slice A (S.parts.length+1) c)) (qe ρ N 6) 0:=qo.cell (a:=⟨g,7,none⟩) p.r0 _;have hx2:=(hx.move hO (by decide) (qcl hN)).move hO2 (by decide) (fun _ _ _=>rfl);have hi:zC (w'.setCell ⟨g,7,none⟩ (.slice A (S.parts.length+1) c)) B g EL n {S with parts:=S.parts++[x]} {a with Ap:=A,cp:=c,vs:=a.vs++[u]} (qe ρ N 6):=
  ⟨p.low,by have:=p.size;simpa using this,h.len,h.n0,h.n1,p.edges.below_to (zI.keeps zl.keeps 1) (hO2.low p.low p.size (by decide)) (zn _),h.el,by have:=zd.set (p.blk (by decide)) 7 (.slice A (S.parts.length+1) c);rw[←hl2]at this⊢;exact this,
   vQ (p.pl (by decide)) hO2 (by rw[p.r1];decide),vQ (p.bk (by decide)) hO2 (by rw[p.r2];decide),vQ (p.gn (by decide)) hO2 (by rw[p.r3];decide),kw (p.way (by decide)) hO2 (fun b hb=>by rw[p.r4 (by decide) b hb];decide),kw (p.opn (by decide)) hO2 (fun b hb=>by rw[p.r5 (by decide) b hb];decide),by dsimp only;rw[hl2];exact kw ho hO2 (fun b hb=>by rw[hA b hb];decide),
   fun i v c hv hc=>by
    dsimp only at hv hc;rcases Xk i S.parts.length with q|q
    ·rw[XN (by omega)]at hv hc;exact(p.pin (by decide) i v c hv hc).move hO2 (by decide) (fun _ _ _=>rfl)
    ·have hi:i<(S.parts++[x]).length:=(XM.mp hc).1;have:i=S.parts.length:=by omega
     subst this;rw[XP (zn _)]at hc;rw[XP (by omega)]at hv;simp[hl]at hv hc;subst hv;subst hc;exact hx2,
   p.r0,p.r1,p.r2,p.r3,p.r4 (by decide),p.r5 (by decide),by dsimp only;rw[hl2];exact hA⟩
 exact hi
theorem q03{w w9:World}{o:Obj}{v:Value}{ρ:Nat→Nat}{r:Nat}(hlt:∀b,v.ownBlock=some b→ρ b=r)(hg:(w.alloc o).grownBy w9 v.ownBlock):qo w w9 ρ r:=
 (qo.below ((zb _ _).alloc (zn _) o)).trans (qo.grown hg hlt)
theorem q76{w:World}{o:Obj}{v:Value}{ρ:Nat→Nat}{r N:Nat}(hlt:∀b,v.ownBlock=some b→ρ b=r)(hor:v.ownBlock=some N∨N=(w.alloc o).heap.size):ρ N=r∨w.heap.size≤N:=by
 rcases hor with q|q
 ·exact .inl (hlt N q)
 ·exact .inr (by simp at q;omega)
theorem q75{g9 k c r:Nat}{ρ:Nat→Nat}:∀b,(Value.slice (some ⟨g9,0,none⟩) k c).ownBlock=some b→qe ρ g9 r b=r:=fun b hb=>by
 have:g9=b:=by simpa[Value.ownBlock]using hb
 subst this;exact vW _ _ _
theorem zC.cell_below(h:zC w' B g EL n S a ρ)(hb:Below B w w')(i:Nat)(v:Value):Below B w (w'.setCell ⟨g,i,none⟩ v):=
 hb.setCell (p:=⟨g,i,none⟩) (by
  rcases Xk g B with q|q
  ·have:=h.low g q;rw[h.r0]at this;cases this
  ·exact q) v
theorem zC.g_ge(h:zC w B g EL n S a ρ):B≤g∧B≤a.gp∧B≤a.gb∧B≤a.gg:=by
 have hx:∀x r,ρ x=r→r≠9→B≤x:=fun x r e hr=>by
  rcases Xk x B with q|q
  ·rw[h.low x q]at e;exact absurd e.symm hr
  ·exact q
 exact⟨hx g 0 h.r0 (by decide),hx _ 1 h.r1 (by decide),hx _ 2 h.r2 (by decide),hx _ 3 h.r3 (by decide)⟩
theorem zC.way_app(h:zC w B g EL n S a ρ){o:Obj}{v g9 c9:Nat}{w9:World}(hown:w9.ownsRow B 3 1 (.slice (some ⟨g9,0,none⟩) (S.way.length+1) c9) (S.way.length+1) (zQ S.way++[.int .i64 (v:Int)]))
  (hgrow:(w.alloc o).grownBy w9 (Value.slice a.Ay S.way.length a.cy).ownBlock) (hor:(Value.slice a.Ay S.way.length a.cy).ownBlock=some g9∨g9=(w.alloc o).heap.size):
  zC (w9.setCell ⟨g,5,none⟩ (.slice (some ⟨g9,0,none⟩) (S.way.length+1) c9)) B g EL n {S with way:=S.way++[v]} {a with Ay:=some ⟨g9,0,none⟩,cy:=c9} (qe ρ g9 4)∧Below B w (w9.setCell ⟨g,5,none⟩ (.slice (some ⟨g9,0,none⟩) (S.way.length+1) c9)):=by
 have hl:(S.way++[v]).length=S.way.length+1:=by simp
 have hO:=q03 h.r4 hgrow;rw[←qbi,←hl]at hown;have:=h.way' (W:=S.way++[v]) hO (q76 h.r4 hor) q75 hown;rw[hl]at this;exact⟨this,(hO.low h.low h.size (by decide)).setCell (p:=⟨g,5,none⟩) h.g_ge.1 _⟩
theorem zC.opn_app(h:zC w B g EL n S a ρ){o:Obj}{v g9 c9:Nat}{w9:World}(hown:w9.ownsRow B 3 1 (.slice (some ⟨g9,0,none⟩) (S.opn.length+1) c9) (S.opn.length+1) (zQ S.opn++[.int .i64 (v:Int)]))
  (hgrow:(w.alloc o).grownBy w9 (Value.slice a.Ao S.opn.length a.co).ownBlock) (hor:(Value.slice a.Ao S.opn.length a.co).ownBlock=some g9∨g9=(w.alloc o).heap.size):
  zC (w9.setCell ⟨g,6,none⟩ (.slice (some ⟨g9,0,none⟩) (S.opn.length+1) c9)) B g EL n {S with opn:=S.opn++[v]} {a with Ao:=some ⟨g9,0,none⟩,co:=c9} (qe ρ g9 5)∧Below B w (w9.setCell ⟨g,6,none⟩ (.slice (some ⟨g9,0,none⟩) (S.opn.length+1) c9)):=by
 have hl:(S.opn++[v]).length=S.opn.length+1:=by simp
 have hO:=q03 h.r5 hgrow;rw[←qbi,←hl]at hown;have:=h.opn' (W:=S.opn++[v]) hO (q76 h.r5 hor) q75 hown;rw[hl]at this;exact⟨this,(hO.low h.low h.size (by decide)).setCell (p:=⟨g,6,none⟩) h.g_ge.1 _⟩
theorem zC.prt_app(h:zC w B g EL n S a ρ){o:Obj}{g9 c9:Nat}{x:List Nat}{u:Value}{w9:World}(hx:Yg w B ρ u x)(hown:w9.ownsRow B 26 1 (.slice (some ⟨g9,0,none⟩) (S.parts.length+1) c9) (S.parts.length+1) (a.vs++[u]))
  (hgrow:(w.alloc o).grownBy w9 (Value.slice a.Ap S.parts.length a.cp).ownBlock) (hor:(Value.slice a.Ap S.parts.length a.cp).ownBlock=some g9∨g9=(w.alloc o).heap.size):
  zC (w9.setCell ⟨g,7,none⟩ (.slice (some ⟨g9,0,none⟩) (S.parts.length+1) c9)) B g EL n {S with parts:=S.parts++[x]} {a with Ap:=some ⟨g9,0,none⟩,cp:=c9,vs:=a.vs++[u]} (qe ρ g9 6)∧Below B w (w9.setCell ⟨g,7,none⟩ (.slice (some ⟨g9,0,none⟩) (S.parts.length+1) c9)):=by
 have hO:=q03 h.r6 hgrow;exact⟨h.prt' hO (q76 h.r6 hor) q75 hown hx,(hO.low h.low h.size (by decide)).setCell (p:=⟨g,7,none⟩) h.g_ge.1 _⟩
theorem q06{l:List Nat}(hd:l.Nodup)(h:∀v ∈l,v<n):l.length≤n:=by
 have:=qa9 (p:=fun _=>true) (n:=n) (ss:=l.map (fun k:Nat=>(k:Int))) (List.pairwise_map.mpr (hd.imp (fun {a b} q e=>q (by omega)))) (fun x hx=>by
  obtain⟨k,hk,rfl⟩:=XW.mp hx;exact YV.2 ⟨k,rfl,h k hk,rfl⟩)
 simpa using this
theorem zO.lens(h:zO EL n S):S.way.length≤n∧S.opn.length≤n∧S.parts.flatten.length≤n:=by
 have hd:∀{l:List Nat},l.Pairwise (fun a b=>S.place a<S.place b)→l.Nodup:=fun {l} q=>q.imp (fun {a b} q e=>by subst e;omega);exact⟨q06 (hd h.winc) (fun v hv=>h.olt v (h.wsub v hv)),q06 (hd h.oinc) h.olt,q06 h.nod (fun v hv=>(h.clt v hv).1)⟩
theorem zC.p_at(h:zC w B g EL n S a ρ){v:Nat}(hv:v<n):w.cell? ⟨a.gp,v,none⟩=some (.int .i64 (S.place v:Int))∧w.frozen? ⟨a.gp,v,none⟩=false:=by
 have:=h.pl.at_ (t:=v) (by rw[JV];exact hv);rw[q6s _ hv]at this;exact⟨this,zd.free h.pl v⟩
theorem zC.b_at(h:zC w B g EL n S a ρ){v:Nat}(hv:v<n):w.cell? ⟨a.gb,v,none⟩=some (.int .i64 (S.back v))∧w.frozen? ⟨a.gb,v,none⟩=false:=by
 have:=h.bk.at_ (t:=v) (by rw[JV];exact hv);rw[q6s _ hv]at this;exact⟨this,zd.free h.bk v⟩
theorem zC.g_at(h:zC w B g EL n S a ρ){v:Nat}(hv:v<n):w.cell? ⟨a.gg,v,none⟩=some (.int .i64 (S.gone v:Int))∧w.frozen? ⟨a.gg,v,none⟩=false:=by
 have:=h.gn.at_ (t:=v) (by rw[JV];exact hv);rw[q6s _ hv]at this;exact⟨this,zd.free h.gn v⟩
end
theorem qlw(x:Int)(w:World):Calls Tryz.prog 192 #[.int .i64 x] w fun e w'=>e= .returned (.bool false)∧w=w':=by
 go_enter Tryz.func192,Tryz.ntmps192;go_wp2
 go_ret;exact⟨by simp,rfl⟩
theorem q24(x:Int)(w:World):Calls Tryz.prog 157 #[.int .i64 x] w fun e w'=>e= .returned (.bool false)∧w=w':=by
 go_enter Tryz.func157,Tryz.ntmps157;go_wp2
 go_ret;exact⟨by simp,rfl⟩
theorem q8w(x y:Int)(w:World):Calls Tryz.prog 156 #[.int .i64 x,.int .i64 y] w fun e w'=>e= .returned (.bool (decide (x<y)))∧w=w':=by
 go_enter Tryz.func156,Tryz.ntmps156;go_wp2_with(go_at_call 192;(with_reducible refine(qlw _ _).mono ?_);rintro e w' ⟨rfl,rfl⟩)
 go_ret;exact⟨rfl,rfl⟩
theorem q09{l:List Int}{t:Nat}(h:t<l.length):l.getD t 0=l[t]:=by simp[List.getD,Xc h]
theorem q6t{l:List Int}(h:l.Pairwise (· < ·)){a b:Nat}(hab:a≤b)(hb:b<l.length):l.getD a 0≤l.getD b 0:=by
 rcases Xk a b with g|g
 ·have:=List.pairwise_iff_getElem.mp h a b (by omega) hb g;rw[q09 (by omega),q09 hb];omega
 ·obtain rfl:a=b:=by omega
  exact XE _
theorem qun{l:List Int}{x:Int}{lo:Nat}(h1:∀t,t<lo→l.getD t 0<x)(h2:∀t,lo≤t→t<l.length→x≤l.getD t 0)(h:l.Pairwise (· < ·)):zX l x=(decide (lo<l.length)&& decide (l.getD lo 0=x)):=by
 unfold zX;rw[XV];simp only[Xt,Xr];constructor
 ·intro hm;obtain⟨t,ht,e⟩:=List.mem_iff_getElem.mp hm;have et:l.getD t 0=x:=by rw[q09 ht];exact e
  have hlt:lo≤t:=by
   rcases Xk t lo with g|g
   ·have:=h1 t g;omega
   ·exact g
  refine⟨by omega,?_⟩;have:=q6t h hlt ht;have:=h2 lo (zn _) (by omega);omega
 ·rintro⟨hl,e⟩;rw[q09 hl]at e;rw[←e];exact Xf hl
def qez(b:Bool)(w:World)(e:Ending)(w':World):Prop:=∃p:Int,e= .returned (.tuple #[.int .i64 p,.bool b])∧Below w.heap.size w w'
set_option maxHeartbeats 4000000 in
theorem q9b(l:List Int)(x:Int)(A:Option Addr)(cap:Nat)(w:World)(hl:l.length≤1048576)(h:zq w w.heap.size A (l.map (Value.int .i64)))(hs:l.Pairwise (· < ·)):
  Calls Tryz.prog 109 #[.slice A l.length cap,.int .i64 x] w (qez (zX l x) w):=by
 have HL:=zH h;have HS:=zH hs;obtain⟨b,hb⟩:∃b,zX l x=b:=⟨_,rfl⟩
 have E:=zH hb;rw[hb];clear h hs hb;obtain⟨n,hn⟩:∃n,l.length=n:=⟨_,rfl⟩
 have HN:=zH hn;rw[hn]at hl⊢
 clear hn;go_enter Tryz.func109,Tryz.ntmps109;go_wp2
 go_loopg [7,8] n (fun g s7 s8 wr=>∃lo hi:Nat,s7= .int .i64 lo∧s8= .int .i64 hi∧lo≤hi∧hi≤n∧hi - lo≤g∧Hid (Below w.heap.size w wr)∧Hid ((∀t,t<lo→l.getD t 0<x)∧(∀t,hi≤t→t<n→x≤l.getD t 0)))
 case atStart=>exact⟨0,n,rfl,rfl,Xp _,zn _,by omega,zH (zb _ _),zH ⟨fun t ht=>absurd ht (Nat.not_lt_zero _),fun t h1 h2=>by omega⟩⟩
 case round=>
  obtain⟨lo,hi,rfl,rfl,hlh,hin,hg,HX,I⟩:=hrel;by_cases hlt:lo<hi
  ·have hmn:(lo+hi) / 2<n:=by omega
   obtain⟨ad,rfl,hab,hc0⟩:=(HL.out.below HX.out).at_ (k:=(lo+hi) / 2) (by rw[Xo,HN.out];exact hmn);have Y:=zH (show l.getD ((lo+hi) / 2) 0=l[(lo+hi) / 2]'(by rw[HN.out];exact hmn)from q09 _);rw[List.getElem_map]at hc0;generalize l[(lo+hi) / 2]'(by rw[HN.out];exact hmn)=y at*
   by_cases hyx:y<x
   ·go_wp2_with(first|(go_at_call 156;(with_reducible refine(q8w _ _ _).mono ?_);rintro e w' ⟨rfl,rfl⟩)|(go_at_call 157;(with_reducible refine(q24 _ _).mono ?_);rintro e w' ⟨rfl,rfl⟩))
    go_roundg (hi - ((lo+hi) / 2+1))
    case measure=>omega
    case rel=>
     refine⟨(lo+hi) / 2+1,hi,by rw[show((lo:Int)+(hi:Int)) / 2+1=(((lo+hi) / 2+1:Nat):Int)by omega],rfl,by omega,hin,zn _,HX,zH ⟨fun t ht=> ?_,I.out.2⟩⟩;have:=q6t HS.out (a:=t) (b:=(lo+hi) / 2) (by omega) (by rw[HN.out];exact hmn);rw[Y.out]at this;omega
   ·go_wp2_with(first|(go_at_call 156;(with_reducible refine(q8w _ _ _).mono ?_);rintro e w' ⟨rfl,rfl⟩)|(go_at_call 157;(with_reducible refine(q24 _ _).mono ?_);rintro e w' ⟨rfl,rfl⟩))
    go_roundg ((lo+hi) / 2 - lo)
    case measure=>omega
    case rel=>
     refine⟨lo,(lo+hi) / 2,rfl,by rw[show((lo:Int)+(hi:Int)) / 2=(((lo+hi) / 2:Nat):Int)by omega],by omega,by omega,zn _,HX,zH ⟨I.out.1,fun t ht htn=> ?_⟩⟩;have:=q6t HS.out (a:=(lo+hi) / 2) (b:=t) ht (by rw[HN.out];exact htn);rw[Y.out]at this;omega
  ·obtain rfl:lo=hi:=by omega
   have E2:=zH (E.out.symm.trans (qun I.out.1 (fun t h0 h1=>I.out.2 t h0 (by rw[←HN.out];exact h1)) HS.out));by_cases hln:lo<n
   ·obtain⟨ad,rfl,hab,hc0⟩:=(HL.out.below HX.out).at_ (k:=lo) (by rw[Xo,HN.out];exact hln);have Y:=zH (show l.getD lo 0=l[lo]'(by rw[HN.out];exact hln)from q09 _);rw[List.getElem_map]at hc0;generalize l[lo]'(by rw[HN.out];exact hln)=y at*
    have E3:Hid (b=decide (y=x)):=zH (by rw[E2.out,Y.out,HN.out];simp[hln]);by_cases hyx:y=x
    ·subst hyx;go_wp2_with(go_at_call 157;(with_reducible refine(q24 _ _).mono ?_);rintro e w' ⟨rfl,rfl⟩)
     go_ret2
     exact⟨(lo:Int),by rw[E3.out];simp,HX.out⟩
    ·have hne:((y:Int)==x)=false:=by simpa using hyx
     go_wp2_with(go_at_call 157;(with_reducible refine(q24 _ _).mono ?_);rintro e w' ⟨rfl,rfl⟩)
     go_ret2
     exact⟨(lo:Int),by rw[E3.out];simp[hyx],HX.out⟩
   ·have E3:Hid (b=false):=zH (by rw[E2.out,HN.out];simp[hln]);go_wp2_with fail
    go_ret2
    exact⟨_,by rw[E3.out];rfl,HX.out⟩
open Go.Sort (Holds putRow)
def Got(D:DataW Unit)(left:Lit→Bool)(ss:List Int):Prop:=ss.Nodup∧∀x:Int,x ∈ss↔(Go.Maps.has D (.int .i64 x)=true∧left (.int .i64 x)=false)
theorem Got.start(D:DataW Unit):Got D (Go.Maps.has D) []:=⟨List.nodup_nil,fun x=>by cases Go.Maps.has D (.int .i64 x)<;>simp⟩
theorem Got.step{D:DataW Unit}{left:Lit→Bool}{ss:List Int}(h:Got D left ss){x:Int}(hx:Go.Maps.has D (.int .i64 x)=true)(hlk:left (.int .i64 x)=true):Got D (fun z=>left z&& !z.sameKey (.int .i64 x)) (ss++[x]):=by
 have hnew:x ∉ss:=fun hx=>by have:=((h.2 x).1 hx).2;rw[hlk]at this;cases this
 refine⟨List.nodup_append.2 ⟨h.1,by simp,fun a ha b hb=>by simp at hb;subst hb;exact fun e=>hnew (e ▸ ha)⟩,fun y=> ?_⟩;by_cases hy:y=x
 ·subst hy;simp[hx,Lit.sameKey]
 ·simp[h.2 y,hy,Lit.sameKey]
theorem qul(blk cap:Nat)(zs:List Int)(w:World)(hH:Holds (Value.int .i64) w blk 0 zs.toArray)(hblk:blk<w.heap.size)(hsz:zs.length<4611686018427387904):
  Calls Tryz.prog 190 #[.slice (some ⟨blk,0,none⟩) zs.length cap] w fun e w'=>
   e= .returned (.tuple #[])∧∃n os,w'=Go.Sort.grow (putRow (Value.int .i64) (Go.Sort.ahead w n) blk 0 (zs.mergeSort fun x y=>decide (x≤y)).toArray) os:=
 Any.slices_Sort_int q5b blk 0 cap zs w hH hblk hsz
theorem qnf(p:Option Addr)(cap:Nat)(w:World):Calls Tryz.prog 190 #[.slice p 0 cap] w fun e w'=>e= .returned (.tuple #[])∧w'=w:=
 Any.slices_Sort_int_none q5b p cap w
set_option maxHeartbeats 1600000 in
theorem qjb(b n:Nat)(p:Nat→Bool)(w:World)(H:ji w b p n)(hn:n≤1048576):
  Calls Tryz.prog 152 #[.map (some b)] w (vl (jl p n) w):=by
 obtain⟨i0,hi,hz0,hz1,hz2⟩:=info_parts vT;obtain⟨D,ho,hh⟩:=H;have hs:=qda ho hh;have HH:=zH hh;have hbl:=ho.lt;clear hh;go_enter Tryz.func152,Tryz.ntmps152;go_wp2_with(at_range;refine wpList_range_own _ rfl _ 203 rfl 3 165 Vd Tryz.underlying203 _ b _ D rfl ho ?_;intro w0 hrg0 hg0 hs0)
 go_frame
 go_loopw [3] (fun v wr=>∃(left:Lit→Bool) (cnt:Nat) (ss:List Int),wr.ranges Tryz.prog 3 (unitElem (H:=Unit)) b w.heap.size (Go.Maps.size D) D left cnt∧ss.length+cnt≤Go.Maps.size D∧
   wr.ownsRow w.heap.size 3 1 v ss.length (ss.map (Value.int .i64))∧Hid (Got D left ss)∧Hid (Below w.heap.size w wr)) (fun _ wr=>wr.rangeLeft b w.heap.size)
 case atStart=>
  exact⟨_,_,[],hrg0,by simp,XQ _ _ _ _,zH (Got.start D),zH ((zb _ _).grown hg0 (zn _) (fun j hj=>by cases hj))⟩
 case round=>
  obtain⟨left,cnt,ss,hrg,hcs,hrow,HC,HX⟩:=hrel;go_wp2_with(at_next;refine wpList_next_ranges _ rfl _ rfl 3 Vd (unitElem (H:=Unit)) (Value.int .i64) (fun _:Unit=> .agg #[]) (fun key kl hk=>by obtain⟨x,hx,_⟩:=Maps.keyOf_int_inv Tryz.underlying3 hk;exact⟨x,hx⟩) (fun v y hv=>by obtain⟨rfl,_⟩:=unitElem_inv hv;exact⟨(),rfl⟩) b w.heap.size _ _ _ _ rfl hrg ?_ ?_)
  ·intro hc0 hl0;have hm:∀x,x ∈ss↔x ∈jl p n:=fun x=>by rw[HC.out.2 x,hl0,HH.out x];simp
   have hsort:=qne HC.out.1 hm;rcases hrow.2 with⟨rfl,hz⟩|⟨g,cap,cur,rfl,hbase,hb,h1,h2,h3,h4⟩
   ·have hsn:ss=[]:=X6 hz;subst hsn;have hpe:jl p n=[]:=by rw[←hsort];simp
    have HPE:=zH hpe;clear hsort hm hpe;go_wp2_with(go_at_call 190;refine(qnf _ _ _).mono ?_;rintro e w' ⟨rfl,rfl⟩)
    go_ret;rw[HPE.out];exact⟨_,rfl,XQ _ _ _ _,HX.out⟩
   ·have hH:Holds (Value.int .i64) wr g 0 ss.toArray:=holds_of_blockI hb (by simpa using h4);have hgl:g<wr.heap.size:=(Array.getElem?_eq_some_iff.1 hb).1;have hc:=qul g cap ss wr hH hgl (by omega);have hle:(jl p n).length=ss.length:=by rw[←hsort];simp
    rw[hsort]at hc;have HS:=zH (And.intro hle (And.intro hbase (And.intro hb (And.intro h1 (And.intro h2 h3)))));clear hsort hm hle hbase hb h1 h2 h3 h4 hrow;go_wp2_with(go_at_call 190;refine hc.mono ?_;rintro e w' ⟨rfl,nn,os,rfl⟩)
    go_ret;obtain⟨hle,hbase,hb,h1,h2,h3⟩:=HS.out;refine⟨_,rfl,?_,HX.out.grown (grownBy_sortedI _) HX.out.size (fun j hj=>by cases hj;exact hbase)⟩;have q:=ownsRow_sortedI (n:=nn) (os:=os) hle hbase hb h1 h2 h3;rw[←hle]at q⊢
    exact q
  ·intro x c kl y w2 cnt2 hkey hlk hv hat hrg2 hlt hg2 hs2 hen;obtain⟨x',ex,rfl,_⟩:=Maps.keyOf_int_inv Tryz.underlying3 hkey;cases ex;have hrow2:=hrow.kept hg2 (Or.inr (row_ne_iter hrow hrg).symm);have HX2:=zH (HX.out.grown hg2 HX.out.size (fun j hj=>by cases hj;exact zn _));have hsz2:=HX2.out.size;have HG:=zH (HC.out.step (Go.Maps.has_true_of_atKey hat) hlk);clear hs2 hkey hv;go_wp2_with(at_builtin;refine Zj rfl _ _ 26 rfl _ 3 i0 (.int .i64 0) 1 8 Tryz.underlying26 hi hz0 hz1 hz2 rfl (by decide) _ ss.length (ss.map (Value.int .i64)) rfl (hrow2.alloc _) (some ⟨w2.heap.size,0,none⟩) 1 1 _ [.int .i64 x] rfl rfl (q07 w2 _ _) (JR rfl) (by unfold maxLen;omega) (by omega) (by simp;omega) ?_;intro v6 w6 hown hgrow)
   have hrg3:=(hrg2.alloc (.cells #[.int .i64 x] 3)).kept hgrow (row_ne_low hrow2 hbl) (row_ne_iter hrow2 hrg2);go_roundw;case rel=>exact⟨_,cnt2,ss++[x],hrg3,by simp;omega,by simpa using hown,HG,zH (jV (HX2.out.alloc hsz2 _) (hrow2.alloc _) (by simp;omega) hgrow)⟩
   case measure=>rw[hrg3.left_eq,hrg.left_eq];exact hlt
theorem qnv{b n:Nat}{p:Nat→Bool}{w:World}(H:Hid (ji w b p n))(hn:n≤1048576){L:List Int}(HL:Hid (jl p n=L)):
  Calls Tryz.prog 152 #[.map (some b)] w (vl L w):=by
 have h:=qjb b n p w H.out hn;rw[HL.out]at h;exact h
theorem qbd{w:World}{B n k:Nat}{v:Value}{xs:List Value}{T:TypeId}(h:w.ownsRow B T k v n xs)(hn:0<n):∃g c rest,v= .slice (some ⟨g,0,none⟩) n c∧B≤g∧zd w g (xs++rest) T:=by
 rcases h.2 with⟨_,h2⟩|⟨g',cap,cur,h1,hb,hh,_,_,_,hx⟩
 ·omega
 ·refine⟨g',cap,cur.toList.drop (n*k),h1,hb,?_⟩;unfold zd;rw[←hx,List.take_append_drop];exact hh
section
variable{EL:List (List Int)}{n:Nat}{S:Wk}
def ZC(n:Nat)(S:Wk):Nat:=2*QI (fun v=>decide (0<S.place v)) n+S.way.length
theorem zO.gone_none(h:zO EL n S){v:Nat}(hw:v ∈S.way)(hl:S.gone v<(eds EL v).length)(ht:∀t:Nat,t<n→¬(eds EL v)[S.gone v]=(t:Int)):zO EL n (S.go v):=h.go hw hl (fun t htn e=>absurd e (ht t htn))
theorem zO.gone_old(h:zO EL n S)(hn:(n:Int)≤jL){v t:Nat}(hw:v ∈S.way)(hl:S.gone v<(eds EL v).length)(ht:t<n)(h0:0<S.place t)(he:(eds EL v)[S.gone v]=(t:Int)):zO EL n ((S.lower v (min (S.back v) (S.back t))).go v):=by
 obtain⟨h1,h2⟩:=h.see hn hw ht h0 (by unfold vb;rw[←he];exact Xf hl);refine h1.go hw hl (fun u hu e=> ?_);have e:(eds EL v)[S.gone v]=(u:Int):=e;have:u=t:=by omega
 subst this;rcases h2 with q|⟨q1,q2⟩
 ·exact .inl q
 ·refine .inr ⟨q1,?_⟩;have:(S.lower v (min (S.back v) (S.back u))).back v=min (S.back v) (S.back u):=vW _ _ _;rw[this];exact q2
theorem zO.gone_new(h:zO EL n S){W:List Nat}{v t:Nat}(hw:S.way=W++[v])(hl:S.gone v<(eds EL v).length)(ht:t<n)(h0:S.place t=0)(he:(eds EL v)[S.gone v]=(t:Int)):zO EL n ((S.go v).meet t)∧ZC n ((S.go v).meet t)<ZC n S:=by
 have hvw:v ∈S.way:=by rw[hw];simp
 have hed:vb EL v t:=by unfold vb;rw[←he];exact Xf hl
 have hpw:∀p ∈S.way,qy EL n p t:=fun p hp=>by
  have hle:S.place p≤S.place v:=by
   have hq:=h.winc;rw[hw,Wh]at hq;rw[hw]at hp;rcases Xn.mp hp with q|q
   ·exact Xh (hq.2.2 p q v (by simp))
   ·rw[XL]at q;subst q;exact zn _
  rcases h.tree p hp v (h.wsub v hvw) hle with rfl|q
  ·exact .one hed
  ·exact .snoc q (h.olt v (h.wsub v hvw)) hed
 have h1:=h.meet ht h0 hpw;have hvt:v≠t:=fun e=>by subst e;have:=(h.opos v (h.wsub v hvw)).1;omega
 have h2:=h1.go (v:=v) (by show v ∈S.way++[t];simp[hvw]) hl (fun u hu e=>by
  have e:(eds EL v)[S.gone v]=(u:Int):=e;have:u=t:=by omega
  subst this;refine .inr ⟨by show u ∈S.opn++[u];simp,?_⟩;have e1:(S.meet u).back v=S.back v:=Zs _ _ hvt;have e2:(S.meet u).place u=S.met+1:=vW _ _ _;rw[e1,e2];have:=(h.bin v (h.wsub v hvw)).2.1;have:=(h.opos v (h.wsub v hvw)).2;omega)
 refine⟨h2,?_⟩;have hu:=q2q (p:=fun v=>decide (0<S.place v)) (g:=t) (by simp[h0]) n ht;have h3:(fun x=>decide (0<((S.go v).meet t).place x))=fun k=>decide (0<S.place k)||decide (k=t):=funext fun x=>by
  by_cases e:x=t
  ·subst e;have:((S.go v).meet x).place x=S.met+1:=vW _ _ _;rw[this];simp
  ·have:((S.go v).meet t).place x=S.place x:=Zs _ _ e;rw[this];simp[e]
 unfold ZC;rw[h3];have:((S.go v).meet t).way.length=S.way.length+1:=by show(S.way++[t]).length=_;simp
 omega
theorem zO.met_all{v x:Nat}(h:0<S.place x):0<(S.meet v).place x:=by
 by_cases e:x=v
 ·subst e;have:(S.meet x).place x=S.met+1:=vW _ _ _;omega
 ·have:(S.meet v).place x=S.place x:=Zs _ _ e;omega
end
def qt(S:Nat→Bool)(w:World):World:={w with heap:=w.heap.mapIdx fun i o=>if S i then .cells #[] 0 (0,0)else o}
theorem Zm(S:Nat→Bool)(w:World):(qt S w).heap.size=w.heap.size:=by simp[qt]
theorem Jm{S:Nat→Bool}{w:World}{q:Addr}{v:Value}:(qt S w).cell? q=some v↔S q.block=false∧w.cell? q=some v:=by
 unfold qt World.cell?;simp only[Array.getElem?_mapIdx];cases hs:S q.block<;>cases hq:w.heap[q.block]? <;>simp
theorem q8q{S:Nat→Bool}{w:World}{q:Addr}(h:S q.block=false):(qt S w).frozen? q=w.frozen? q:=by
 unfold qt World.frozen?;simp only[Array.getElem?_mapIdx];cases hq:w.heap[q.block]? <;>simp[h]
def old(w:World):Nat→Bool:=fun b=>decide (b<w.heap.size)
theorem kS{w:World}{b:Nat}:old w b=false↔w.heap.size≤b:=by unfold old;simp
def kN{α:Type}(At:AtP α):Prop:=∀ ⦃w w':World⦄ ⦃B C:Nat⦄ ⦃p:Addr⦄ ⦃x:α⦄,At w B p x→p.block<B→B≤C→(∀q v,q.block<B→w.cell? q=some v→w'.cell? q=some v)→At w' C p x
theorem qv.mono{α:Type}{At:AtP α}(hK:kN At){k:Nat}{w w':World}{B C:Nat}{A:Option Addr}{l:List α}(h:qv At k w B A l)(hC:B≤C)(hc:∀q v,q.block<B→w.cell? q=some v→w'.cell? q=some v):qv At k w' C A l:=fun i x hi=>by
 obtain⟨ad,e,hb,ha⟩:=h i x hi;exact⟨ad,e,Xj hb hC,hK ha (by rw[zu];exact hb) hC hc⟩
theorem ze.mono{α:Type}{At:AtP α}(hK:kN At){k:Nat}{w w':World}{B C:Nat}{A:Option Addr}{cap:Nat}{l:List α}(h:ze At k w B A cap l)(hC:B≤C)(hc:∀q v,q.block<B→w.cell? q=some v→w'.cell? q=some v):ze At k w' C A cap l:=
 ⟨h.le,h.cap,h.row.mono hK hC hc⟩
theorem zl.mono:kN zl:=fun _ _ _ _ p _ h hp _ hc=>hc _ _ hp h
theorem qQ.mono:kN qQ:=fun _ _ _ _ p _ h hp _ hc=>⟨hc _ _ hp h.1,h.2⟩
theorem zc.mono:kN zc:=fun _ _ _ _ p _ h hp _ hc=>⟨hc _ _ hp h.1,hc (zf p 1) _ hp h.2⟩
theorem qi.mono:kN qi:=fun _ _ _ _ p _ h hp _ hc=>⟨hc _ _ hp h.1,hc (zf p 1) _ hp h.2.1,hc (zf p 2) _ hp h.2.2⟩
theorem zI.mono{α:Type}{At:AtP α}(hK:kN At)(k:Nat):kN (zI At k):=fun _ _ _ _ _ _ ⟨A,cap,h,hs⟩ hp hC hc=>⟨A,cap,hc _ _ hp h,hs.mono hK hC hc⟩
theorem qj.mono:kN qj:=fun _ _ _ _ _ _ h hp hC hc=>⟨hc _ _ hp h.sup,zI.mono zc.mono 2 h.fields hp hC hc,zI.mono zl.mono 1 h.slots hp hC hc,h.rng⟩
theorem qC.mono:kN qC:=fun _ _ _ _ p _ h hp hC hc=>
 ⟨zI.mono zc.mono 2 h.args hp hC hc,zI.mono zc.mono 2 h.locals hp hC hc,hc (zf p 2) _ hp h.ret0,hc (zf p 3) _ hp h.ret1,zI.mono qi.mono 3 h.code hp hC hc,
  hc (zf p 5) _ hp h.depth,hc (zf p 6) _ hp h.pot,zI.mono zl.mono 1 h.phi hp hC hc⟩
theorem ze.hole{α:Type}{At:AtP α}(hK:kN At){k:Nat}{S S':Nat→Bool}{w w':World}{B C:Nat}{A:Option Addr}{cap:Nat}{l:List α}(h:ze At k (qt S w) B A cap l)(hC:B≤C)
  (hs:∀b,b<B→S b=false→S' b=false∧w'.heap[b]? =w.heap[b]?):ze At k (qt S' w') C A cap l:=
 h.mono hK hC fun q v hq hc=>by
  obtain⟨h1,h2⟩:=Jm.mp hc;obtain⟨g1,g2⟩:=hs _ hq h1;exact Jm.mpr ⟨g1,(XX (w:=w) g2).trans h2⟩
theorem ze.of_hole{α:Type}{At:AtP α}(hK:kN At){k:Nat}{S:Nat→Bool}{w:World}{B:Nat}{A:Option Addr}{cap:Nat}{l:List α}(h:ze At k (qt S w) B A cap l):ze At k w B A cap l:=
 h.mono hK (zn _) fun q v hq hc=>(Jm.mp hc).2
theorem qA{w w1:World}{N b:Nat}{o:Obj}(h:w.heap[b]? =some o)(hg:w.grownBy w1 (some N))(hne:b≠N):w1.heap[b]? =some o:=by
 rw[hg.block b (lt_of_block h) (fun e=>hne (by injection e)),h]
theorem vG{w:World}{b i:Nat}{vs:List Value}{T:TypeId}{fr:Nat×Nat}(h:w.heap[b]? =some (.cells vs.toArray T fr))(v:Value):(w.setCell ⟨b,i,none⟩ v).heap[b]? =some (.cells (vs.set i v).toArray T fr):=by
 have hlt:=lt_of_block h;have h':w.heap[b]= .cells vs.toArray T fr:=by simpa[Array.getElem?_eq_getElem hlt]using h
 show(w.heap.modify b _)[b]? =_;rw[Array.getElem?_eq_getElem (by simpa using hlt),Array.getElem_modify_self,h'];simp
theorem vF{w:World}{b:Nat}{o:Obj}(h:w.heap[b]? =some o){a:Addr}(ha:b≠a.block)(v:Value):(w.setCell a v).heap[b]? =some o:=(Below.heap_setCell w a v b ha).trans h
theorem zk{w:World}{b:Nat}{vs:List Value}{T:TypeId}{fr:Nat×Nat}(h:w.heap[b]? =some (.cells vs.toArray T fr))(i:Nat)(v:Value)(hv:vs[i]? =some v):w.cell? ⟨b,i,none⟩=some v:=by
 simp[World.cell?,h,hv]
theorem zB{w:World}{b:Nat}{vs:List Value}{T:TypeId}(h:w.heap[b]? =some (.cells vs.toArray T (0,0)))(i:Nat):w.frozen? ⟨b,i,none⟩=false:=by
 simp[World.frozen?,h]
abbrev ElP(α:Type):=World→List Value→α→Prop
def Ql{α:Type}(El:ElP α):Prop:=∀ ⦃W W':World⦄ ⦃vs:List Value⦄ ⦃x:α⦄,El W vs x→W.heap.size≤W'.heap.size→(∀q v,q.block<W.heap.size→W.cell? q=some v→W'.cell? q=some v∧W'.frozen? q=W.frozen? q)→El W' vs x
def vo:ElP Int:=fun _ vs n=>vs=[.int .i64 n]
def Qh:ElP Int:=fun _ vs n=>vs=[.int .i32 n]∧ -2147483648≤n∧n≤2147483647
def Qq:ElP (Int×Int):=fun _ vs t=>vs=[.int .i64 t.1,.int .i64 t.2]
def Qi:ElP (Int×Int×Int):=fun _ vs i=>vs=[.int .i64 i.1,.int .i64 i.2.1,.int .i64 i.2.2]
def ZV:ElP zJ:=fun W vs c=>∃A1 k1 A2 k2,vs=[.int .i64 c.sup,.slice A1 c.fields.length k1,.slice A2 c.slots.length k2]∧ze zc 2 W W.heap.size A1 k1 c.fields∧ze zl 1 W W.heap.size A2 k2 c.slots∧ -9223372036854775808≤c.sup∧c.sup≤9223372036854775807
def ZU:ElP zh:=fun W vs x=>∃A0 k0 A1 k1 A4 k4 A7 k7,vs=[.slice A0 x.args.length k0,.slice A1 x.locals.length k1,.int .i64 x.ret.1,.int .i64 x.ret.2,.slice A4 x.code.length k4,.int .i64 x.depth,.int .i64 x.pot,.slice A7 x.phi.length k7]∧
 ze zc 2 W W.heap.size A0 k0 x.args∧ze zc 2 W W.heap.size A1 k1 x.locals∧ze qi 3 W W.heap.size A4 k4 x.code∧ze zl 1 W W.heap.size A7 k7 x.phi
theorem vo.mono:Ql vo:=fun _ _ _ _ h _ _=>h
theorem Qh.mono:Ql Qh:=fun _ _ _ _ h _ _=>h
theorem Qq.mono:Ql Qq:=fun _ _ _ _ h _ _=>h
theorem Qi.mono:Ql Qi:=fun _ _ _ _ h _ _=>h
theorem ZV.mono:Ql ZV:=fun _ _ _ _ ⟨A1,k1,A2,k2,e,h1,h2,h3⟩ hs hc=>⟨A1,k1,A2,k2,e,h1.mono zc.mono hs (fun q v h1 h2=>(hc q v h1 h2).1),h2.mono zl.mono hs (fun q v h1 h2=>(hc q v h1 h2).1),h3⟩
theorem ZU.mono:Ql ZU:=fun _ _ _ _ ⟨A0,k0,A1,k1,A4,k4,A7,k7,e,h0,h1,h4,h7⟩ hs hc=>⟨A0,k0,A1,k1,A4,k4,A7,k7,e,h0.mono zc.mono hs (fun q v h1 h2=>(hc q v h1 h2).1),h1.mono zc.mono hs (fun q v h1 h2=>(hc q v h1 h2).1),h4.mono qi.mono hs (fun q v h1 h2=>(hc q v h1 h2).1),h7.mono zl.mono hs (fun q v h1 h2=>(hc q v h1 h2).1)⟩
def Vu{α:Type}(El:ElP α)(At:AtP α)(k:Nat):Prop:=∀ ⦃W:World⦄ ⦃vs:List Value⦄ ⦃x:α⦄ ⦃p:Addr⦄,El W vs x→(∀j u,vs[j]? =some u→W.cell? (p.add j)=some u)→vs.length=k∧At W W.heap.size p x
theorem VW(p:Addr):p.add 0=p:=by simp[Addr.add]
theorem Qd{n:Nat}(p:Addr)(h:0<n):p.add n=zf p n:=by
 unfold Addr.add zf;rw[Xa (by omega)]
theorem vo.at_:Vu vo zl 1:=fun W vs x p e hc=>by subst e;exact⟨rfl,by have:=hc 0 _ rfl;rwa [VW]at this⟩
theorem Qh.at_:Vu Qh qQ 1:=fun W vs x p e hc=>by obtain⟨rfl,h⟩:=e;exact⟨rfl,by have:=hc 0 _ rfl;rwa [VW]at this,h⟩
theorem Qq.at_:Vu Qq zc 2:=fun W vs x p e hc=>by
 subst e;exact⟨rfl,by have:=hc 0 _ rfl;rwa [VW]at this,by have:=hc 1 _ rfl;rwa [Qd _ (by decide)]at this⟩
theorem Qi.at_:Vu Qi qi 3:=fun W vs x p e hc=>by
 subst e;exact⟨rfl,by have:=hc 0 _ rfl;rwa [VW]at this,by have:=hc 1 _ rfl;rwa [Qd _ (by decide)]at this,by have:=hc 2 _ rfl;rwa [Qd _ (by decide)]at this⟩
theorem ZV.at_:Vu ZV qj 3:=fun W vs x p e hc=>by
 obtain⟨A1,k1,A2,k2,rfl,h1,h2,h3⟩:=e;exact⟨rfl,by have:=hc 0 _ rfl;rwa [VW]at this,⟨A1,k1,by have:=hc 1 _ rfl;rwa [Qd _ (by decide)]at this,h1⟩,⟨A2,k2,by have:=hc 2 _ rfl;rwa [Qd _ (by decide)]at this,h2⟩,h3⟩
theorem ZU.at_:Vu ZU qC 8:=fun W vs x p e hc=>by
 obtain⟨A0,k0,A1,k1,A4,k4,A7,k7,rfl,h0,h1,h4,h7⟩:=e;refine⟨rfl,⟨A0,k0,?_,h0⟩,⟨A1,k1,?_,h1⟩,?_,?_,⟨A4,k4,?_,h4⟩,?_,?_,⟨A7,k7,?_,h7⟩⟩
 ·have:=hc 0 _ rfl;rwa [VW]at this
 ·have:=hc 1 _ rfl;rwa [Qd _ (by decide)]at this
 ·have:=hc 2 _ rfl;rwa [Qd _ (by decide)]at this
 ·have:=hc 3 _ rfl;rwa [Qd _ (by decide)]at this
 ·have:=hc 4 _ rfl;rwa [Qd _ (by decide)]at this
 ·have:=hc 5 _ rfl;rwa [Qd _ (by decide)]at this
 ·have:=hc 6 _ rfl;rwa [Qd _ (by decide)]at this
 ·have:=hc 7 _ rfl;rwa [Qd _ (by decide)]at this
theorem q0e{α:Type}{El:ElP α}(hM:Ql El){S S':Nat→Bool}{w w':World}{vs:List Value}{x:α}(h:El (qt S w) vs x)(hz:w.heap.size≤w'.heap.size)
  (hs:∀b,b<w.heap.size→S b=false→S' b=false∧w'.heap[b]? =w.heap[b]?):El (qt S' w') vs x:=
 hM h (by rw[Zm,Zm];exact hz) fun q v hq hc=>by
  rw[Zm]at hq;obtain⟨h1,h2⟩:=Jm.mp hc;obtain⟨g1,g2⟩:=hs _ hq h1;exact⟨Jm.mpr ⟨g1,(XX (w:=w) g2).trans h2⟩,by rw[q8q g1,q8q h1];exact World.frozen?_of_block (w:=w) g2⟩
theorem q8t{k:Nat}:∀(vss:List (List Value)) (i r:Nat) (vs:List Value),(∀vs ∈vss,vs.length=k)→vss[i]? =some vs→r<k→vss.flatten[i*k+r]? =vs[r]?
 | [],i,r,x,_,h,_=>by simp at h
 |y::l,0,r,x,hf,h,hr=>by
  simp at h;subst h;rw[List.flatten_cons,XN (by rw[hf _ XD];omega)];simp
 |y::l,i+1,r,x,hf,h,hr=>by
  have e:=hf y XD;rw[List.flatten_cons,XP (by rw[e,Nat.add_mul];omega),e];rw[show(i+1)*k+r - k=i*k+r by rw[Nat.add_mul];omega];exact q8t l i r x (fun vs h=>hf vs (XF _ h)) (by simpa using h) hr
def rowS(base:Nat)(v:Value):Nat→Bool:=fun b=>decide (b<base)||decide (v.ownBlock=some b)
theorem q1l{base b:Nat}{v:Value}:rowS base v b=false↔base≤b∧¬v.ownBlock=some b:=by unfold rowS;simp
def qa{α:Type}(El:ElP α)(w:World)(base e k:Nat)(v:Value)(l:List α):Prop:=
 ∃vss:List (List Value),vss.length=l.length∧(∀vs ∈vss,vs.length=k)∧w.ownsRow base e k v l.length vss.flatten∧∀(i:Nat) (vs:List Value) (x:α),vss[i]? =some vs→l[i]? =some x→El (qt (rowS base v) w) vs x
section
variable{α:Type}{El:ElP α}{w w':World}{base e k:Nat}{v:Value}{l:List α}
theorem qa.nil(w:World):qa El w base e k (.slice none 0 0) ([]:List α):=⟨[],rfl,by simp,XQ _ _ _ _,fun _ _ _ h=>by simp at h⟩
theorem qa.keep(hM:Ql El)(h:qa El w base e k v l){N:Nat}(hg:w.grownBy w' (some N))(hN:N<base):qa El w' base e k v l:=by
 obtain⟨vss,h1,h2,h3,h4⟩:=h;refine⟨vss,h1,h2,h3.kept hg ?_,fun i vs x hi hx=>q0e hM (h4 i vs x hi hx) hg.size fun b hb hs=>⟨hs,hg.block b hb ?_⟩⟩
 ·rcases hv:v.ownBlock with _|g
  ·exact .inl rfl
  ·exact .inr (fun e=>by injection e with e;have:=(h3.lt g hv).1;omega)
 ·intro e;injection e with e;have:=(q1l.mp hs).1;omega
theorem qa.alloc(hM:Ql El)(h:qa El w base e k v l)(o:Obj):qa El (w.alloc o) base e k v l:=by
 obtain⟨vss,h1,h2,h3,h4⟩:=h;exact⟨vss,h1,h2,h3.alloc o,fun i vs x hi hx=>q0e hM (h4 i vs x hi hx) (by simp) fun b hb hs=>⟨hs,Below.heap_alloc w o b hb⟩⟩
theorem qa.snoc(hM:Ql El){vss:List (List Value)}(h1:vss.length=l.length)(h2:∀vs ∈vss,vs.length=k)(h3:w.ownsRow base e k v l.length vss.flatten)
  (h4:∀(i:Nat) (vs:List Value) (x:α),vss[i]? =some vs→l[i]? =some x→El (qt (rowS base v) w) vs x) {vs:List Value} {x:α} (hk:vs.length=k) {n:Nat} (hn:base≤n) (hv:∀g,v.ownBlock=some g→g<n)
  (hx:El (qt (fun b=>decide (b<n)) w) vs x) {g c:Nat} (hown:w'.ownsRow base e k (.slice (some ⟨g,0,none⟩) (l.length+1) c) (l.length+1) (vss.flatten++vs)) (hgrow:w.grownBy w' v.ownBlock) (hor:v.ownBlock=some g∨g=w.heap.size):
  qa El w' base e k (.slice (some ⟨g,0,none⟩) (l.length+1) c) (l++[x]):=by
 have hS:∀b,b<w.heap.size→rowS base v b=false→rowS base (.slice (some ⟨g,0,none⟩) (l.length+1) c) b=false∧w'.heap[b]? =w.heap[b]? :=fun b hb hs=>by
  obtain⟨s1,s2⟩:=q1l.mp hs;refine⟨q1l.mpr ⟨s1,fun e=> ?_⟩,hgrow.block b hb (fun e=>s2 e.symm)⟩;have e:g=b:=by simpa[Value.ownBlock]using e
  rcases hor with h|h
  ·exact s2 (by rw[h,e])
  ·omega
 refine⟨vss++[vs],by simp[h1],fun y hy=> ?_,by simpa using hown,fun i ys y hi hy=> ?_⟩
 ·rcases Xn.mp hy with h|h
  ·exact h2 y h
  ·simp at h;subst h;exact hk
 ·rcases Xk i l.length with hlt|hge
  ·rw[XN (by omega)]at hi hy;exact q0e hM (h4 i ys y hi hy) hgrow.size hS
  ·rw[XP (by omega)]at hi hy;have e1:i=l.length:=by
    rcases Xk i (l.length+1)with h|h
    ·omega
    ·rw[Xv (by simp;omega)]at hy;cases hy
   subst e1;simp[h1]at hi hy;subst hi hy;exact q0e hM hx hgrow.size fun b hb hs=>hS b hb (q1l.mpr ⟨by simp at hs;omega,fun e=>by have:=hv b e;simp at hs;omega⟩)
theorem qa.slice{At:AtP α}(hE:Vu El At k)(hM:Ql El)(hk:0<k)(h:qa El w base e k v l):
  ∃A c,v= .slice A l.length c∧ze At k (qt (fun b=>decide (b<base)) w) w.heap.size A c l:=by
 obtain⟨vss,h1,h2,h3,h4⟩:=h;rcases Zk h3 with⟨rfl,hn⟩|⟨g,c,rfl,hc,hm⟩
 ·have:l=[]:=X6 hn;subst this;exact⟨none,0,rfl,⟨zn _,by omega,qv.nil⟩⟩
 ·refine⟨_,c,rfl,⟨hc,hm,fun i x hx=> ?_⟩⟩;obtain⟨hb,hcell⟩:=YO h3;have hi:i<l.length:=by
   rcases Xk i l.length with h|h
   ·exact h
   ·rw[Xv h]at hx;cases hx
  have hvs:vss[i]? =some vss[i]:=Xc (by omega);have hl:=h2 _ (Xf (show i<vss.length by omega));have hel:=h4 i _ x hvs hx;have hcs:∀j u,vss[i][j]? =some u→w.cell? ((Addr.add ⟨g,0,none⟩ (i*k)).add j)=some u∧g<w.heap.size:=fun j u hu=>by
   have hj:j<k:=by
    rcases Xk j k with h|h
    ·exact h
    ·rw[Xv (by omega)]at hu;cases hu
   have:=hcell (i*k+j) u (by rw[q8t vss i j _ h2 hvs hj];exact hu);rw[Vz];have e:(Addr.add ⟨g,0,none⟩ (i*k+j))=⟨g,i*k+j,none⟩:=by
    unfold Addr.add;split
    ·rename_i h0;rw[h0]
    ·simp
   rw[e];exact this
  have hgw:g<w.heap.size:=by
   cases hv:vss[i]with
   |nil=>rw[hv]at hl;simp at hl;omega
   |cons a t=>exact(hcs 0 a (by rw[hv];rfl)).2
  refine⟨_,rfl,hgw,?_⟩;have hA:=hE (W:=qt (fun b=>decide (b<base)) w) (p:=Addr.add ⟨g,0,none⟩ (i*k)) (q0e hM hel (zn _) fun b hb' hs=>⟨by have:=(q1l.mp hs).1;simp;omega,rfl⟩) fun j u hu=>Jm.mpr ⟨by rw[zu,zu];simp;exact hb,(hcs j u hu).1⟩;rw[Zm]at hA;exact hA.2
end
theorem YP{P:Program}{t:TypeId}{k b:Nat}(h:(P.info? t).map (fun i=>(i.zero.map (fun z=>z.cells.size),i.size,i.bytes))=some (some k,k,b)):∃i z,P.info? t=some i∧i.zero=some z∧z.cells.size=k∧i.size=k∧i.bytes=b:=by
 cases hi:P.info? t with
 |none=>rw[hi]at h;simp at h
 |some i=>
  rw[hi]at h;simp only[Option.map_some,Option.some.injEq,Prod.mk.injEq]at h;cases hz:i.zero with
  |none=>rw[hz]at h;simp at h
  |some z=>rw[hz]at h;simp at h;exact⟨i,z,rfl,hz,h.1,h.2.1,h.2.2⟩
section
variable{α:Type}{At:AtP α}{k:Nat}{S:Nat→Bool}{wa w w1:World}{A:Option Addr}{cap:Nat}{l:List α}
theorem qL(hK:kN At)(h:ze At k (qt (old wa) w) w.heap.size A cap l){N:Nat}(hg:w.grownBy w1 (some N))(hN:N<wa.heap.size):ze At k (qt (old wa) w1) w1.heap.size A cap l:=
 h.hole hK hg.size fun b hb hs=>⟨hs,hg.block b hb (fun e=>by injection e with e;have:=kS.mp hs;omega)⟩
theorem zx(hK:kN At)(h:ze At k (qt (old wa) w) w.heap.size A cap l){a:Addr}(ha:a.block<wa.heap.size)(v:Value):ze At k (qt (old wa) (w.setCell a v)) (w.setCell a v).heap.size A cap l:=
 h.hole hK (by simp) fun b hb hs=>⟨hs,Below.heap_setCell w a v b (by have:=kS.mp hs;omega)⟩
theorem jM(hK:kN At){B:Nat}(h:ze At k (qt (old w) w1) B A cap l)(hz:wa.heap.size≤w.heap.size):ze At k (qt (old wa) w1) B A cap l:=
 h.hole hK (zn _) fun b hb hs=>⟨kS.mpr (Xd hz (kS.mp hs)),rfl⟩
end
theorem vN{n:Nat}{w:World}(h:n≤w.heap.size)(a:Addr)(v:Value):n≤(w.setCell a v).heap.size:=by simpa using h
theorem YY(a:Addr)(i:Nat)(hi:0<i):a.add i=zf a i:=by unfold Addr.add;split<;>simp_all
def ko(z:zh×qx):List Value:=qb z.2 z.1
def kj(zs:List (zh×qx)):List Value:=zs.flatMap ko
theorem qsm(l:List (zh×qx)):(kj l).length=l.length*8:=q2d (f:=ko) (k:=8) (fun _=>rfl) l
theorem qsl(l:List (zh×qx)):∀u ∈kj l,u.oneCell'=true:=fun u hu=>by
 obtain⟨t,_,h⟩:=List.mem_flatMap.mp hu;simp[ko]at h;rcases h with rfl|rfl|rfl|rfl|rfl|rfl|rfl|rfl<;>rfl
theorem qd7{zs:List (zh×qx)}{i r:Nat}{z:zh×qx}(h:zs[i]? =some z)(hr:r<8):(kj zs)[i*8+r]? =(ko z)[r]? :=Zo (f:=ko) (k:=8) (fun _=>rfl) zs i r z h hr
theorem qac{Q:Nat→zh→qx→Prop}:∀(l:List zh) (k:Nat),(∀i x,l[i]? =some x→∃y,Q (k+i) x y)→∃zs:List (zh×qx),zs.map (·.1)=l∧∀i z,zs[i]? =some z→Q (k+i) z.1 z.2
 | [],k,_=>⟨[],rfl,fun i z h=>by simp at h⟩
 |a::l,k,h=>by
  obtain⟨y,hy⟩:=h 0 a rfl;obtain⟨zs,e,hz⟩:=qac (Q:=Q) l (k+1) fun i x hi=>by
   have:=h (i+1) x (by simpa using hi)
   rwa [show k+1+i=k+(i+1)by omega]
  refine⟨(a,y)::zs,by simp[e],fun i z hi=> ?_⟩
  match i,hi with
  |0,hi=>simp at hi;subst hi;exact hy
  |i+1,hi=>
   have:=hz i z (by simpa using hi)
   rwa [show k+(i+1)=k+1+i by omega]
theorem qux{w:World}{B:Nat}{A:Option Addr}{l:List zh}(h:qv qC 8 w B A l):∃zs:List (zh×qx),zs.map (·.1)=l∧zq w B A (kj zs)∧∀z ∈zs,jt w B z.2 z.1:=by
 obtain⟨zs,e,hz⟩:=qac (Q:=fun i (x:zh) (y:qx)=>jt w B y x∧∃ad,A=some ad∧ad.block<B∧Vt w (ad.add (i*8)) y x) l 0 (fun i x hi=>by
  obtain⟨ad,e,hb,hm⟩:=h i x hi;obtain⟨hx,h1,h2⟩:=qd8 hm;exact⟨hx,h1,ad,e,hb,by rw[Nat.zero_add];exact h2⟩)
 refine⟨zs,e,fun j u hu=> ?_,fun z hz'=> ?_⟩
 ·obtain⟨i,r,t,rfl,hr,hi,hv⟩:=q72 (f:=ko) (k:=8) (by decide) (fun _=>rfl) zs j u hu;obtain⟨_,ad,e,hb,hc⟩:=hz i t hi;rw[Nat.zero_add]at hc;refine⟨ad,e,hb,?_⟩;rw[←Vz]
  match r,hr,hv with
  |0,_,hv=>simp[ko]at hv;subst hv;rw[show(ad.add (i*8)).add 0=ad.add (i*8)by simp[Addr.add]];exact hc.c0
  |1,_,hv=>simp[ko]at hv;subst hv;rw[YY _ 1 (by decide)];exact hc.c1
  |2,_,hv=>simp[ko]at hv;subst hv;rw[YY _ 2 (by decide)];exact hc.c2
  |3,_,hv=>simp[ko]at hv;subst hv;rw[YY _ 3 (by decide)];exact hc.c3
  |4,_,hv=>simp[ko]at hv;subst hv;rw[YY _ 4 (by decide)];exact hc.c4
  |5,_,hv=>simp[ko]at hv;subst hv;rw[YY _ 5 (by decide)];exact hc.c5
  |6,_,hv=>simp[ko]at hv;subst hv;rw[YY _ 6 (by decide)];exact hc.c6
  |7,_,hv=>simp[ko]at hv;subst hv;rw[YY _ 7 (by decide)];exact hc.c7
 ·obtain⟨i,hi⟩:=List.getElem?_of_mem hz';exact(hz i z hi).1
theorem qsb{w:World}{B e n g c:Nat}{zs:List (zh×qx)}(h:w.ownsRow B e 8 (.slice (some ⟨g,0,none⟩) n c) n (kj zs))(hn:zs.length=n)(hg:∀z ∈zs,jt w w.heap.size z.2 z.1):ze qC 8 w w.heap.size (some ⟨g,0,none⟩) c (zs.map (·.1)):=by
 rcases Zk h with⟨hv,_⟩|⟨g',c',hv,h1,h2⟩
 ·cases hv
 ·injection hv with e1 e2 e3;injection e1 with e1;injection e1 with e1;subst e1 e3;obtain⟨hb,hc⟩:=YO h;refine⟨by simpa[hn]using h1,h2,fun i x hi=> ?_⟩;rw[XB]at hi;cases hz:zs[i]? with
  |none=>rw[hz]at hi;cases hi
  |some z=>
   rw[hz]at hi;simp at hi;subst hi;have hq:=hg z (Xs hz);have cell:∀(r:Nat) (u:Value),r<8→(ko z)[r]? =some u→w.cell? ⟨g,i*8+r,none⟩=some u∧g<w.heap.size:=fun r u hr hu=>hc _ u (by rw[qd7 hz hr];exact hu);have e0:Addr.add ⟨g,0,none⟩ (i*8)=⟨g,i*8,none⟩:=by unfold Addr.add;split<;>simp_all
   refine⟨_,rfl,(cell 0 _ (by decide) rfl).2,?_⟩;rw[e0];exact⟨⟨_,_,(cell 0 _ (by decide) rfl).1,hq.args⟩,⟨_,_,(cell 1 _ (by decide) rfl).1,hq.locals⟩,(cell 2 _ (by decide) rfl).1,(cell 3 _ (by decide) rfl).1,⟨_,_,(cell 4 _ (by decide) rfl).1,hq.code⟩,(cell 5 _ (by decide) rfl).1,(cell 6 _ (by decide) rfl).1,⟨_,_,(cell 7 _ (by decide) rfl).1,hq.phi⟩⟩
def jr(n:Int):Bool:=decide (n> -4611686018427387904)&& decide (n<4611686018427387904)
theorem JX{n:Int}:jr n=true↔ -4611686018427387904<n∧n<4611686018427387904:=by
 unfold jr;rw[Xr,Xt,Xt]
def Jw(a b:Int):Option Int:=if jr a=true∧jr b=true∧jr (a*b)=true then some (a*b)else none
def Vn(a b:Int):Option Int:=if jr a=true∧jr b=true∧jr (a+b)=true then some (a+b)else none
def ZJ(s:Int):List (Int×Int)→Option Int
 | []=>some s
 |p::l=>match Jw p.1 p.2 with
  |none=>none
  |some x=>match Vn s x with
   |none=>none
   |some y=>ZJ y l
def Vr(a b:List Int):Option Int:=ZJ 0 (a.zip b)
theorem qth{s:Int}{p:Int×Int}{l:List (Int×Int)}(h:Jw p.1 p.2=none):ZJ s (p::l)=none:=by unfold ZJ;rw[h]
theorem qtg{s x:Int}{p:Int×Int}{l:List (Int×Int)}(h:Jw p.1 p.2=some x)(g:Vn s x=none):ZJ s (p::l)=none:=by unfold ZJ;rw[h];dsimp only;rw[g]
theorem qdq{s x y:Int}{p:Int×Int}{l:List (Int×Int)}(h:Jw p.1 p.2=some x)(g:Vn s x=some y):ZJ s (p::l)=ZJ y l:=by
 conv=>lhs;unfold ZJ
 rw[h];dsimp only;rw[g]
abbrev Inq:=List Int×Int
def q1t:AtP Inq:=fun w B p q=>zI zl 1 w B p q.1∧w.cell? (zf p 1)=some (.int .i64 q.2)
theorem q1t.keeps:vm q1t:=fun _ _ _ _ p _ h hp hC hc=>⟨zI.keeps zl.keeps 1 h.1 hp hC hc,(hc (zf p 1) hp).trans h.2⟩
abbrev inqV(q:Inq)(A:Option Addr)(c:Nat):Value:= .agg #[.slice A q.1.length c,.int .i64 q.2]
def ZN(q:Inq)(at_:List Int):Option Bool:=if q.1.length=at_.length then(Vr q.1 at_).map (fun n=>decide (n≤q.2))else none
def q1u(r:Option Bool)(w:World)(e:Ending)(w':World):Prop:=e= .returned (.tuple #[.bool (r.getD false),.int .i64 (if r.isSome then 0 else 14)])∧Below w.heap.size w w'
theorem qko(w:World)(b i:Nat)(v:Value):w.grownBy (w.setCell ⟨b,i,none⟩ v) (some b):=⟨rfl,rfl,rfl,by simp,fun k _ hk=>Below.heap_setCell _ _ _ k (fun e=>hk (by rw[e]))⟩
theorem q8z{w w':World}{g N:Nat}{vs:List Value}{T:TypeId}(h:zd w g vs T)(hg:w.grownBy w' (some N))(hne:g≠N):zd w' g vs T:=(hg.block g (zd.lt h) (fun e=>hne (by injection e))).trans h
def atI(L:List Int)(i:Int):Int:=if i<0 then 0 else L[i.toNat]?.getD 0
theorem qvj(L:List Int)(k:Nat):atI L (k:Int)=oN L k:=by unfold atI oN;rw[Xa (by omega),Xi]
def vc(L:List Int)(i b:Int):List Int:=if 0≤i∧i<L.length then L.set i.toNat (oN L i.toNat+b)else L
theorem q3k(L:List Int)(i b:Int):(vc L i b).length=L.length:=by unfold vc;split<;>simp
theorem qew{L:List Int}{i b:Int}{v:Nat}(h:v<L.length):oN (vc L i b) v=oN L v+(if(v:Int)=i then b else 0):=by
 unfold vc;by_cases h0:0≤i∧i<L.length
 ·rw[Xb h0,Yd (by omega)];by_cases e:(v:Int)=i
  ·rw[Xb (by omega),Xb e];subst e;rw[Xi]
  ·rw[Xa (by omega),Xa e,Int.add_zero]
 ·rw[Xa h0,Xa (by omega),Int.add_zero]
set_option maxHeartbeats 1600000 in
theorem qs8(L:List Int)(n g:Nat)(i b:Int)(w:World)(hn:L.length=n)(h:qg w g L)(hl:n≤1000)(hs:∀x ∈L,-1000≤x∧x≤1000)(hb: -1000≤b∧b≤1000):
  Calls Tryz.prog 146 #[.slice (some ⟨g,0,none⟩) n n,.int .i64 i,.int .i64 b] w fun e w'=>e= .returned (.tuple #[])∧qg w' g (vc L i b)∧w.grownBy w' (some g):=by
 by_cases h0:i<0
 ·have e:vc L i b=L:=by unfold vc;rw[Xa (by omega)]
  rw[e];have H:=zH h;have hi2:¬0≤i:=by omega
  clear h e;go_enter Tryz.func146,Tryz.ntmps146;go_wp2_with fail
  go_end0
  exact⟨rfl,H.out,World.grownBy.refl _ _⟩
 ·obtain⟨k,rfl⟩:=Xq (show 0≤i by omega);by_cases h1:k<n
  ·have hk:k<L.length:=by omega
   have hc:=h.at_ hk;have hf:=zd.free h k;have e:vc L (k:Int) b=L.set k (oN L k+b):=by unfold vc;rw[Xb ⟨by omega,by omega⟩,Xi]
   rw[e];have hx:=hs _ (Xf hk);rw[←ZA hk]at hx;have HI:=zH (IntWalk.i64_in (oN L k+b) ⟨by omega,by omega⟩);have H:=zH (h.set (t:=k) (oN L k+b));generalize oN L k=x at*
   have hkj:(k:Int)<(n:Int):=by omega
   have hH:=HI.out;clear h e hs hb;go_enter Tryz.func146,Tryz.ntmps146;go_wp2_with fail
   go_end0
   exact⟨rfl,H.out,qko _ _ _ _⟩
  ·have e:vc L (k:Int) b=L:=by unfold vc;rw[Xa (by omega)]
   rw[e];have H:=zH h;have hkj:¬(k:Int)<(n:Int):=by omega
   clear h e;go_enter Tryz.func146,Tryz.ntmps146;go_wp2_with fail
   go_end0
   exact⟨rfl,H.out,World.grownBy.refl _ _⟩
theorem qeh{L L':List Int}{n g:Nat}{i b:Int}{w:World}(hn:Hid (L.length=n))(h:Hid (qg w g L))(hl:Hid (n≤1000))(hs:Hid (∀x ∈L,-1000≤x∧x≤1000))(hb:Hid (-1000≤b∧b≤1000))(hr:Hid (vc L i b=L')):
  Calls Tryz.prog 146 #[.slice (some ⟨g,0,none⟩) n n,.int .i64 i,.int .i64 b] w fun e w'=>e= .returned (.tuple #[])∧qg w' g L'∧w.grownBy w' (some g):=by
 have H:=qs8 L n g i b w hn.out h.out hl.out hs.out hb.out;rw[hr.out]at H;exact H
def upW(O:List Int)(t:Int×Int×Int):Int:=if atI O t.2.1+t.2.2>oN O t.1.toNat then atI O t.2.1+t.2.2 else oN O t.1.toNat
def q1w(O:List Int)(t:Int×Int×Int):List Int:=O.set t.1.toNat (upW O t)
structure q7m(l:List (Int×Int×Int))(n:Nat):Prop where
 src:∀t ∈l,0≤t.1∧t.1<n
 cost:∀t ∈l,0≤t.2.2∧t.2.2≤1000001
 none:∀t ∈l,t.2.1<0→t.2.2=0
structure Yh(l:List (Int×Int×Int))(n:Nat)(O:List Int)(K:Nat):Prop where
 len:O.length=n
 low:∀p,0≤oN O p
 top:∀p,oN O p≤(K:Int)*1000001
 want:∀p:Nat,oN O p≠0→∃(q:Nat) (c:Int),((p:Int),(q:Int),c) ∈l∧(q≠p∨0<c)∧oN O p≤oN O q+c
theorem q6x(n p:Nat):oN (List.replicate n 0) p=0:=by
 unfold oN;rw[Wm];split<;>rfl
section
variable{l:List (Int×Int×Int)}{n K:Nat}{O:List Int}
theorem Yh.start(l:List (Int×Int×Int))(n:Nat):Yh l n (List.replicate n 0) 0:=
 ⟨Wj ..,fun p=>by rw[q6x];exact XE _,fun p=>by rw[q6x];omega,fun p h=>absurd (q6x n p) h⟩
theorem Yh.more(h:Yh l n O K){M:Nat}(hM:K≤M):Yh l n O M:=⟨h.len,h.low,fun p=>by have:=h.top p;omega,h.want⟩
theorem Yh.step(h:Yh l n O K)(hl:q7m l n){t:Int×Int×Int}(ht:t ∈l):Yh l n (q1w O t) (K+1):=by
 obtain⟨a,b,c⟩:=t;obtain⟨h1,h2⟩:=hl.src _ ht;obtain⟨h3,h4⟩:=hl.cost _ ht;have h5:=hl.none _ ht;dsimp only at h1 h2 h3 h4 h5;obtain⟨p,rfl⟩:=Xq h1;have hp:p<O.length:=by rw[h.len];omega
 by_cases hu:atI O b+c>oN O p;rotate_left
 ·have e:q1w O ((p:Int),b,c)=O:=by
   unfold q1w upW;dsimp only;rw[Xi,Xa hu,ZA hp,List.set_getElem_self]
  rw[e];exact h.more (by omega)
 have e:q1w O ((p:Int),b,c)=O.set p (atI O b+c):=by
  unfold q1w upW;dsimp only;rw[Xi,Xb hu]
 have hb:¬b<0:=fun hb=>by
  have:=h5 hb;have e2:atI O b=0:=by unfold atI;rw[Xb hb]
  have:=h.low p;omega
 obtain⟨q,rfl⟩:=Xq (show 0≤b by omega);rw[e];rw[qvj]at hu⊢
 obtain⟨v,hv⟩:∃v,oN O q+c=v:=⟨_,rfl⟩
 rw[hv]at hu⊢
 have hq:=h.low q;have hqt:=h.top q;have hat:∀x,oN (O.set p v) x=if x=p then v else oN O x:=fun x=>Yd hp
 have hup:∀x,oN O x≤oN (O.set p v) x:=fun x=>by
  rw[hat];split
  ·rename_i e;subst e;omega
  ·exact XE _
 refine⟨by rw[XI];exact h.len,fun x=>by have:=hup x;have:=h.low x;omega,fun x=> ?_,fun x hx=> ?_⟩
 ·rw[hat];split
  ·omega
  ·have:=h.top x;omega
 ·by_cases ex:x=p
  ·subst ex;refine⟨q,c,ht,?_,?_⟩
   ·by_cases eq:q=x
    ·subst eq;right;omega
    ·exact .inl eq
   ·have:=hup q;rw[hat x,Xb rfl];omega
  ·rw[hat x,Xa ex]at hx⊢
   obtain⟨q',c',g1,g2,g3⟩:=h.want x hx;exact⟨q',c',g1,g2,by have:=hup q';omega⟩
end
def Qo:List Int→List Int→Int
 |a::l,b::m=>a*b+Qo l m
 | [],_=>0
 |_::_,[]=>0
theorem qfm(a:List Int):Qo a []=0:=by cases a<;>rfl
theorem q01{n:Int}(h:n.natAbs<4611686018427387904):jr n=true:=JX.mpr ⟨by omega,by omega⟩
theorem q80(P Q:Nat)(hP:P<4611686018427387904)(hQ:Q<4611686018427387904)(hPQ:P*Q<4611686018427387904):∀(a b:List Int) (s:Int),(∀x ∈a,x.natAbs≤P)→(∀y ∈b,y.natAbs≤Q)→s.natAbs+a.length*(P*Q)<4611686018427387904→
  ZJ s (a.zip b)=some (s+Qo a b)
 | [],b,s,_,_,_=>by simp[ZJ,Qo]
 |a::l,[],s,_,_,_=>by simp[ZJ,Qo]
 |a::l,b::m,s,ha,hb,hs=>by
  have h1:=ha a (by simp);have h2:=hb b (by simp);have h3:(a*b).natAbs≤P*Q:=by rw[Int.natAbs_mul];exact Nat.mul_le_mul h1 h2
  have h4:(s+a*b).natAbs≤s.natAbs+P*Q:=Xd (Int.natAbs_add_le _ _) (Nat.add_le_add_left h3 _);have h5:(l.length+1)*(P*Q)=l.length*(P*Q)+P*Q:=Nat.succ_mul _ _;rw[XJ,h5]at hs;have ht:Jw a b=some (a*b):=Xb ⟨q01 (by omega),q01 (by omega),q01 (by omega)⟩;have hp:Vn s (a*b)=some (s+a*b):=Xb ⟨q01 (by omega),q01 (by omega),q01 (by omega)⟩;rw[List.zip_cons_cons,qdq (p:=(a,b)) ht hp,q80 P Q hP hQ hPQ l m (s+a*b) (fun x hx=>ha x (by simp[hx])) (fun x hx=>hb x (by simp[hx])) (by omega)];show some (s+a*b+Qo l m)=some (s+(a*b+Qo l m));rw[Int.add_assoc]
theorem qlm{P Q:Nat}(hP:P<4611686018427387904)(hQ:Q<4611686018427387904)(hPQ:P*Q<4611686018427387904){a b:List Int}(ha:∀x ∈a,x.natAbs≤P)(hb:∀y ∈b,y.natAbs≤Q)(h:a.length*(P*Q)<4611686018427387904):Vr a b=some (Qo a b):=by
 have:=q80 P Q hP hQ hPQ a b 0 ha hb (by simpa using h);rw[Int.zero_add]at this;exact this
def ofO(n:Int):Option Int:=if jr n=true then some n else none
def QO:Option Int→Option Int→Option Int
 |some a,some b=>ofO (a+b)
 |_,_=>none
def ZF:Option Int→Option Int→Option Int
 |some a,some b=>ofO (a*b)
 |_,_=>none
def vn(r:Option Int):Prop:=∀n,r=some n→jr n=true
theorem q3e(n:Int):vn (ofO n):=fun k e=>by
 unfold ofO at e;split at e
 ·injection e with e;subst e;assumption
 ·cases e
theorem qcc(a b:Option Int):vn (QO a b):=by
 cases a with
 |none=>intro k e;cases e
 |some x=>cases b with
  |none=>intro k e;cases e
  |some y=>exact q3e _
theorem qbk(a b:Option Int):vn (ZF a b):=by
 cases a with
 |none=>intro k e;cases e
 |some x=>cases b with
  |none=>intro k e;cases e
  |some y=>exact q3e _
theorem qpn:vn (some 0):=fun n e=>by injection e with e;subst e;rfl
theorem qbj(a b:Int):ZF (ofO a) (ofO b)=Jw a b:=by
 unfold Jw ofO;cases ha:jr a with
 |false=>cases hb:jr b with
  |false=>simp[ZF]
  |true=>simp[ZF]
 |true=>cases hb:jr b with
  |false=>simp[ZF]
  |true=>cases hc:jr (a*b)with
   |false=>simp[ZF,ofO,hc]
   |true=>simp[ZF,ofO,hc]
theorem q93{a b n:Int}(h:Jw a b=some n):jr n=true:=by
 rw[←qbj]at h;exact qbk _ _ n h
theorem qe3{a b:Int}(ha:jr a=true)(hb:jr b=true):QO (some a) (some b)=Vn a b:=by
 unfold Vn;cases hc:jr (a+b)with
 |false=>simp[QO,ofO,hc]
 |true=>simp[QO,ofO,hc,ha,hb]
def q1x(s:Option Int)(p:Int×Int):Option Int:=QO s (ZF (ofO p.1) (ofO p.2))
theorem qio(s:Option Int)(p:Int×Int):vn (q1x s p):=qcc _ _
def q0k(s:Option Int)(l:List (Int×Int)):Option Int:=l.foldl q1x s
theorem q54:∀l:List (Int×Int),q0k none l=none
 | []=>rfl
 |p::l=>q54 l
theorem qc0:∀(l:List (Int×Int)) (s:Int),jr s=true→q0k (some s) l=ZJ s l
 | [],s,h=>rfl
 |p::l,s,h=>by
  show q0k (q1x (some s) p) l=_;unfold q1x;rw[qbj];cases hx:Jw p.1 p.2 with
  |none=>rw[qth hx];exact q54 l
  |some x=>
   rw[qe3 h (q93 hx)];cases hy:Vn s x with
   |none=>rw[qtg hx hy];exact q54 l
   |some y=>
    rw[qdq hx hy];have hf:jr y=true:=by
     rw[←qe3 h (q93 hx)]at hy;exact qcc _ _ y hy
    exact qc0 l y hf
def ZR(L M:List Int)(i:Nat):Option Int:=q0k (some 0) ((L.zip M).take i)
theorem qa1:∀(l:List (Int×Int)) (s:Option Int),vn s→vn (q0k s l)
 | [],s,h=>h
 |p::l,s,h=>qa1 l (q1x s p) (qio s p)
theorem qju(L M:List Int)(i:Nat):vn (ZR L M i):=qa1 _ _ qpn
theorem qjt{L M:List Int}{i:Nat}{x y:Int}(h1:L[i]? =some x)(h2:M[i]? =some y):ZR L M (i+1)=QO (ZR L M i) (ZF (ofO x) (ofO y)):=by
 have hz:(L.zip M)[i]? =some (x,y):=by rw[List.getElem?_zip_eq_some];exact⟨h1,h2⟩
 unfold ZR;rw[XH,hz];unfold q0k;rw[Wn];rfl
theorem qob{L M:List Int}{n:Nat}(h:(L.zip M).length≤n):ZR L M n=Vr L M:=by
 unfold ZR;rw[XK h,qc0 _ _ rfl];rfl
theorem qci{x y n:Int}(hx:jr x=true)(hy:jr y=true)(h0:y≠0)(hn:IntKind.i64.wrap (x*y)=n):(-9223372036854775808≤Int.tdiv n y∧Int.tdiv n y<9223372036854775808)∧(Int.tdiv n y=x→n=x*y):=by
 have⟨x1,x2⟩:=JX.mp hx;have⟨y1,y2⟩:=JX.mp hy;have hr: -9223372036854775808≤n∧n<9223372036854775808∧∃k:Int,n=x*y+k*18446744073709551616:=by
  rw[IntKind.wrap_i64]at hn;refine⟨by omega,by omega,?_⟩;refine⟨(n - x*y) / 18446744073709551616,?_⟩;omega
 obtain⟨n1,n2,k,hk⟩:=hr;have hd:=Int.mul_tdiv_add_tmod n y;have hm1:(Int.tmod n y).natAbs<y.natAbs:=by
  rw[Int.natAbs_tmod];exact Nat.mod_lt _ (Int.natAbs_pos.mpr h0)
 have hq:(Int.tdiv n y).natAbs=n.natAbs / y.natAbs:=by rw[Int.natAbs_tdiv];rfl
 have hback:Int.tdiv n y=x→n=x*y:=fun e=>by
  rw[e,Int.mul_comm y x]at hd;have:k*18446744073709551616=Int.tmod n y:=by omega
  have hk0:k=0:=by omega
  rw[hk0]at hk;omega
 refine⟨?_,hback⟩;by_cases e1:y= -1
 ·subst e1;have hxy:x* -1= -x:=by omega
  have hnx:n= -x:=by
   rw[hxy]at hn;rw[←hn];exact IntWalk.i64_in _ (by omega)
  rw[hnx,show((-1:Int))= -(1:Int)by rfl,Int.tdiv_neg,Int.tdiv_one];omega
 ·have hle:n.natAbs / y.natAbs≤n.natAbs:=Nat.div_le_self _ _;by_cases e2:y=1
  ·subst e2;rw[Int.tdiv_one];omega
  ·have h2:2≤y.natAbs:=by omega
   have:n.natAbs / y.natAbs≤n.natAbs / 2:=Nat.div_le_div_left h2 (by decide);omega
theorem qsk{x y n:Int}(hx:jr x=true)(hy:jr y=true)(h0:y≠0)(hn:IntKind.i64.wrap (x*y)=n):(Int.tdiv n y≠x→jr (x*y)=false)∧(Int.tdiv n y=x→n=x*y):=by
 have⟨_,hb⟩:=qci hx hy h0 hn;refine⟨fun h=> ?_,hb⟩;cases hf:jr (x*y)with
 |false=>rfl
 |true=>
  have⟨a,b⟩:=JX.mp hf;exfalso;apply h;rw[←hn,IntWalk.i64_in _ (by omega)];exact Int.mul_tdiv_cancel x h0
def numC(r:Option Int):List Value:=[.int .i64 (r.getD 0),.bool r.isNone]
abbrev jq(r:Option Int):Value:= .agg #[.int .i64 (r.getD 0),.bool r.isNone]
theorem qol{w:World}{g:Nat}{s r:Option Int}{T:TypeId}(h:zd w g (numC s) T):zd ((w.setCell ⟨g,0,none⟩ (.int .i64 (r.getD 0))).setCell ⟨g,1,none⟩ (.bool r.isNone)) g (numC r) T:=(h.set 0 _).set 1 _
theorem zd.drew'{w:World}{g:Nat}{vs:List Value}{T:TypeId}(h:zd w g vs T):zd w.drew g vs T:=h
def zy(n:Nat):List Int:=if h:n<128 then [(n:Int)]else(128+(n:Int) % 128)::zy (n / 128)
termination_by n
decreasing_by omega
theorem Vv{n:Nat}(h:n<128):zy n=[(n:Int)]:=by rw[zy,dif_pos h]
theorem q0p{n:Nat}(h:128≤n):zy n=(128+(n:Int) % 128)::zy (n / 128):=by rw[zy,dif_neg (by omega)]
theorem q2f(k:Nat):∀n,n<128 ^ (k+1)→(zy n).length≤k+1:=by
 induction k with
 |zero=>intro n h;rw[Vv (by simpa using h)];simp
 |succ k ih=>
  intro n h;by_cases hs:n<128
  ·rw[Vv hs];simp
  ·rw[q0p (by omega)];have:=ih (n / 128) (by rw[Nat.div_lt_iff_lt_mul (by decide)];rwa [Nat.pow_succ]at h);simp;omega
theorem qF{n:Nat}(h:n≤9223372036854775807):(zy n).length≤9:=q2f 8 n (by omega)
theorem kp(n:Nat):0<(zy n).length:=by
 rw[zy];split<;>simp
theorem vE(n:Nat):∀b ∈zy n,0≤b∧b≤255:=by
 induction n using Nat.strongRecOn with
 |ind n ih=>
  by_cases hs:n<128
  ·rw[Vv hs];intro b hb;simp at hb;omega
  ·rw[q0p (by omega)];intro b hb;rcases XA.mp hb with rfl|hb
   ·omega
   ·exact ih (n / 128) (by omega) b hb
theorem q08:(Tryz.prog.info? 5).map (fun i=>(i.zero,i.size,i.bytes))=some (some (.int .u8 0),1,1):=by kernel_rfl
def q04(l:List Int)(w:World)(e:Ending)(w':World):Prop:=
 ∃v,e= .returned v∧w'.ownsRow w.heap.size 5 1 v l.length (l.map (Value.int .u8))∧Below w.heap.size w w'
theorem qd3{B:Nat}{w w1:World}{e:TypeId}{v v':Value}{pre:List Int}{b:Int}{o:Obj}{wr:World}
  (hown:wr.ownsRow B e 1 v pre.length (pre.map (Value.int .u8))) (hB:B≤wr.heap.size) (hnx:Below B w wr)
  (hown':w1.ownsRow B e 1 v' (pre.length+1) (pre.map (Value.int .u8)++[.int .u8 b])) (hgrow:(wr.alloc o).grownBy w1 v.ownBlock):
  w1.ownsRow B e 1 v' (pre++[b]).length ((pre++[b]).map (Value.int .u8))∧Below B w w1:=
 ⟨by simpa using hown',(hnx.alloc hB o).grown hgrow (by simp;omega) (fun j hj=>(hown.lt j hj).1)⟩
set_option maxRecDepth 1000000 in
set_option maxHeartbeats 1600000 in
theorem vq(n:Int)(h1:n≤9223372036854775807)(w:World):Calls Tryz.prog 37 #[.int .i64 n] w (q04 (zy n.toNat) w):=by
 obtain⟨i0,hi,hz0,hz1,hz2⟩:=info_parts q08;by_cases hn:n<0;all_goals
  have L:=qF (n:=n.toNat) (by omega);go_enter Tryz.func37,Tryz.ntmps37;go_wp2
  go_loopw [0,3] (fun a v wr=>∃(m:Nat) (pre:List Int),a= .int .i64 m∧(m:Int)≤9223372036854775807∧pre++zy m=zy n.toNat∧
    wr.ownsRow w.heap.size 5 1 v pre.length (pre.map (Value.int .u8))∧Below w.heap.size w wr) (fun a _ _=>(intOf a).toNat)
  case atStart=>
   refine⟨n.toNat,[],?_,by omega,rfl,⟨rfl,.inr ⟨w.heap.size,0,#[],rfl,zn _,Xw _ _,zn _,by unfold maxLen;omega,rfl,rfl⟩⟩,(zb _ _).alloc (zn _) _⟩;first|(show Value.int .i64 0=_;congr 1;omega)|(show Value.int .i64 n=_;congr 1;omega)
  case round=>
   obtain⟨m,pre,rfl,hm,hpre,hown,hnx⟩:=hrel;have HP:=zH hpre;have hlen:pre.length+(zy m).length≤9:=by rw[←Xe,hpre];exact L
   have hpos:=kp m;clear hpre;by_cases hlt:128≤m
   ·have G:=zH (q0p hlt);go_wp2_with(at_builtin;refine wpList_append_own _ rfl _ _ 40 rfl w.heap.size 5 i0 (.int .u8 0) 1 1 Tryz.underlying40 hi hz0 hz1 hz2 rfl (by decide) _ _ _ rfl (hown.alloc _) ⟨_,0,none⟩ 1 1 [.int .u8 (128+(m:Int) % 128)] rfl rfl ?c1 ?c2 ?c3 ?c4 ?c5 ?_)
    case c1=>
     intro j u hj
     match j,hj with
     |0,hj=>simp at hj;subst hj;simp[Addr.add]
    case c2=>intro u hu;simp at hu;subst hu;rfl
    case c3=>unfold maxLen;omega
    case c4=>omega
    case c5=>have:=hnx.size;simp;omega
    intro v' w1 hown' hgrow _;have R:=qd3 hown hnx.size hnx hown' hgrow;clear hown' hgrow hown;go_wp2
    go_roundw;case rel=>exact⟨m / 128,pre++[128+(m:Int) % 128],by simp,by omega,by rw[←HP.out,G.out];simp,R.1,R.2⟩
    case measure=>simp[intOf];omega
   ·have G:=zH (Vv (n:=m) (by omega));go_wp2_with(at_builtin;refine wpList_append_own _ rfl _ _ 40 rfl w.heap.size 5 i0 (.int .u8 0) 1 1 Tryz.underlying40 hi hz0 hz1 hz2 rfl (by decide) _ _ _ rfl (hown.alloc _) ⟨_,0,none⟩ 1 1 [.int .u8 (m:Int)] rfl rfl ?d1 ?d2 ?d3 ?d4 ?d5 ?_)
    case d1=>
     intro j u hj
     match j,hj with
     |0,hj=>simp at hj;subst hj;simp[Addr.add]
    case d2=>intro u hu;simp at hu;subst hu;rfl
    case d3=>unfold maxLen;omega
    case d4=>omega
    case d5=>have:=hnx.size;simp;omega
    intro v' w1 hown' hgrow _;have R:=qd3 hown hnx.size hnx hown' hgrow;clear hown' hgrow hown;go_wp2
    go_ret;refine⟨v',rfl,?_,R.2⟩;rw[←HP.out,G.out];exact R.1
def qE(t:Int×Int):List Int:=if t.1=3 then zy 3++zy t.2.toNat else zy t.1.toNat
def jo(l:List (Int×Int)):List Int:=zy l.length++l.flatMap qE
abbrev qV(n:Int):List Int:=zy n.toNat
def jG(l:List Int):List Int:=zy l.length++l.flatMap qV
theorem q1i{t:Int×Int}(h0:t.1≤9223372036854775807)(h1:t.2≤9223372036854775807):(qE t).length≤18:=by
 have l0:=qF (n:=t.1.toNat) (by omega);have l1:=qF (n:=t.2.toNat) (by omega);have l3:=qF (n:=3) (by omega);unfold qE;split
 ·rw[Xe];omega
 ·omega
theorem VQ{α:Type}{l:List α}{k:Nat}(f:α→List Int)(h:k<l.length):(l.take (k+1)).flatMap f=(l.take k).flatMap f++f l[k]:=by
 rw[XH,Xc h];simp only[Option.toList,Wd,List.flatMap_cons,List.flatMap_nil,List.append_nil]
theorem vU{α:Type}{f:α→List Int}{c:Nat}:∀l:List α,(∀x ∈l,(f x).length≤c)→(l.flatMap f).length≤c*l.length
 | [],_=>by simp
 |x::r,h=>by
  have h1:=h x XD;have h2:=vU r fun y hy=>h y (XF _ hy);rw[List.flatMap_cons,Xe,XJ,Nat.mul_add];omega
theorem q2s{w w1:World}{x y:Value}{T:TypeId}(hb:Below (w.alloc (.cells #[x,y] T)).heap.size (w.alloc (.cells #[x,y] T)) w1):
  w1.cell? ⟨w.heap.size,0,none⟩=some x∧w1.cell? ⟨w.heap.size,1,none⟩=some y:=by
 have hs:w.heap.size<(w.alloc (.cells #[x,y] T)).heap.size:=by simp
 refine⟨(hb.cell hs).trans ?_,(hb.cell hs).trans ?_⟩<;>(rw[World.cell?_alloc_at _ _ _ _ rfl];rfl)
theorem q8l{n:Int}{w0 w:World}(h1:n≤9223372036854775807)(HB:Hid (Below w0.heap.size w0 w)):
  Calls Tryz.prog 37 #[.int .i64 n] w fun e w'=>∃A c,e= .returned (.slice A (zy n.toNat).length c)∧(A=none→c=0)∧zq w' w'.heap.size A ((zy n.toNat).map (Value.int .u8))∧
   w'.ownsRow w0.heap.size 5 1 (.slice A (zy n.toNat).length c) (zy n.toNat).length ((zy n.toNat).map (Value.int .u8))∧Below w.heap.size w w':=by
 refine(vq n h1 w).mono ?_;rintro e w' ⟨v,rfl,ho,hb⟩;obtain⟨A,c,rfl,hL,hA⟩:=ZH ho;exact⟨A,c,rfl,hA,hL,ja ho HB.out.size,hb⟩
theorem qct(t:Int×Int)(h0:t.1≤9223372036854775807)(h1:t.2≤9223372036854775807)(w:World):Calls Tryz.prog 41 #[zU t.1 t.2] w (q04 (qE t) w):=by
 obtain⟨i0,hi,hz0,hz1,hz2⟩:=info_parts q08;obtain⟨k,n⟩:=t;dsimp only at h0 h1⊢
 have HW:=zH ((zb w.heap.size w).alloc (zn _) (.cells #[.int .i64 k,.int .i64 n] 50));by_cases h3:k=3
 ·subst h3;have E:=zH (show qE (3,n)=zy (3:Int).toNat++zy n.toNat from Xb rfl);rw[E.out];have l3:=qF (n:=(3:Int).toNat) (by decide);have l1:=qF (n:=n.toNat) (by omega);generalize hY3:zy (3:Int).toNat=Y3 at*
  generalize hYn:zy n.toNat=Yn at*
  have H3:=zH hY3;have HN:=zH hYn;clear E hY3 hYn;obtain⟨q0,q1⟩:=q2s (w:=w) (x:= .int .i64 3) (y:= .int .i64 n) (T:=50) (zb _ _).drew;have HC:Hid (Below (w.alloc (.cells #[.int .i64 3,.int .i64 n] 50)).heap.size (w.alloc (.cells #[.int .i64 3,.int .i64 n] 50)) (w.alloc (.cells #[.int .i64 3,.int .i64 n] 50)).drew):=zH (zb _ _).drew;have HS:Hid (w.heap.size≤(w.alloc (.cells #[.int .i64 3,.int .i64 n] 50)).heap.size):=zH (by simp);go_enter Tryz.func41,Tryz.ntmps41;go_wp2_with fail
  refine wp_region_noPanic ?_;refine wp_region_held_drew (S:=(fun w'=>w'.cell? ⟨w.heap.size,0,none⟩=some (.int .i64 3)∧w'.cell? ⟨w.heap.size,1,none⟩=some (.int .i64 n))) (by kernel_rfl) ⟨q0,q1⟩ (fun hHeld=> ?_);refine mT 1 (h:=mT 2 (h:= ?_));refine wpAnyH_ready (rs:=[0]) (by kernel_rfl) (by simp) ?_;refine AllReadyH.cons (o:=_) rfl (fun K hK=> ?_) AllReadyH.nil;go_simp;(go_at_call 37;(with_reducible refine(q8l (n:=3) (by decide) HC).mono ?_);rintro e w1 ⟨A1,k1,rfl,hA1,hL1,ho,hb⟩;rw[H3.out]at ho hL1⊢;have HO1:=zH ho;have HB1:=zH (HC.out.trans (hb.mono HC.out.size));obtain⟨q0,q1⟩:=q2s HB1.out;clear ho hb hL1)
  refine hK.out _ _ ⟨q0,q1⟩ (fun hHeld=> ?_);clear hK K;try simp only[sA,sB,sC,Act.put,sD,sE,sF]
  refine wpAnyH_ready (rs:=[3]) (by kernel_rfl) (by simp) ?_;refine AllReadyH.cons (o:=_) rfl (fun K hK=> ?_) AllReadyH.nil;go_simp;(go_at_call 37;(with_reducible refine(q8l (n:=n) h1 HB1).mono ?_);rintro e w2 ⟨A2,k2,rfl,hA2,hL2,ho,hb⟩;rw[HN.out]at ho hL2⊢;have HO2:=zH (zT HO1.out hb (zL HO1.out));have HB2:=zH (HB1.out.trans (hb.mono HB1.out.size));have HL2:=zH hL2;have HA2:=zH hA2;obtain⟨q0,q1⟩:=q2s HB2.out;clear ho hb hL2 hA2)
  refine hK.out _ _ ⟨q0,q1⟩ (fun hHeld=> ?_);clear hK K;try simp only[sA,sB,sC,Act.put,sD,sE,sF]
  refine wpAnyH_ready (rs:=[4]) (by kernel_rfl) (by simp) ?_;refine AllReadyH.cons (o:=_) rfl (fun K hK=> ?_) AllReadyH.nil
  (refine q3b rfl _ _ 40 rfl (w.alloc (.cells #[.int .i64 3,.int .i64 n] 50)).heap.size 5 i0 (.int .u8 0) 1 Tryz.underlying40 hi hz0 hz1 hz2 rfl _ _ _ rfl HO2.out A2 _ k2 _ (Yn.map (Value.int .u8)) (by simp) rfl HA2.out HL2.out (jC _) (by unfold maxLen;omega) (by omega) HB2.out.size ?_;intro v3 w3 hown hgrow;obtain⟨ho,hb⟩:=jI HB2.out HO2.out HB2.out.size hown hgrow;rw[←Xe]at ho;have HO3:=zH ho;have HB3:=zH hb;obtain⟨q0,q1⟩:=q2s HB3.out;clear hown hgrow ho hb)
  refine hK.out _ _ ⟨q0,q1⟩ (fun hHeld=> ?_);clear hK K;try simp only[sA,sB,sC,Act.put,sD,sE,sF]
  refine mT 5 (h:= ?_);refine wpAnyH_done (by kernel_rfl) ?_ _;refine NoPanic.normal ?_;go_wp2
  go_ret;exact⟨_,rfl,ja HO3.out HS.out,HW.out.trans (HB3.out.mono HS.out)⟩
 ·have E:=zH (show qE (k,n)=zy k.toNat from Xa h3);rw[E.out];go_enter Tryz.func41,Tryz.ntmps41;go_wp2_with(go_at_call 37;(with_reducible refine(vq k h0 _).mono ?_);rintro e w' ⟨v,rfl,ho,hb⟩)
  go_ret;exact⟨v,rfl,ja ho HW.out.size,HW.out.trans (hb.mono HW.out.size)⟩
theorem q25(l:List (Int×Int))(A:Option Addr)(cap B:Nat)(w:World)(hl:l.length≤10000)(hv:∀t ∈l,t.1≤9223372036854775807∧t.2≤9223372036854775807)(hB:B≤w.heap.size)(h:ze zc 2 w B A cap l):
  Calls Tryz.prog 38 #[.slice A l.length cap] w (q04 (jo l) w):=by
 obtain⟨i0,hi,hz0,hz1,hz2⟩:=info_parts q08;have hlc:=h.le;have hcm:=h.cap;have HL:=zH h;have HB:=zH hB;have HV:=zH hv;have hlen:∀k,((l.take k).flatMap qE).length≤18*l.length:=fun k=>Xd (vU (c:=18) _ fun x hx=>by
  have hx:=List.mem_of_mem_take hx;exact q1i (hv x hx).1 (hv x hx).2) (Nat.mul_le_mul_left 18 (by rw[XO];omega))
 have l9:=qF (n:=(l.length:Int).toNat) (by omega);have HC:Hid (Below w.heap.size w w):=zH (zb _ _);obtain⟨Y0,hY0⟩:∃Y,zy (l.length:Int).toNat=Y:=⟨_,rfl⟩
 rw[hY0]at l9;have H0:=zH hY0;have E:Hid (jo l=Y0++l.flatMap qE):=zH (by rw[←hY0];unfold jo;rw[Xi]);rw[E.out];clear h hB hv hY0;go_enter Tryz.func38,Tryz.ntmps38;go_wp2_with(go_at_call 37;(with_reducible refine(vq (l.length:Int) (by omega) _).mono ?_);rintro e w1 ⟨v1,rfl,ho,hb⟩;rw[H0.out]at ho;have HO1:=zH ho;have HB1:=zH hb;clear ho hb)
 go_loopw [3,4] (fun v i wr=>∃k:Nat,k≤l.length∧i= .int .i64 k∧Hid (wr.ownsRow w.heap.size 5 1 v (Y0++(l.take k).flatMap qE).length ((Y0++(l.take k).flatMap qE).map (Value.int .u8)))∧Hid (Below w.heap.size w wr)) (fun _ i _=>l.length - (intOf i).toNat)
 case atStart=>exact⟨0,by omega,rfl,by simpa using HO1,HB1⟩
 case round=>
  obtain⟨k,hk,rfl,HO,HX⟩:=hrel;by_cases hlt:k<l.length
  ·obtain⟨ad,rfl,hab,q0,q1⟩:=(HL.out.below_to zc.keeps HX.out HB.out).row.at_ hlt;have T1:=zH (VQ qE hlt);have M1:=zH (HV.out _ (Xf hlt));have hlk:=hlen k;generalize l[k]=x at*
   obtain⟨Z2,hZ2⟩:∃Z,qE x=Z:=⟨_,rfl⟩
   have hZl:Z2.length≤18:=by rw[←hZ2];exact q1i M1.out.1 M1.out.2
   have EZ:=zH hZ2;clear hZ2;have X1:(Y0++(l.take k).flatMap qE).length≤200000:=by rw[Xe];omega
   go_wp2_with(first
    |(go_at_call 41;(with_reducible refine(qct x M1.out.1 M1.out.2 _).mono ?_);rintro e w2 ⟨v2,rfl,ho,hb⟩;rw[EZ.out]at ho;obtain⟨A2,k2,rfl,hL2,hA2⟩:=ZH ho;have HL2:=zH hL2;have HA2:=zH hA2;have HO2:=zH (zT HO.out hb (zL HO.out));have HX2:=zH (HX.out.trans (hb.mono HX.out.size));clear ho hb hL2 hA2)
    |(at_builtin;refine QR rfl _ _ 40 rfl w.heap.size 5 i0 (.int .u8 0) 1 Tryz.underlying40 hi hz0 hz1 hz2 rfl _ _ _ rfl HO2.out A2 _ k2 _ (Z2.map (Value.int .u8)) (by simp) rfl HA2.out HL2.out (jC _) (by unfold maxLen;omega) (by omega) HX2.out.size ?_;intro v3 w3 hown hgrow;obtain⟨ho,hb⟩:=jI HX2.out HO2.out HX2.out.size hown hgrow;rw[←Xe]at ho;have HO3:=zH ho;have HX3:=zH hb;clear hown hgrow ho hb))
   go_roundw;case rel=>exact⟨k+1,by omega,by go_num,by rw[T1.out,EZ.out,←Xu];exact HO3,HX3⟩
   case measure=>simp[intOf];omega
  ·have T1:=zH (show(l.take k).flatMap qE=l.flatMap qE by rw[XK (by omega)]);rw[T1.out]at HO;go_wp2_with fail
   go_ret;exact⟨_,rfl,HO.out,HX.out⟩
theorem q48(l:List Int)(A:Option Addr)(cap B:Nat)(w:World)(hl:l.length≤10000)(hv:∀t ∈l,t≤9223372036854775807)(hB:B≤w.heap.size)(h:ze zl 1 w B A cap l):
  Calls Tryz.prog 39 #[.slice A l.length cap] w (q04 (jG l) w):=by
 obtain⟨i0,hi,hz0,hz1,hz2⟩:=info_parts q08;have hlc:=h.le;have hcm:=h.cap;have HL:=zH h;have HB:=zH hB;have HV:=zH hv;have hlen:∀k,((l.take k).flatMap qV).length≤18*l.length:=fun k=>Xd (vU (c:=18) _ fun x hx=>by
  have hx:=List.mem_of_mem_take hx;have:=hv x hx;exact Xd (qF (by omega)) (by decide)) (Nat.mul_le_mul_left 18 (by rw[XO];omega))
 have l9:=qF (n:=(l.length:Int).toNat) (by omega);have HC:Hid (Below w.heap.size w w):=zH (zb _ _);obtain⟨Y0,hY0⟩:∃Y,zy (l.length:Int).toNat=Y:=⟨_,rfl⟩
 rw[hY0]at l9;have H0:=zH hY0;have E:Hid (jG l=Y0++l.flatMap qV):=zH (by rw[←hY0];unfold jG;rw[Xi]);rw[E.out];clear h hB hv hY0;go_enter Tryz.func39,Tryz.ntmps39;go_wp2_with(go_at_call 37;(with_reducible refine(vq (l.length:Int) (by omega) _).mono ?_);rintro e w1 ⟨v1,rfl,ho,hb⟩;rw[H0.out]at ho;have HO1:=zH ho;have HB1:=zH hb;clear ho hb)
 go_loopw [3,4] (fun v i wr=>∃k:Nat,k≤l.length∧i= .int .i64 k∧Hid (wr.ownsRow w.heap.size 5 1 v (Y0++(l.take k).flatMap qV).length ((Y0++(l.take k).flatMap qV).map (Value.int .u8)))∧Hid (Below w.heap.size w wr)) (fun _ i _=>l.length - (intOf i).toNat)
 case atStart=>exact⟨0,by omega,rfl,by simpa using HO1,HB1⟩
 case round=>
  obtain⟨k,hk,rfl,HO,HX⟩:=hrel;by_cases hlt:k<l.length
  ·obtain⟨ad,rfl,hab,q0⟩:=(HL.out.below_to zl.keeps HX.out HB.out).row.at_ hlt;rw[Xz]at q0;have T1:=zH (VQ qV hlt);have M1:=zH (HV.out _ (Xf hlt));have hlk:=hlen k;generalize l[k]=x at*
   have r0:wr.cell? (ad.add k)=some (.int .i64 x):=q0;obtain⟨Z2,hZ2⟩:∃Z,qV x=Z:=⟨_,rfl⟩
   have hZl:Z2.length≤9:=by rw[←hZ2];exact qF (by have:=M1.out;omega)
   have EZ:=zH hZ2;clear hZ2;have X1:(Y0++(l.take k).flatMap qV).length≤200000:=by rw[Xe];omega
   go_wp2_with(first
    |(go_at_call 37;(with_reducible refine(vq x M1.out _).mono ?_);rintro e w2 ⟨v2,rfl,ho,hb⟩;rw[show zy x.toNat=Z2 from EZ.out]at ho;obtain⟨A2,k2,rfl,hL2,hA2⟩:=ZH ho;have HL2:=zH hL2;have HA2:=zH hA2;have HO2:=zH (zT HO.out hb (zL HO.out));have HX2:=zH (HX.out.trans (hb.mono HX.out.size));clear ho hb hL2 hA2)
    |(at_builtin;refine QR rfl _ _ 40 rfl w.heap.size 5 i0 (.int .u8 0) 1 Tryz.underlying40 hi hz0 hz1 hz2 rfl _ _ _ rfl HO2.out A2 _ k2 _ (Z2.map (Value.int .u8)) (by simp) rfl HA2.out HL2.out (jC _) (by unfold maxLen;omega) (by omega) HX2.out.size ?_;intro v3 w3 hown hgrow;obtain⟨ho,hb⟩:=jI HX2.out HO2.out HX2.out.size hown hgrow;rw[←Xe]at ho;have HO3:=zH ho;have HX3:=zH hb;clear hown hgrow ho hb))
   go_roundw;case rel=>exact⟨k+1,by omega,by go_num,by rw[T1.out,EZ.out,←Xu];exact HO3,HX3⟩
   case measure=>simp[intOf];omega
  ·have T1:=zH (show(l.take k).flatMap qV=l.flatMap qV by rw[XK (by omega)]);rw[T1.out]at HO;go_wp2_with fail
   go_ret;exact⟨_,rfl,HO.out,HX.out⟩
def zig(n:Int):Int:=if n<0 then -2*n - 1 else 2*n
def ka(fuel k n u:Nat):List Int→Nat×Nat
 | []=>(0,0)
 |b::r=>match fuel with
  |0=>(0,0)
  |f+1=>if b<128 then(if 0<k∧b=0 then(0,0)else(n+u*(b.toNat % 128),k+1))else ka f (k+1) (n+u*(b.toNat % 128)) (u*128) r
def jc(l:List Int):Nat×Nat:=ka 5 0 0 1 l
def IsPair(p:Nat×Nat)(w:World)(e:Ending)(w':World):Prop:=e= .returned (.tuple #[.int .i64 p.1,.int .i64 p.2])∧w=w'
def qc(rest:List Int)(bad:Bool)(most:Int):Int×List Int×Bool:=
 if bad=false∧0<(jc rest).2∧((jc rest).1:Int)≤most then((jc rest).1,rest.drop (jc rest).2,false)else(0,rest,true)
def zag(n:Int):Int:=if n % 2=0 then n / 2 else -((n+1) / 2)
theorem q89(f k N U n:Nat)(r:List Int)(hs:n<128)(hk:k=0∨0<n):ka (f+1) k N U (zy n++r)=(N+U*n,k+(zy n).length):=by
 rw[Vv hs];simp only[List.singleton_append,ka];rw[Xb (by omega),Xa (by omega)];simp;congr 1;omega
theorem qgi(f:Nat):∀(k N U n:Nat) (r:List Int),n<128 ^ (f+1)→(k=0∨0<n)→ka (f+1) k N U (zy n++r)=(N+U*n,k+(zy n).length):=by
 induction f with
 |zero=>
  intro k N U n r hn hk;exact q89 0 k N U n r (by simpa using hn) hk
 |succ f ih=>
  intro k N U n r hn hk;by_cases hs:n<128
  ·exact q89 (f+1) k N U n r hs hk
  ·rw[q0p (by omega)];simp only[List.cons_append,ka];rw[Xa (by omega)];have hf:n / 128<128 ^ (f+1):=by rw[Nat.div_lt_iff_lt_mul (by decide)];rwa [Nat.pow_succ]at hn
   rw[ih (k+1) _ _ (n / 128) r hf (.inr (by omega))];have e:(128+(n:Int) % 128).toNat % 128=n % 128:=by omega
   rw[e];have e2:U*128*(n / 128)=U*(128*(n / 128)):=Nat.mul_assoc _ _ _;have e3:U*n=U*(n % 128)+U*(128*(n / 128)):=by rw[←Nat.mul_add];congr 1;omega
   simp only[XJ,Prod.mk.injEq];omega
theorem q4v{n:Nat}(r:List Int)(h:n<34359738368):jc (zy n++r)=(n,(zy n).length):=by
 have:=qgi 4 0 0 1 n r (by omega) (.inl rfl);unfold jc;rw[this];simp
theorem qhj(f:Nat):∀(k N U v s:Nat) (l:List Int),(∀b ∈l,0≤b∧b≤255)→ka f k N U l=(v,s)→0<s→
  ∃n,v=N+U*n∧s=k+(zy n).length∧l.take (zy n).length=zy n∧(0<k→0<n)∧n<128 ^ f:=by
 induction f with
 |zero=>
  intro k N U v s l hl h hs;cases l<;>(simp only[ka,Prod.mk.injEq]at h;omega)
 |succ f ih=>
  intro k N U v s l hl h hs;cases l with
  |nil=>simp only[ka,Prod.mk.injEq]at h;omega
  |cons b r=>
   obtain⟨b0,b1⟩:=hl b XD;simp only[ka]at h;by_cases h1:b<128
   ·rw[Xb h1]at h;by_cases h2:0<k∧b=0
    ·rw[Xb h2,Prod.mk.injEq]at h;omega
    ·rw[Xa h2,Prod.mk.injEq]at h;have e:(zy b.toNat)=[b]:=by
      rw[Vv (by omega)];congr 1;omega
     refine⟨b.toNat,?_,?_,?_,?_,?_⟩
     ·rw[←h.1,Nat.mod_eq_of_lt (by omega)]
     ·rw[e];simp;omega
     ·rw[e];simp
     ·omega
     ·have:=Nat.pow_le_pow_right (n:=128) (by decide) (show 1≤f+1 by omega);omega
   ·rw[Xa h1]at h;obtain⟨n',e1,e2,e3,e4,e5⟩:=ih (k+1) _ _ v s r (fun c hc=>hl c (XF _ hc)) h hs;have hn':=e4 (by omega);have eb:zy (b.toNat % 128+128*n')=b::zy n':=by
     rw[q0p (by omega)];congr 1
     ·omega
     ·congr 1;omega
    refine⟨b.toNat % 128+128*n',?_,?_,?_,?_,?_⟩
    ·rw[e1,Nat.mul_add,Nat.mul_assoc];omega
    ·rw[eb,e2];simp;omega
    ·rw[eb];simp only[XJ,List.take_succ_cons,e3]
    ·omega
    ·rw[Nat.pow_succ];omega
theorem qbh{l:List Int}(hl:∀b ∈l,0≤b∧b≤255)(hs:0<(jc l).2):
  (jc l).1<34359738368∧(jc l).2=(zy (jc l).1).length∧l.take (jc l).2=zy (jc l).1∧(jc l).2≤l.length:=by
 obtain⟨n,e1,e2,e3,_,e5⟩:=qhj 5 0 0 1 (jc l).1 (jc l).2 l hl rfl hs;have e:(jc l).1=n:=by omega
 rw[e];have e2':(jc l).2=(zy n).length:=by omega
 refine⟨by omega,e2',by rw[e2',e3],?_⟩;rw[e2'];have:=congrArg List.length e3;rw[XO]at this;omega
theorem q7c{n:Int}:0≤zig n:=by unfold zig;split<;>omega
theorem q0c{n:Int}(h0: -2147483648≤n)(h1:n≤2147483647):zig n≤4294967295:=by unfold zig;split<;>omega
theorem q6n(n:Int):zag (zig n)=n:=by
 unfold zag zig;split<;>split<;>omega
theorem qud{n:Int}(h:0≤n):zig (zag n)=n:=by
 unfold zag zig;split<;>split<;>omega
theorem qmp{n:Int}(h:0≤n)(h1:n≤4294967295): -2147483648≤zag n∧zag n≤2147483647:=by
 unfold zag;split<;>omega
theorem qhi(f:Nat):∀(k N U:Nat) (l:List Int),(ka f k N U l).2=0→ka f k N U l=(0,0):=by
 induction f with
 |zero=>intro k N U l _;cases l<;>rfl
 |succ f ih=>
  intro k N U l h;cases l with
  |nil=>rfl
  |cons b r=>
   simp only[ka]at h⊢
   by_cases h1:b<128
   ·rw[Xb h1]at h⊢
    by_cases h2:0<k∧b=0
    ·rw[Xb h2]
    ·rw[Xa h2]at h;simp at h
   ·rw[Xa h1]at h⊢
    exact ih _ _ _ _ h
theorem qom{l:List Int}(h:(jc l).2=0):(jc l).1=0:=by
 have:=qhi 5 0 0 1 l h;unfold jc;rw[this]
theorem qv5{rest:List Int}{bad:Bool}{most:Int}(h:bad=true∨(jc rest).2=0∨most<((jc rest).1:Int)):qc rest bad most=(0,rest,true):=by
 unfold qc;rw[Xa];rintro⟨h1,h2,h3⟩;rcases h with h|h|h
 ·rw[h1]at h;cases h
 ·omega
 ·omega
theorem qsd{w:World}{B e m:Nat}{v:Value}{xs:List Value}(h:w.ownsRow B e 1 v (0+m) ([]++xs)):w.ownsRow B e 1 v m xs:=by simpa using h
theorem YH{w w':World}(h:Below w.heap.size w w')(a b c d e f g:Value):
  Below w.heap.size w (((((((w'.setCell ⟨w.heap.size,0,none⟩ a).setCell ⟨w.heap.size,1,none⟩ b).setCell ⟨w.heap.size,2,none⟩ c).setCell ⟨w.heap.size,3,none⟩ d).setCell ⟨w.heap.size,4,none⟩ e).setCell ⟨w.heap.size,5,none⟩ f).setCell ⟨w.heap.size,6,none⟩ g):=
 ((((((h.setCell (zn _) _).setCell (zn _) _).setCell (zn _) _).setCell (zn _) _).setCell (zn _) _).setCell (zn _) _).setCell (zn _) _
theorem q66{w:World}{N b:Nat}(hb:b≠N)(a b1 c d e f g:Value):
  (((((((w.setCell ⟨N,0,none⟩ a).setCell ⟨N,1,none⟩ b1).setCell ⟨N,2,none⟩ c).setCell ⟨N,3,none⟩ d).setCell ⟨N,4,none⟩ e).setCell ⟨N,5,none⟩ f).setCell ⟨N,6,none⟩ g).heap[b]? =w.heap[b]? :=by
 rw[Below.heap_setCell _ _ _ _ (by exact hb),Below.heap_setCell _ _ _ _ (by exact hb),Below.heap_setCell _ _ _ _ (by exact hb),Below.heap_setCell _ _ _ _ (by exact hb),Below.heap_setCell _ _ _ _ (by exact hb),Below.heap_setCell _ _ _ _ (by exact hb),Below.heap_setCell _ _ _ _ (by exact hb)]
end Go.Proofs.YtcmiljnbmgkdnaaGreat
