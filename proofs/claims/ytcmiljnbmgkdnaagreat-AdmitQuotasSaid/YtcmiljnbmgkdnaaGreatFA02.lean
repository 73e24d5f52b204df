import Derived.Test.YtcmiljnbmgkdnaaGreatFA01
import Derived.ArgAppend
import Derived.OwnWalk
import Derived.ChangeOld
import Derived.Maps.OwnSet
import Derived.Maps.RangeWalk
import Derived.Sort.OwnSortedInts
import Derived.Deep.LoopGhost
import Derived.WalkSpells
import Derived.IntWalk
import Derived.ChangeAlike
namespace Go.Proofs.YtcmiljnbmgkdnaaGreat
set_option maxRecDepth 100000
set_option linter.unusedVariables false
set_option linter.unusedSimpArgs false
open Go.ChangeShapes Go.WideShapes Go.ChangeAt Go.RowKit
def vh(k:Int):Bool:=decide (k=2∨k=3∨k=4)
def qA(k n c:Int):Bool:=decide ((k=1∨k=2)∧n=0∨k=3∧0≤n∧n<c)
theorem q8v(k n:Int)(w:World):Calls Tryz.prog 102 #[zA k n] w fun e w'=>e= .returned (.bool (vh k))∧Below w.heap.size w w':=by
 by_cases h:k=2∨k=3∨k=4
 ·have E:=zH (show vh k=true from Xh h);rcases h with rfl|rfl|rfl;all_goals
   go_enter Tryz.func102,Tryz.ntmps102;go_wp2
   go_ret;refine⟨?_,?_⟩
   ·rw[E.out];rfl
   ·exact(zb _ _).alloc (zn _) _
 ·have E:=zH (show vh k=false from Xf h);have h2:¬k=2:=by omega
  have h3:¬k=3:=by omega
  have h4:¬k=4:=by omega
  clear h;go_enter Tryz.func102,Tryz.ntmps102;go_wp2
  go_ret;refine⟨?_,?_⟩
  ·rw[E.out];simp[h2,h3,h4]
  ·exact(zb _ _).alloc (zn _) _
def Jy(sup:List Int)(c:Nat):List Int:=match sup[c]? with
 |none=> []
 |some s=>(c:Int)::(if h:0≤s∧s<c then Jy sup s.toNat else [])
termination_by c
decreasing_by omega
def zv(sup:List Int)(c:Int):List Int:=if 0≤c then Jy sup c.toNat else []
theorem VO{sup:List Int}{c:Nat}(h:sup.length≤c):Jy sup c=[]:=by
 rw[Jy,Xu h]
theorem q1c{sup:List Int}{c:Nat}{s:Int}(h:sup[c]? =some s):Jy sup c=(c:Int)::(if s<c then zv sup s else []):=by
 rw[Jy,h];dsimp only;unfold zv;by_cases h1:s<c
 ·by_cases h2:0≤s
  ·rw[dif_pos ⟨h2,h1⟩,Xb h1,Xb h2]
  ·rw[dif_neg (fun g=>h2 g.1),Xb h1,Xa h2]
 ·rw[dif_neg (fun g=>h1 g.2),Xa h1]
theorem q8c(sup:List Int)(c:Nat):(Jy sup c).length≤c+1:=by
 induction c using Nat.strongRecOn with
 |ind c ih=>
  rw[Jy];split
  ·simp
  ·rename_i s _;by_cases h:0≤s∧s<c
   ·rw[dif_pos h];have:=ih s.toNat (by omega)
    simp;omega
   ·rw[dif_neg h];simp
theorem vD:(Tryz.prog.info? 3).map (fun i=>(i.zero,i.size,i.bytes))=some (some (.int .i64 0),1,8):=by kernel_rfl
def vJ(l:List Int)(w:World)(e:Ending)(w':World):Prop:=
 ∃v,e= .returned v∧w'.ownsRow w.heap.size 3 1 v l.length (l.map (Value.int .i64))∧Below w.heap.size w w'
theorem Yy{B:Nat}{w w1:World}{e:TypeId}{v v':Value}{pre:List Int}{b:Int}{o:Obj}{wr:World}
  (hown:wr.ownsRow B e 1 v pre.length (pre.map (Value.int .i64))) (hB:B≤wr.heap.size) (hnx:Below B w wr)
  (hown':w1.ownsRow B e 1 v' (pre.length+1) (pre.map (Value.int .i64)++[.int .i64 b])) (hgrow:(wr.alloc o).grownBy w1 v.ownBlock):
  w1.ownsRow B e 1 v' (pre++[b]).length ((pre++[b]).map (Value.int .i64))∧Below B w w1:=
 ⟨by simpa using hown',(hnx.alloc hB o).grown hgrow (by simp;omega) (fun j hj=>(hown.lt j hj).1)⟩
set_option maxRecDepth 1000000 in
set_option maxHeartbeats 1600000 in
theorem q1n(sup:List Int)(c:Int)(A:Option Addr)(cap B:Nat)(w:World)(hl:sup.length≤1048576)(hB:B≤w.heap.size)(h:qD w B A sup):
  Calls Tryz.prog 71 #[.slice A sup.length cap,.int .i64 c] w (vJ (zv sup c) w):=by
 obtain⟨i0,hi,hz0,hz1,hz2⟩:=info_parts vD;have HL:=zH h;clear h;go_enter Tryz.func71,Tryz.ntmps71;go_wp2
 go_loopw [1,5] (fun a v wr=>∃(C:Int) (pre:List Int),a= .int .i64 C∧pre++zv sup C=zv sup c∧pre.length≤1048576∧(0≤C→C<sup.length→pre.length+C+1≤sup.length)∧
   wr.ownsRow w.heap.size 3 1 v pre.length (pre.map (Value.int .i64))∧Below w.heap.size w wr) (fun a _ _=>(intOf a+1).toNat)
 case atStart=>
  refine⟨c,[],rfl,rfl,by simp,by simp;omega,⟨rfl,.inr ⟨w.heap.size,0,#[],rfl,zn _,XO _ _,zn _,by unfold maxLen;omega,rfl,rfl⟩⟩,(zb _ _).alloc (zn _) _⟩
 case round=>
  obtain⟨C,pre,rfl,hpre,hp1,hp2,hown,hnx⟩:=hrel;have HP:=zH hpre;clear hpre;by_cases h0:0≤C
  ·by_cases h1:C<sup.length
   ·obtain⟨K,rfl⟩:=Xm h0;have hlt:K<sup.length:=by omega
    have hs0:=Xc hlt;obtain⟨ad,rfl,hab,hc⟩:=HL.out K _ hs0;have A1:=zH (q1c hs0);clear hs0;generalize sup[K]=s at*
    have hp3:pre.length+K+1≤sup.length:=by have:=hp2 h0 h1;omega
    clear hp2;have hcr:=(hnx.cell (p:=ad.add (K*3)) (by rw[zp];omega)).trans hc;clear hc;go_wp2_with(at_builtin;refine wpList_append_own _ rfl _ _ 26 rfl w.heap.size 3 i0 (.int .i64 0) 1 8 Tryz.underlying26 hi hz0 hz1 hz2 rfl (by decide) _ _ _ rfl (hown.alloc _) ⟨_,0,none⟩ 1 1 [.int .i64 (K:Int)] rfl rfl ?c1 ?c2 ?c3 ?c4 ?c5 ?_)
    case c1=>
     intro j u hj
     match j,hj with
     |0,hj=>simp at hj;subst hj;simp[Addr.add]
    case c2=>intro u hu;simp at hu;subst hu;rfl
    case c3=>unfold maxLen;omega
    case c4=>omega
    case c5=>have:=hnx.size;simp;omega
    intro v' w1 hown' hgrow _;have hb1:=(hnx.alloc hnx.size _).grown hgrow (by simp;have:=hnx.size;omega) (fun j hj=>(hown.lt j hj).1);have R:=Yy hown hnx.size hnx hown' hgrow;have hc1:w1.cell? (ad.add (K*3))=some (.int .i64 s):=((R.2.cell (p:=ad.add (K*3)) (by rw[zp];omega)).trans (hnx.cell (p:=ad.add (K*3)) (by rw[zp];omega)).symm).trans hcr;clear hown' hgrow hown hcr hb1;have AK:=zH (show zv sup (K:Int)=(K:Int)::(if s<K then zv sup s else [])by unfold zv;rw[Xb (by omega),Xe];exact A1.out);clear A1;by_cases hs:s<K
    ·have A2:=zH (show(pre++[(K:Int)])++zv sup s=zv sup c by rw[←HP.out,AK.out,Xb hs];simp);clear AK HP;go_wp2_with fail
     go_roundw;case rel=>exact⟨s,pre++[(K:Int)],rfl,A2.out,by simp;omega,by simp;omega,R.1,R.2⟩
     case measure=>simp[intOf];omega
    ·have A2:=zH (show(pre++[(K:Int)])++zv sup (-1)=zv sup c by rw[←HP.out,AK.out,Xa hs];simp[zv]);clear AK HP;go_wp2_with fail
     go_roundw;case rel=>exact⟨-1,pre++[(K:Int)],rfl,A2.out,by simp;omega,by simp,R.1,R.2⟩
     case measure=>simp[intOf]
   ·have A2:=zH (show pre=zv sup c by rw[←HP.out];unfold zv;rw[Xb h0,VO (by omega)];simp);clear HP;go_wp2_with fail
    go_ret;rw[←A2.out];exact⟨_,rfl,hown,hnx⟩
  ·have A2:=zH (show pre=zv sup c by rw[←HP.out];unfold zv;rw[Xa h0];simp);clear HP;go_wp2_with fail
   go_ret;rw[←A2.out];exact⟨_,rfl,hown,hnx⟩
def zw(sup:List Int)(k n k' n':Int):Bool:=if k=4 then vh k' else if k=3 then decide (k'=3)&& zR (zv sup n) n' else decide ((k=1∨k=2)∧k=k'∧n=n')
theorem kT{W w1:World}(hb:Below W.heap.size W w1):(∀b o,b<W.heap.size→w1.cell? ⟨b,o,none⟩=W.cell? ⟨b,o,none⟩)∧(∀b o,b<W.heap.size→w1.frozen? ⟨b,o,none⟩=W.frozen? ⟨b,o,none⟩):=
 ⟨fun b o h=>hb.cell (p:=⟨b,o,none⟩) h,fun b o h=>hb.frozen (p:=⟨b,o,none⟩) h⟩
theorem YB(sup:List Int)(n:Int):(zv sup n).length≤sup.length:=by
 unfold zv;split
 ·rcases Xj n.toNat sup.length with g|g
  ·have:=q8c sup n.toNat;omega
  ·rw[VO g];simp
 ·simp
def zt(cl:List zO):List Int:=cl.map (·.sup)
def vE(cl:List zO)(i:Int):List (Int×Int):=match cl[i.toNat]? with
 |some c=>c.fields
 |none=> []
def zV(cl:List zO)(c:Int):List (Int×Int):=(zv (zt cl) c).reverse.flatMap (vE cl)
theorem Qp{w:World}{B:Nat}{A:Option Addr}{cl:List zO}(h:qB jW 3 w B A cl):qD w B A (zt cl):=fun i s hs=>by
 unfold zt at hs;rw[Xx]at hs;cases hc:cl[i]? with
 |none=>rw[hc]at hs;simp at hs
 |some c=>
  rw[hc]at hs;simp at hs;subst hs;obtain⟨ad,e,hb,hx⟩:=h i c hc;exact⟨ad,e,hb,hx.sup⟩
theorem jS(cl:List zO):(zt cl).length=cl.length:=Xi _
theorem qln(sup:List Int)(c:Nat):∀i ∈Jy sup c,0≤i∧i≤c∧i<sup.length:=by
 induction c using Nat.strongRecOn with
 |ind c ih=>
  intro i hi;rcases Xj c sup.length with g|g
  ·rw[q1c (Xc g)]at hi;rcases Xz.mp hi with rfl|hi
   ·omega
   ·split at hi
    ·rename_i hs;unfold zv at hi;split at hi
     ·rename_i h0;have:=ih (sup[c].toNat) (by omega) i hi;omega
     ·simp at hi
    ·simp at hi
  ·rw[VO g]at hi;simp at hi
theorem qbx{sup:List Int}{c i:Int}(h:i ∈zv sup c):0≤i∧i<sup.length:=by
 unfold zv at h;split at h
 ·have:=qln sup c.toNat i h;omega
 ·simp at h
def js(l:List (Int×Int))(n:Int):Bool:=l.all fun t=>qA t.1 t.2 n
theorem qeq{P:Program}{w:World}(base:Nat)(t ty e:TypeId)(i:TypeInfo)(size c:Nat)(ht:P.underlying t=some (.slice e))(hi:P.info? e=some i)
  (v:Value) (n:Nat) (xs:List Value) (hown:w.ownsRow base e size v n xs):
  (Builtin.append_ #[t,t] ty #[v,.slice none 0 c]).run P w= .ok v w:=by
 rcases hown.2 with⟨rfl,rfl⟩|⟨g,cap,cur,rfl,_,_,hnc,_⟩
 ·simp[Builtin.append_,run_underlying ht,sizeOf,typeInfo,hi,Builtin.lenOf,Builtin.firstCells]
 ·simp[Builtin.append_,run_underlying ht,sizeOf,typeInfo,hi,Builtin.lenOf,Builtin.firstCells,hnc,storeCells]
theorem qdp{P:Program}{w:World}{o:Oper}{a:Act}{K:Act→World→Prop}{Q:Exit→Act→World→Prop}(s x:Operand)(t:TypeId)
  (ho:o.op= .call {callee:= .builtin .append,args:= #[s,x],argTypes:= #[t,t]})
  (base:Nat) (e:TypeId) (i:TypeInfo) (z:Value) (size bytes:Nat) (ht:P.underlying t=some (.slice e)) (hi:P.info? e=some i) (hz:i.zero=some z)
  (hsize:i.size=size) (hby:i.bytes=bytes) (hzs:z.cells.size=size) (hsz:0<size)
  (v:Value) (n:Nat) (xs:List Value) (hs:a.eval s=v) (hown:w.ownsRow base e size v n xs)
  (A:Option Addr) (m c B:Nat) (news:List Value) (hm:news.length=m*size) (hx:a.eval x= .slice A m c) (hl:zx w B A news) (h1:∀u ∈news,u.oneCell'=true)
  (h63:n+m≤maxLen) (hbytes:(n+m)*bytes≤140737488355328) (hbase:base≤w.heap.size)
  (h:∀v' w',w'.ownsRow base e size v' (n+m) (xs++news)→w.grownBy w' v.ownBlock→K (a.put o.dst v') w'):o.wp P a w K Q:=by
 rcases A with _|ad
 ·have hn:news=[]:=by
   cases news with
   |nil=>rfl
   |cons b r=>
    obtain⟨ad,e,_⟩:=hl 0 b rfl;cases e
  subst hn;have hm0:m=0:=by
   rcases Wo m with g|g
   ·exact g
   ·have:0<m*size:=Nat.mul_pos g hsz;simp at hm;omega
  subst hm0;have hrun:=qeq (P:=P) (w:=w) base t o.type e i size c ht hi v n xs hown;have hk:=h v w (by simpa using hown) (World.grownBy.refl _ _);unfold Oper.wp;simp[execOp,ho,resolve,invoke,builtin,hs,hx,hrun,Result.andThen];exact hk
 ·refine wp_append_own w s x t ho base e i z size bytes ht hi hz hsize hby hzs hsz v n xs hs hown ad m c news hx hm (fun j u hu=> ?_) h1 h63 hbytes hbase fun v' w' h2 h3 _=>h v' w' h2 h3;obtain⟨ad',e,_,hc⟩:=hl j u hu;injection e with e;subst e;exact hc
theorem vt{P:Program}{w:World}{ops:Array Oper}{rest:List Oper}{o:Oper}{a:Act}{Q:Exit→Act→World→Prop}(hgd:o.guard=none)(s x:Operand)(t:TypeId)
  (ho:o.op= .call {callee:= .builtin .append,args:= #[s,x],argTypes:= #[t,t]})
  (base:Nat) (e:TypeId) (i:TypeInfo) (z:Value) (size bytes:Nat) (ht:P.underlying t=some (.slice e)) (hi:P.info? e=some i) (hz:i.zero=some z)
  (hsize:i.size=size) (hby:i.bytes=bytes) (hzs:z.cells.size=size) (hsz:0<size)
  (v:Value) (n:Nat) (xs:List Value) (hs:a.eval s=v) (hown:w.ownsRow base e size v n xs)
  (A:Option Addr) (m c B:Nat) (news:List Value) (hm:news.length=m*size) (hx:a.eval x= .slice A m c) (hl:zx w B A news) (h1:∀u ∈news,u.oneCell'=true)
  (h63:n+m≤maxLen) (hbytes:(n+m)*bytes≤140737488355328) (hbase:base≤w.heap.size)
  (h:∀v' w',w'.ownsRow base e size v' (n+m) (xs++news)→w.grownBy w' v.ownBlock→wpList P ops Q rest (a.put o.dst v') w'):wpList P ops Q (o::rest) a w:=
 wpList_plain hgd fun _ hK=>qdp s x t ho base e i z size bytes ht hi hz hsize hby hzs hsz v n xs hs hown A m c B news hm hx hl h1 h63 hbytes hbase fun v' w' h2 h3=>hK _ _ (h v' w' h2 h3)
theorem Jm{P:Program}{w:World}{ops:Array Oper}{o:Oper}{a:Act}{K:Act→World→Prop}{Q:Exit→Act→World→Prop}{E:Prop}(hgd:o.guard=none)(s x:Operand)(t:TypeId)
  (ho:o.op= .call {callee:= .builtin .append,args:= #[s,x],argTypes:= #[t,t]})
  (base:Nat) (e:TypeId) (i:TypeInfo) (z:Value) (size bytes:Nat) (ht:P.underlying t=some (.slice e)) (hi:P.info? e=some i) (hz:i.zero=some z)
  (hsize:i.size=size) (hby:i.bytes=bytes) (hzs:z.cells.size=size) (hsz:0<size)
  (v:Value) (n:Nat) (xs:List Value) (hs:a.eval s=v) (hown:w.ownsRow base e size v n xs)
  (A:Option Addr) (m c B:Nat) (news:List Value) (hm:news.length=m*size) (hx:a.eval x= .slice A m c) (hl:zx w B A news) (h1:∀u ∈news,u.oneCell'=true)
  (h63:n+m≤maxLen) (hbytes:(n+m)*bytes≤140737488355328) (hbase:base≤w.heap.size)
  (h:∀v' w',w'.ownsRow base e size v' (n+m) (xs++news)→w.grownBy w' v.ownBlock→K (a.put o.dst v') w'):
  if Region.wanted o (yielded ops a.tmps)=true then Oper.wp P o a w K Q else E:=by
 have hw:Region.wanted o (yielded ops a.tmps)=true:=by simp[Region.wanted,hgd]
 rw[Xb hw];exact qdp s x t ho base e i z size bytes ht hi hz hsize hby hzs hsz v n xs hs hown A m c B news hm hx hl h1 h63 hbytes hbase h
theorem q62{α β:Type}{f:α→List β}{k:Nat}(hk:0<k)(hf:∀x,(f x).length=k):∀(l:List α) (j:Nat) (u:β),(l.flatMap f)[j]? =some u→∃i r x,j=i*k+r∧r<k∧l[i]? =some x∧(f x)[r]? =some u
 | [],j,u,h=>by simp at h
 |x::l,j,u,h=>by
  rw[List.flatMap_cons]at h;rcases Xj j k with g|g
  ·rw[XJ (by rw[hf];exact g)]at h;exact⟨0,j,x,by simp,g,rfl,h⟩
  ·rw[XM (by rw[hf];exact g),hf]at h;obtain⟨i,r,y,hj,hr,hi,hu⟩:=q62 hk hf l (j - k) u h;exact⟨i+1,r,y,by rw[Nat.add_mul];omega,hr,hi,hu⟩
theorem Zm{α β:Type}{f:α→List β}{k:Nat}(hf:∀x,(f x).length=k):∀(l:List α) (i r:Nat) (x:α),l[i]? =some x→r<k→(l.flatMap f)[i*k+r]? =(f x)[r]?
 | [],i,r,x,h,_=>by simp at h
 |y::l,0,r,x,h,hr=>by
  simp at h;subst h;rw[List.flatMap_cons,XJ (by rw[hf];omega)];simp
 |y::l,i+1,r,x,h,hr=>by
  rw[List.flatMap_cons,XM (by rw[hf,Nat.add_mul];omega),hf];rw[show(i+1)*k+r - k=i*k+r by rw[Nat.add_mul];omega];exact Zm hf l i r x (by simpa using h) hr
theorem q1g{α β:Type}{f:α→List β}{k:Nat}(hf:∀x,(f x).length=k):∀l:List α,(l.flatMap f).length=l.length*k
 | []=>by simp
 |x::l=>by rw[List.flatMap_cons,Xt,hf,q1g hf l,XL,Nat.add_mul];omega
def tyC(t:Int×Int):List Value:=[.int .i64 t.1,.int .i64 t.2]
def zI(l:List (Int×Int)):List Value:=l.flatMap tyC
theorem kV(l:List (Int×Int)):(zI l).length=l.length*2:=q1g (f:=tyC) (k:=2) (fun _=>rfl) l
theorem kb(l:List (Int×Int)):∀u ∈zI l,u.oneCell'=true:=fun u hu=>by
 obtain⟨t,_,h⟩:=List.mem_flatMap.mp hu;simp[tyC]at h;rcases h with rfl|rfl<;>rfl
theorem Zn{w:World}{B:Nat}{A:Option Addr}{l:List (Int×Int)}(h:qB zh 2 w B A l):zx w B A (zI l):=fun j u hu=>by
 obtain⟨i,r,t,rfl,hr,hi,hv⟩:=q62 (f:=tyC) (k:=2) (by decide) (fun _=>rfl) l j u hu;obtain⟨ad,e,hb,h0,h1⟩:=h i t hi;refine⟨ad,e,hb,?_⟩
 match r,hr,hv with
 |0,_,hv=>simp[tyC]at hv;subst hv;exact h0
 |1,_,hv=>
  simp[tyC]at hv;subst hv;rw[←Vc];have e:(ad.add (i*2)).add 1=zc (ad.add (i*2)) 1:=by unfold Addr.add;simp
  rw[e];exact h1
theorem JQ{w:World}{B e size n g c:Nat}{xs:List Value}(h:w.ownsRow B e size (.slice (some ⟨g,0,none⟩) n c) n xs):B≤g∧∀j u,xs[j]? =some u→w.cell? ⟨g,j,none⟩=some u∧g<w.heap.size:=by
 rcases h.2 with⟨h1,_⟩|⟨g',cap,cur,h1,hb,hh,_,_,_,hx⟩
 ·cases h1
 ·injection h1 with h1;simp at h1;subst h1;refine⟨hb,fun j u hj=> ?_⟩;have hu:cur.toList[j]? =some u:=by
   rw[←hx,List.getElem?_take]at hj;split at hj
   ·exact hj
   ·cases hj
  have hc:w.cell? ⟨g,j,none⟩=some u:=by simp[World.cell?,hh];simpa using hu
  exact⟨hc,World.block_lt_of_cell? w _ hc⟩
theorem kq{w:World}{B e size n:Nat}{v:Value}{xs:List Value}(h:w.ownsRow B e size v n xs):(v= .slice none 0 0∧n=0)∨∃g c,v= .slice (some ⟨g,0,none⟩) n c∧n≤c∧c≤9223372036854775807:=by
 rcases h.2 with⟨h1,h2⟩|⟨g',cap,cur,h1,hb,hh,h3,h4,_,hx⟩
 ·exact .inl ⟨h1,h2⟩
 ·exact .inr ⟨g',cap,h1,h3,by unfold maxLen at h4;omega⟩
theorem kU{w:World}{B e:Nat}{v:Value}{l:List (Int×Int)}(h:w.ownsRow B e 2 v l.length (zI l)):∃A c,v= .slice A l.length c∧zd zh 2 w w.heap.size A c l∧(A=none→c=0):=by
 rcases kq h with⟨rfl,hn⟩|⟨g,c,rfl,h1,h2⟩
 ·have:l=[]:=XZ hn;subst this;exact⟨none,0,rfl,⟨zn _,by omega,qB.nil⟩,fun _=>rfl⟩
 ·obtain⟨hb,hc⟩:=JQ h;refine⟨_,c,rfl,⟨h1,h2,fun i t hi=> ?_⟩,fun x=>by cases x⟩;have e0:=Zm (f:=tyC) (k:=2) (fun _=>rfl) l i 0 t hi (by decide);have e1:=Zm (f:=tyC) (k:=2) (fun _=>rfl) l i 1 t hi (by decide);obtain⟨c0,hg⟩:=hc _ _ e0;obtain⟨c1,_⟩:=hc _ _ e1;have ea:(Addr.add ⟨g,0,none⟩ (i*2))=⟨g,i*2,none⟩:=by
   unfold Addr.add;split
   ·rename_i h0;rw[h0]
   ·simp
  refine⟨_,rfl,hg,?_,?_⟩
  ·rw[ea];exact c0
  ·rw[ea];exact c1
theorem ku{w:World}{B e:Nat}{v:Value}{l:List Int}(h:w.ownsRow B e 1 v l.length (l.map (Value.int .i64))):∃A c,v= .slice A l.length c∧zx w w.heap.size A (l.map (Value.int .i64))∧l.length≤c∧c≤9223372036854775807:=by
 rcases kq h with⟨rfl,hn⟩|⟨g,c,rfl,h1,h2⟩
 ·have:l=[]:=XZ hn;subst this;exact⟨none,0,rfl,zx.nil,zn _,by omega⟩
 ·exact⟨_,c,rfl,zx.of_own h,h1,h2⟩
theorem Qo(w:World)(T:TypeId)(k:Nat):(w.alloc (.cells #[] T)).ownsRow w.heap.size T k (.slice (some ⟨w.heap.size,0,none⟩) 0 0) 0 []:=
 ⟨by simp,.inr ⟨w.heap.size,0,#[],rfl,zn _,XO _ _,zn _,by unfold maxLen;omega,by simp,by simp⟩⟩
theorem qN{B:Nat}{w w1 w2:World}{v:Value}{e size n:Nat}{xs:List Value}(hb:Below B w w1)(hown:w1.ownsRow B e size v n xs)(hB:B≤w1.heap.size)(hg:w1.grownBy w2 v.ownBlock):Below B w w2:=
 hb.grown hg hB fun k hk=>by
  rcases hown.2 with⟨rfl,_⟩|⟨g',cap,cur,rfl,hb',_⟩
  ·simp[Value.ownBlock]at hk
  ·have:g'=k:=by simpa[Value.ownBlock]using hk
   omega
theorem q6o(l m:List (Int×Int))(A A':Option Addr)(cap cap' B:Nat)(w:World)(hB:B≤w.heap.size)(h:zd zh 2 w B A cap l)(h':zd zh 2 w B A' cap' m):
  Calls Tryz.prog 31 #[.slice A l.length cap,.slice A' m.length cap'] w fun e w'=>e= .returned (.bool (decide (l=m)))∧Below w.heap.size w w':=by
 have hlc:=h.le;have hcm:=h.cap;have hlc':=h'.le;have hcm':=h'.cap;have HL:=zH h;have HM:=zH h';have HB:=zH hB;clear h h' hB;obtain⟨b,hb⟩:∃b,decide (l=m)=b:=⟨_,rfl⟩
 rw[hb];have E:=zH hb.symm;clear hb;by_cases hn:l.length=m.length
 ·have HLN:=zH hn;have hlen:m.length=l.length:=hn.symm;rw[hlen];clear hn;go_enter Tryz.func31,Tryz.ntmps31;go_wp2
  go_loopw [5] (fun i wr=>∃k:Nat,k≤l.length∧i= .int .i64 k∧Hid (l.take k=m.take k)∧Hid (Below w.heap.size w wr)) (fun i _=>l.length - (intOf i).toNat)
  case atStart=>exact⟨0,by omega,rfl,zH (by simp),zH (zb _ _)⟩
  case round=>
   obtain⟨k,hk,rfl,HN,HX⟩:=hrel;by_cases hlt:k<l.length
   ·have hltm:k<m.length:=by omega
    obtain⟨ad,rfl,hab,q0,q1⟩:=(HL.out.below_to zh.keeps HX.out HB.out).row.at_ hlt;obtain⟨ad',rfl,hab',q0',q1'⟩:=(HM.out.below_to zh.keeps HX.out HB.out).row.at_ hltm;have HNE:=zH (fun g=>q98 hlt hltm g);have HEQ:=zH (fun g=>qa9 hlt hltm HN.out g);generalize l[k]=t at*
    generalize m[k]=s at*
    obtain⟨x,y⟩:=t;obtain⟨x',y'⟩:=s;dsimp only at q0 q1 q0' q1';by_cases hx:x=x'∧y=y'
    ·obtain⟨rfl,rfl⟩:=hx;have E2:=zH (HEQ.out rfl);go_wp2_with fail
     go_quiet (fail)
     go_wp2
     go_roundw;case rel=>exact⟨k+1,by omega,by go_num,E2,zH (qZ HX.out _)⟩
     case measure=>simp[intOf];omega
    ·have E2:=zH (show b=false by rw[E.out];exact Xf (HNE.out (by simpa using hx)));have hxx:¬x=x'∨(x=x'∧¬y=y'):=by omega
     rcases hxx with hxx|⟨rfl,hxx⟩
     all_goals
      go_wp2_with fail
      go_quiet (fail)
      go_wp2
      go_ret;exact⟨by rw[E2.out];rfl,(qZ HX.out _)⟩
   ·have E2:=zH (show b=true by rw[E.out];exact Xh (q75 HLN.out k HN.out (by omega)));go_wp2_with fail
    go_ret;exact⟨by rw[E2.out];rfl,HX.out⟩
 ·have E2:=zH (show b=false by rw[E.out];exact Xf (fun g=>hn (by rw[g])));have hn':((l.length:Int)==(m.length:Int))=false:=XK.mpr (by omega);go_enter Tryz.func31,Tryz.ntmps31;go_wp2
  go_ret;exact⟨by rw[E2.out];rfl,zb _ _⟩
def zS(n least most:Int):Bool:=decide (least≤n∧n≤most)
def qi(t:Int×Int):Bool:=decide (0≤t.1∧t.1≤5∧(t.2=0∨t.1=3∧0≤t.2∧t.2≤7))
def kL(l:List (Int×Int))(n:Int):Bool:=decide ((l.length:Int)≤n∧∀t ∈l,qi t=true)
def kC(l:List Int)(n most:Int):Bool:=decide ((l.length:Int)≤n∧∀x ∈l,0≤x∧x≤most)
theorem qg8(n least most:Int)(w:World):Calls Tryz.prog 34 #[.int .i64 n,.int .i64 least,.int .i64 most] w fun e w'=>e= .returned (.bool (zS n least most))∧w=w':=by
 by_cases h:least≤n
 ·by_cases g:n≤most
  ·have E:=zH (show zS n least most=true from Xh ⟨h,g⟩);go_enter Tryz.func34,Tryz.ntmps34;go_wp2
   go_ret;exact⟨by rw[E.out];first|rfl|simp[g],rfl⟩
  ·have E:=zH (show zS n least most=false from Xf (fun x=>g x.2));go_enter Tryz.func34,Tryz.ntmps34;go_wp2
   go_ret;exact⟨by rw[E.out];first|rfl|simp[g],rfl⟩
 ·have E:=zH (show zS n least most=false from Xf (fun x=>h x.1));go_enter Tryz.func34,Tryz.ntmps34;go_wp2
  go_ret;exact⟨by rw[E.out];first|rfl|simp[h],rfl⟩
theorem kp{n least most:Int}{r:Bool}{w:World}(H:Hid (zS n least most=r)):Calls Tryz.prog 34 #[.int .i64 n,.int .i64 least,.int .i64 most] w fun e w'=>e= .returned (.bool r)∧w=w':=by
 have h:=qg8 n least most w;rw[H.out]at h;exact h
theorem q5c(t:Int×Int)(w:World):Calls Tryz.prog 35 #[zA t.1 t.2] w fun e w'=>e= .returned (.bool (qi t))∧Below w.heap.size w w':=by
 obtain⟨k,n⟩:=t;dsimp only;have HW:=zH ((zb w.heap.size w).alloc (zn _) (.cells #[.int .i64 k,.int .i64 n] 50));obtain⟨r,hr⟩:∃r,zS k 0 5=r:=⟨_,rfl⟩
 obtain⟨q,hq⟩:∃q,zS n 0 7=q:=⟨_,rfl⟩
 have R:=zH hr;have Q:=zH hq;have E:Hid (qi (k,n)=(r&& (decide (n=0)||(decide (k=3)&& q)))):=zH (by
  rw[←hr,←hq];unfold qi zS;rw[XV];simp;omega)
 clear hr hq;generalize qi (k,n)=b at E⊢
 cases r
 ·go_enter Tryz.func35,Tryz.ntmps35;go_wp2_with(go_at_call 34;(with_reducible refine(kp R).mono ?_);rintro e w' ⟨rfl,rfl⟩)
  go_ret;exact⟨by rw[E.out];rfl,HW.out⟩
 ·by_cases h0:n=0
  ·subst h0;go_enter Tryz.func35,Tryz.ntmps35;go_wp2_with(go_at_call 34;(with_reducible refine(kp R).mono ?_);rintro e w' ⟨rfl,rfl⟩)
   go_ret;exact⟨by rw[E.out];rfl,HW.out⟩
  ·by_cases h3:k=3
   ·subst h3;cases q;all_goals
     go_enter Tryz.func35,Tryz.ntmps35;go_wp2_with(first|(go_at_call 34;(with_reducible refine(kp R).mono ?_);rintro e w' ⟨rfl,rfl⟩)|(go_at_call 34;(with_reducible refine(kp Q).mono ?_);rintro e w' ⟨rfl,rfl⟩))
     go_ret;exact⟨by rw[E.out];simp[h0],HW.out⟩
   ·go_enter Tryz.func35,Tryz.ntmps35;go_wp2_with(go_at_call 34;(with_reducible refine(kp R).mono ?_);rintro e w' ⟨rfl,rfl⟩)
    go_ret;exact⟨by rw[E.out];simp[h0,h3],HW.out⟩
theorem qhx(l:List (Int×Int))(n:Int)(A:Option Addr)(cap B:Nat)(w:World)(hB:B≤w.heap.size)(h:zd zh 2 w B A cap l):
  Calls Tryz.prog 32 #[.slice A l.length cap,.int .i64 n] w fun e w'=>e= .returned (.bool (kL l n))∧Below w.heap.size w w':=by
 have hlc:=h.le;have hcm:=h.cap;have HL:=zH h;have HB:=zH hB;clear h hB;by_cases hn:n<l.length
 ·have E:=zH (show kL l n=false from Xf (fun x=>by omega));go_enter Tryz.func32,Tryz.ntmps32;go_wp2
  go_ret;exact⟨by rw[E.out];rfl,zb _ _⟩
 ·obtain⟨b,hb⟩:∃b,kL l n=b:=⟨_,rfl⟩
  rw[hb];have E:Hid (b=decide (∀t ∈l,qi t=true)):=zH (by rw[←hb];unfold kL;rw[Wa];exact⟨fun x=>x.2,fun x=>⟨by omega,x⟩⟩);clear hb;go_enter Tryz.func32,Tryz.ntmps32;go_wp2
  go_loopw [5] (fun i wr=>∃k:Nat,k≤l.length∧i= .int .i64 k∧Hid (∀t ∈l.take k,qi t=true)∧Hid (Below w.heap.size w wr)) (fun i _=>l.length - (intOf i).toNat)
  case atStart=>exact⟨0,by omega,rfl,zH (by simp),zH (zb _ _)⟩
  case round=>
   obtain⟨k,hk,rfl,HN,HX⟩:=hrel;by_cases hlt:k<l.length
   ·obtain⟨ad,rfl,hab,q0,q1⟩:=(HL.out.below_to zh.keeps HX.out HB.out).row.at_ hlt;have T1:=zH (show l.take (k+1)=l.take k++[l[k]]by rw[XA,Xc hlt];rfl);have M1:=zH (Xd hlt);generalize l[k]=t at*
    obtain⟨r,hr⟩:∃r,qi t=r:=⟨_,rfl⟩
    have R:=zH hr;clear hr;cases r
    ·have E2:=zH (show b=false by rw[E.out];exact Xf (fun x=>by have:=x t M1.out;rw[R.out]at this;cases this));go_wp2_with(go_at_call 35;(with_reducible refine(q5c t _).mono ?_);rintro e w1 ⟨he,hb⟩;rw[R.out]at he;subst he;have HX1:=zH (HX.out.trans (hb.mono HX.out.size)))
     go_ret;exact⟨by rw[E2.out];rfl,HX1.out⟩
    ·go_wp2_with(go_at_call 35;(with_reducible refine(q5c t _).mono ?_);rintro e w1 ⟨he,hb⟩;rw[R.out]at he;subst he;have HX1:=zH (HX.out.trans (hb.mono HX.out.size));clear hb)
     go_roundw;case rel=>exact⟨k+1,by omega,by go_num,zH (by rw[T1.out];intro s hs;rcases Xs.mp hs with g|g;exact HN.out s g;simp at g;subst g;exact R.out),HX1⟩
     case measure=>simp[intOf];omega
   ·have E2:=zH (show b=true by rw[E.out];exact Xh (by have:=HN.out;rwa [XH (by omega)]at this));go_wp2_with fail
    go_ret;exact⟨by rw[E2.out];rfl,HX.out⟩
theorem qmz(l:List Int)(n most:Int)(A:Option Addr)(cap B:Nat)(w:World)(hB:B≤w.heap.size)(h:zd zq 1 w B A cap l):
  Calls Tryz.prog 33 #[.slice A l.length cap,.int .i64 n,.int .i64 most] w fun e w'=>e= .returned (.bool (kC l n most))∧w=w':=by
 have hlc:=h.le;have hcm:=h.cap;have HL:=zH h;clear h;by_cases hn:n<l.length
 ·have E:=zH (show kC l n most=false from Xf (fun x=>by omega));go_enter Tryz.func33,Tryz.ntmps33;go_wp2
  go_ret;exact⟨by rw[E.out];rfl,rfl⟩
 ·obtain⟨b,hb⟩:∃b,kC l n most=b:=⟨_,rfl⟩
  rw[hb];have E:Hid (b=decide (∀t ∈l,0≤t∧t≤most)):=zH (by rw[←hb];unfold kC;rw[Wa];exact⟨fun x=>x.2,fun x=>⟨by omega,x⟩⟩);clear hb;go_enter Tryz.func33,Tryz.ntmps33;go_wp2
  go_loop [7] (fun i=>∃k:Nat,k≤l.length∧i= .int .i64 k∧Hid (∀t ∈l.take k,0≤t∧t≤most)) (fun i=>l.length - (intOf i).toNat)
  case atStart=>exact⟨0,by omega,rfl,zH (by simp)⟩
  case round=>
   obtain⟨k,hk,rfl,HN⟩:=hrel;by_cases hlt:k<l.length
   ·obtain⟨ad,rfl,hab,q0⟩:=HL.out.row.at_ hlt;rw[Xq]at q0;have T1:=zH (show l.take (k+1)=l.take k++[l[k]]by rw[XA,Xc hlt];rfl);have M1:=zH (Xd hlt);generalize l[k]=t at*
    have q0':w.cell? (ad.add k)=some (.int .i64 t):=q0;obtain⟨r,hr⟩:∃r,zS t 0 most=r:=⟨_,rfl⟩
    have R:=zH hr;clear hr;cases r
    ·have E2:=zH (show b=false by rw[E.out];exact Xf (fun x=>by have:=of_decide_eq_false R.out;exact this (x t M1.out)));go_wp2_with(go_at_call 34;(with_reducible refine(kp R).mono ?_);rintro e w1 ⟨rfl,rfl⟩)
     go_ret;exact⟨by rw[E2.out];rfl,rfl⟩
    ·go_wp2_with(go_at_call 34;(with_reducible refine(kp R).mono ?_);rintro e w1 ⟨rfl,rfl⟩)
     go_round
     case rel=>exact⟨k+1,by omega,by go_num,zH (by rw[T1.out];intro s hs;rcases Xs.mp hs with g|g;exact HN.out s g;simp at g;subst g;exact XN R.out)⟩
     case measure=>simp[intOf];omega
   ·have E2:=zH (show b=true by rw[E.out];exact Xh (by have:=HN.out;rwa [XH (by omega)]at this));go_wp2_with fail
    go_ret;exact⟨by rw[E2.out];rfl,rfl⟩
def qm(x:zf)(n:Int):Int×Int:=if 0≤n then(x.args++x.locals)[n.toNat]?.getD (0,0)else(0,0)
theorem qgg{x:zf}{n:Int}(h:n<0):qm x n=(0,0):=by unfold qm;rw[Xa (by omega)]
theorem qgh{x:zf}{j:Nat}(h:j<x.args.length):qm x j=x.args[j]:=by
 unfold qm;rw[Xb (by omega),Xe,XJ h,Xc h];rfl
theorem qf6{x:zf}{j:Nat}(h:j<x.locals.length):qm x ((x.args.length+j:Nat):Int)=x.locals[j]:=by
 unfold qm;rw[Xb (by omega),Xe,XM (by omega),Nat.add_sub_cancel_left,Xc h];rfl
theorem qfn{x:zf}{n:Int}(h:(x.args.length:Int)+x.locals.length≤n):qm x n=(0,0):=by
 unfold qm;rw[Xb (by omega),Xu (by rw[Xt];omega)];rfl
def jK(cl:List zO)(c n:Int):Option Int:=if 0≤c∧0≤n then cl[c.toNat]?.bind fun x=>x.slots[n.toNat]? else none
theorem q3w{cl:List zO}{i j:Nat}(hi:i<cl.length)(hj:j<cl[i].slots.length):jK cl i j=some cl[i].slots[j]:=by
 unfold jK;rw[Xb ⟨by omega,by omega⟩,Xe,Xc hi,Xe];simp[Xc hj]
theorem q73{cl:List zO}{c n:Int}(h:c<0∨(cl.length:Int)≤c):jK cl c n=none:=by
 unfold jK;split
 ·rename_i g;rw[Xu (by omega)];rfl
 ·rfl
theorem q7r{cl:List zO}{i:Nat}{n:Int}(hi:i<cl.length)(h:n<0∨(cl[i].slots.length:Int)≤n):jK cl i n=none:=by
 unfold jK;split
 ·rename_i g;rw[Xe,Xc hi];exact Xu (by omega)
 ·rfl
def q2q(o:Option Int)(w:World)(e:Ending)(w':World):Prop:=e= .returned (.tuple #[.int .i64 (o.getD 0),.bool o.isSome])∧Below w.heap.size w w'
theorem VU{sup:List Int}{a:Int}{s:Int}(h0:0≤a)(h:sup[a.toNat]? =some s):zv sup a=a::(if s<a then zv sup s else []):=by
 have e:=q1c h;have ea:(a.toNat:Int)=a:=by omega
 rw[ea]at e;rw[←e];unfold zv;rw[Xb h0]
theorem JO{sup:List Int}{a:Int}(h:a<0∨(sup.length:Int)≤a):zv sup a=[]:=by
 unfold zv;split
 ·exact VO (by omega)
 ·rfl
theorem q2g{sup:List Int}{a:Int}(h0:0≤a)(h1:a<sup.length):∃s,sup[a.toNat]? =some s:=
 ⟨_,Xc (show a.toNat<sup.length by omega)⟩
theorem Vi{sup:List Int}{a:Int}(h0:0≤a)(h1:a<sup.length):a ∈zv sup a:=by
 obtain⟨s,hs⟩:=q2g h0 h1;rw[VU h0 hs];exact XE
theorem q2b(sup:List Int)(n:Nat):∀a:Int,a<n→(∀b ∈zv sup a,0≤b∧b≤a∧a<sup.length)∧(∀b ∈zv sup a,∀c ∈zv sup b,c ∈zv sup a)∧
  (∀b ∈zv sup a,∀c ∈zv sup a,c≤b→c ∈zv sup b)∧(zv sup a).Pairwise (· > ·):=by
 induction n with
 |zero=>
  intro a ha;rw[JO (.inl (by omega))];simp
 |succ n ih=>
  intro a ha;by_cases hv:0≤a∧a<sup.length
  ·obtain⟨h0,h1⟩:=hv;obtain⟨s,hs⟩:=q2g h0 h1;have e:=VU h0 hs;by_cases hsa:s<a
   ·rw[Xb hsa]at e;obtain⟨i1,i2,i3,i4⟩:=ih s (by omega);refine⟨?_,?_,?_,?_⟩
    ·intro b hb;rw[e]at hb;rcases Xz.mp hb with rfl|hb
     ·exact⟨h0,by omega,h1⟩
     ·have:=i1 b hb;exact⟨this.1,by omega,h1⟩
    ·intro b hb c hc;rw[e]at hb;rcases Xz.mp hb with rfl|hb
     ·exact hc
     ·rw[e];exact XI _ (i2 b hb c hc)
    ·intro b hb c hc hcb;have hb':=hb;rw[e]at hb' hc;rcases Xz.mp hb' with rfl|hb2
     ·rw[e];exact hc
     ·rcases Xz.mp hc with rfl|hc2
      ·have:=i1 b hb2;omega
      ·exact i3 b hb2 c hc2 hcb
    ·rw[e,List.pairwise_cons];exact⟨fun b hb=>by have:=i1 b hb;omega,i4⟩
   ·rw[Xa hsa]at e;rw[e];refine⟨?_,?_,?_,by simp⟩
    ·intro b hb;simp at hb;subst hb;exact⟨h0,by omega,h1⟩
    ·intro b hb c hc;simp at hb;subst hb;rw[←e];exact hc
    ·intro b hb c hc _;simp at hb;subst hb;rw[e];exact hc
  ·rw[JO (by omega)];simp
theorem kj{sup:List Int}{a b:Int}(h:b ∈zv sup a):0≤b∧b≤a∧a<sup.length:=(q2b sup (a.toNat+1) a (by omega)).1 b h
theorem qh5{sup:List Int}{a b c:Int}(h:b ∈zv sup a)(g:c ∈zv sup b):c ∈zv sup a:=(q2b sup (a.toNat+1) a (by omega)).2.1 b h c g
theorem qlk{sup:List Int}{a b c:Int}(h:b ∈zv sup a)(g:c ∈zv sup a)(l:c≤b):c ∈zv sup b:=(q2b sup (a.toNat+1) a (by omega)).2.2.1 b h c g l
theorem qll(sup:List Int)(a:Int):(zv sup a).Pairwise (· > ·):=(q2b sup (a.toNat+1) a (by omega)).2.2.2
theorem qlm{sup:List Int}{a b:Int}(h:b ∈zv sup a)(g:a ∈zv sup b):a=b:=by
 have:=kj h;have:=kj g;omega
theorem QY{l:List Int}{n:Int}:zR l n=true↔n ∈l:=by unfold zR;simp
theorem vv(sup:List Int)(k n k' n':Int):zw sup k n k' n'=true↔(k=4∧(k'=2∨k'=3∨k'=4))∨(k=3∧k'=3∧n' ∈zv sup n)∨((k=1∨k=2)∧k=k'∧n=n'):=by
 unfold zw;by_cases h4:k=4
 ·subst h4;simp[vh]
 ·by_cases h3:k=3
  ·subst h3;simp[zR]
  ·simp[h3,h4]
structure YZ(w:World)(p:Addr)(hx:qh)(x:zf):Prop where
 c0:w.cell? p=some (.slice hx.A0 x.args.length hx.k0)
 c1:w.cell? (zc p 1)=some (.slice hx.A1 x.locals.length hx.k1)
 c2:w.cell? (zc p 2)=some (.int .i64 x.ret.1)
 c3:w.cell? (zc p 3)=some (.int .i64 x.ret.2)
 c4:w.cell? (zc p 4)=some (.slice hx.A4 x.code.length hx.k4)
 c5:w.cell? (zc p 5)=some (.int .i64 x.depth)
 c6:w.cell? (zc p 6)=some (.int .i64 x.pot)
 c7:w.cell? (zc p 7)=some (.slice hx.A7 x.phi.length hx.k7)
theorem YZ.keep{w w':World}{p:Addr}{hx:qh}{x:zf}{B:Nat}(h:YZ w p hx x)(hb:Below B w w')(hp:p.block<B):YZ w' p hx x:=
 ⟨(hb.cell hp).trans h.c0,(hb.cell (p:=zc p 1) hp).trans h.c1,(hb.cell (p:=zc p 2) hp).trans h.c2,(hb.cell (p:=zc p 3) hp).trans h.c3,(hb.cell (p:=zc p 4) hp).trans h.c4,
  (hb.cell (p:=zc p 5) hp).trans h.c5,(hb.cell (p:=zc p 6) hp).trans h.c6,(hb.cell (p:=zc p 7) hp).trans h.c7⟩
theorem qct{w:World}{B:Nat}{p:Addr}{x:zf}(h:vN w B p x):∃hx,qL w B hx x∧YZ w p hx x:=by
 obtain⟨⟨A0,k0,s0,hs0⟩,⟨A1,k1,s1,hs1⟩,s2,s3,⟨A4,k4,s4,hs4⟩,s5,s6,⟨A7,k7,s7,hs7⟩⟩:=h;exact⟨⟨A0,A1,A4,A7,k0,k1,k4,k7⟩,⟨hs0,hs1,hs4,hs7⟩,⟨s0,s1,s2,s3,s4,s5,s6,s7⟩⟩
theorem jJ{w:World}{B:Nat}{h:zg}{m:za}(H:zi w B h m){k:Nat}(hk:k<m.methods.length):∃ad hx,h.A3=some ad∧ad.block<B∧qL w B hx m.methods[k]∧YZ w (ad.add (k*8)) hx m.methods[k]:=by
 obtain⟨ad,e,hb,hm⟩:=H.methods.row.at_ hk;obtain⟨hx,h1,h2⟩:=qct hm;exact⟨ad,hx,e,hb,h1,h2⟩
theorem Jv(w:World)(v:Value)(T:TypeId):zx (w.alloc (.cells #[v] T)) (w.alloc (.cells #[v] T)).heap.size (some ⟨w.heap.size,0,none⟩) [v]:=fun j u hj=>by
 match j,hj with
 |0,hj=>simp at hj;subst hj;exact⟨_,rfl,by simp,by simp[Addr.add]⟩
 |j+1,hj=>simp at hj
theorem Qq{v:Value}(h:v.oneCell'=true):∀u ∈ [v],u.oneCell'=true:=fun u hu=>by
 rw[XG.mp hu];exact h
def oN(O:List Int)(t:Nat):Int:=O[t]?.getD 0
theorem Zb{O:List Int}{t:Nat}(h:t<O.length):oN O t=O[t]:=by unfold oN;rw[Xc h];rfl
theorem Yg{O:List Int}{f t:Nat}{v:Int}(hf:f<O.length):oN (O.set f v) t=if t=f then v else oN O t:=by
 unfold oN;rw[Wg];by_cases h:f=t
 ·subst h;rw[Xb rfl,Xb hf,Xb rfl];rfl
 ·rw[Xa h,Xa (fun e=>h e.symm)]
theorem JX{z v:Value}(hz:z.cells= #[v])(n:Nat):(madeCells z.cells (n*1)).toList=List.replicate n v:=by
 rw[hz];refine List.ext_getElem? fun i=> ?_;unfold madeCells;by_cases hi:i<n
 ·rw[Array.getElem?_toList,Array.getElem?_map,Array.getElem?_range,Xb (by omega),Wn,Xb hi];simp[Nat.mod_one]
 ·rw[Xu (by simp;omega),Xu (by simp;omega)]
theorem Yx{w:World}{base g n:Nat}{xs:List Value}{T:TypeId}(h:w.ownsRow base T 1 (.slice (some ⟨g,0,none⟩) n n) n xs):ze w g xs T:=by
 obtain⟨h0,h1⟩:=h;rcases h1 with⟨h1,_⟩|⟨g',cap,cur,h1,_,hh,_,_,hs,hx⟩
 ·cases h1
 ·injection h1 with e1 e2 e3;simp at e1;subst e1 e3;have hc:cur.toList=xs:=by rw[←hx,XH (by rw[Array.length_toList,hs];exact zn _)]
  unfold ze;rw[hh,←hc]
def zY(w:World)(g:Nat)(O:List Int):Prop:=ze w g (O.map (Value.int .i64)) 3
theorem zY.at_{w:World}{g t:Nat}{O:List Int}(h:zY w g O)(ht:t<O.length):w.cell? ⟨g,t,none⟩=some (.int .i64 (oN O t)):=by
 refine h.cells t _ ?_;rw[Xx,Xc ht,Zb ht];rfl
theorem zY.set{w:World}{g t:Nat}{O:List Int}(h:zY w g O)(v:Int):zY (w.setCell ⟨g,t,none⟩ (.int .i64 v)) g (O.set t v):=by
 have:=ze.set h t (.int .i64 v);unfold zY;rw[List.map_set];exact this
theorem zY.keep{w w':World}{g:Nat}{O:List Int}(h:zY w g O)(hb:Below w.heap.size w w'):zY w' g O:=ze.keep h hb (ze.lt h)
theorem zY.slc{w:World}{g n:Nat}{O:List Int}(h:zY w g O)(hn:O.length=n)(hl:n≤1000):zd zq 1 w w.heap.size (some ⟨g,0,none⟩) n O:=
 ⟨by omega,by omega,fun i x hi=>by
  obtain⟨hi',e⟩:=Xw.mp hi;have hc:=h.at_ hi';rw[Zb hi',e]at hc;refine⟨_,rfl,ze.lt h,?_⟩;show w.cell? (Addr.add ⟨g,0,none⟩ (i*1))=_;rw[show Addr.add ⟨g,0,none⟩ (i*1)=⟨g,i,none⟩by unfold Addr.add;split<;>simp_all];exact hc⟩
def qb{α:Type}(f:Nat→α)(a:Nat)(b:α):Nat→α:=fun x=>if x=a then b else f x
theorem kx{α:Type}(f:Nat→α)(a:Nat)(b:α):qb f a b a=b:=Xb rfl
theorem Zq{α:Type}(f:Nat→α){a x:Nat}(b:α)(h:x≠a):qb f a b x=f x:=Xa h
def vX(n:Nat)(f:Nat→Int):List Int:=(List.range n).map f
theorem JU(n:Nat)(f:Nat→Int):(vX n f).length=n:=by unfold vX;rw[Xi,Wb]
theorem q5t{n v:Nat}(f:Nat→Int)(hv:v<n):oN (vX n f) v=f v:=by
 rw[Zb (by rw[JU];exact hv)];unfold vX;simp
theorem q5e{n v:Nat}(f:Nat→Int)(b:Int):(vX n f).set v b=vX n (qb f v b):=by
 refine Wl (by rw[XD,JU,JU]) fun i h1 h2=> ?_;rw[JU]at h2;have hl:v<n→v<(vX n f).length:=fun q=>by rw[JU];exact q
 have hg:∀(F:Nat→Int) (h:i<(vX n F).length),(vX n F)[i]=F i:=fun F h=>(List.getElem_eq_iff h).mpr (by unfold vX;rw[Xx,Ws h2];rfl);rw[List.getElem_set,hg,hg];unfold qb;by_cases e:v=i
 ·subst e;simp
 ·rw[Xa e,Xa (fun q:i=v=>e q.symm)]
abbrev jX:Int:=9223372036854775807
structure Wk where
 met:Nat
 place:Nat→Nat
 back:Nat→Int
 gone:Nat→Nat
 way:List Nat
 opn:List Nat
 parts:List (List Nat)
abbrev eds(EL:List (List Int))(v:Nat):List Int:=EL[v]?.getD []
section
variable(EL:List (List Int))(n:Nat)
structure zN(S:Wk):Prop where
 wsub:∀p ∈S.way,p ∈S.opn
 winc:S.way.Pairwise (fun a b=>S.place a<S.place b)
 oinc:S.opn.Pairwise (fun a b=>S.place a<S.place b)
 olt:∀v ∈S.opn,v<n
 opos:∀v ∈S.opn,0<S.place v∧S.place v≤S.met
 zero:∀v,v<n→0<S.place v→v ∈S.opn∨v ∈S.parts.flatten
 clt:∀v ∈S.parts.flatten,v<n∧0<S.place v∧v ∉S.opn∧S.back v=jX
 cnt:S.met+QI (fun v=>decide (0<S.place v)) n=n
 gz:∀v,v<n→S.place v=0→S.gone v=0
 bin:∀v ∈S.opn,1≤S.back v∧S.back v≤S.place v∧∃u ∈S.opn,(S.place u:Int)=S.back v∧(u=v∨qv EL n v u)
 gle:∀v ∈S.opn,S.gone v≤(eds EL v).length
 low:∀v ∈S.opn,∀t:Nat,t<n→(t:Int) ∈(eds EL v).take (S.gone v)→t ∈S.parts.flatten∨(t ∈S.opn∧S.back v≤S.place t)
 fin:∀v ∈S.opn,v ∉S.way→S.gone v=(eds EL v).length∧S.back v<S.place v
 tree:∀p ∈S.way,∀v ∈S.opn,S.place p≤S.place v→p=v∨qv EL n p v
 subt:∀p ∈S.way,∀v ∈S.opn,v ∉S.way→S.place p<S.place v→(∀q ∈S.way,S.place p<S.place q→S.place v<S.place q)→S.back p≤S.back v
 nod:S.parts.flatten.Nodup
 ord:∀i (h:i<S.parts.length),∀v ∈S.parts[i],∀t,t<n→vl EL v t→∃j,∃h:j<S.parts.length,j≤i∧t ∈S.parts[j]
 ring:∀c ∈S.parts,∀a ∈c,∀b ∈c,a=b∨qv EL n a b
 srt:∀c ∈S.parts,c≠ []∧c.Pairwise (· < ·)
end
section
variable{EL:List (List Int)}{n:Nat}{S:Wk}
theorem pw_inj{l:List Nat}{f:Nat→Nat}(h:l.Pairwise (fun a b=>f a<f b)){a b:Nat}(ha:a ∈l)(hb:b ∈l)(e:f a=f b):a=b:=by
 induction l with
 |nil=>cases ha
 |cons x l ih=>
  rw[List.pairwise_cons]at h;rcases Xz.mp ha with rfl|ha'<;>rcases Xz.mp hb with rfl|hb'
  ·rfl
  ·have:=h.1 b hb';omega
  ·have:=h.1 a ha';omega
  ·exact ih h.2 ha' hb'
theorem qdw{l:List Nat}{f g:Nat→Nat}(h:l.Pairwise (fun a b=>f a<f b))(e:∀v ∈l,g v=f v):l.Pairwise (fun a b=>g a<g b):=
 List.Pairwise.imp_of_mem (fun {a b} ha hb q=>by rw[e a ha,e b hb];exact q) h
theorem qdv{l:List Nat}{f:Nat→Nat}{v:Nat}(h:l.Pairwise (fun a b=>f a<f b))(hv:∀a ∈l,f a<f v):(l++[v]).Pairwise (fun a b=>f a<f b):=by
 rw[Wp];exact⟨h,List.pairwise_singleton _ _,fun a ha b hb=>by rw[XG]at hb;subst hb;exact hv a ha⟩
theorem zN.start:zN EL n ⟨0,fun _=>0,fun _=>0,fun _=>0,[],[],[]⟩where
 wsub:=fun p hp=>by cases hp
 winc:=List.Pairwise.nil
 oinc:=List.Pairwise.nil
 olt:=fun v hv=>by cases hv
 opos:=fun v hv=>by cases hv
 zero:=fun v _ h=>by simp at h
 clt:=fun v hv=>by cases hv
 cnt:=by
  have:=q8e n;simpa using this
 gz:=fun _ _ _=>rfl
 bin:=fun v hv=>by cases hv
 gle:=fun v hv=>by cases hv
 low:=fun v hv=>by cases hv
 fin:=fun v hv=>by cases hv
 tree:=fun p hp=>by cases hp
 subt:=fun p hp=>by cases hp
 nod:=by simp
 ord:=fun i h=>by simp at h
 ring:=fun c hc=>by cases hc
 srt:=fun c hc=>by cases hc
theorem zN.met_le(h:zN EL n S):S.met≤n:=by have:=h.cnt;omega
theorem zN.met_lt(h:zN EL n S){v:Nat}(hv:v<n)(h0:S.place v=0):S.met<n:=by
 have h1:=q1t (p:=fun v=>decide (0<S.place v)) (g:=v) (by simp[h0]) n hv;have:=h.cnt;omega
def Wk.meet(S:Wk)(v:Nat):Wk:=⟨S.met+1,qb S.place v (S.met+1),qb S.back v ((S.met+1:Nat):Int),S.gone,S.way++[v],S.opn++[v],S.parts⟩
theorem zN.meet(h:zN EL n S){v:Nat}(hv:v<n)(h0:S.place v=0)(hr:∀p ∈S.way,qv EL n p v):zN EL n (S.meet v):=by
 have hno:∀x ∈S.opn,x≠v:=fun x hx e=>by subst e;have:=(h.opos x hx).1;omega
 have hnc:∀x ∈S.parts.flatten,x≠v:=fun x hx e=>by subst e;have:=(h.clt x hx).2.1;omega
 have hnw:∀x ∈S.way,x≠v:=fun x hx=>hno x (h.wsub x hx);have hpl:∀x,x≠v→(S.meet v).place x=S.place x:=fun x hx=>Zq _ _ hx;have hbk:∀x,x≠v→(S.meet v).back x=S.back x:=fun x hx=>Zq _ _ hx;have hpv:(S.meet v).place v=S.met+1:=kx _ _ _;have hbv:(S.meet v).back v=((S.met+1:Nat):Int):=kx _ _ _;have hmo:∀{x},x ∈(S.meet v).opn→x ∈S.opn∨x=v:=fun {x} hx=>by
  have hx:x ∈S.opn++[v]:=hx;simpa using hx
 have hmw:∀{x},x ∈(S.meet v).way→x ∈S.way∨x=v:=fun {x} hx=>by
  have hx:x ∈S.way++[v]:=hx;simpa using hx
 have hio:∀{x},x ∈S.opn→x ∈(S.meet v).opn:=fun {x} hx=>List.mem_append_left _ hx;have hiw:∀{x},x ∈S.way→x ∈(S.meet v).way:=fun {x} hx=>List.mem_append_left _ hx;have hiv:v ∈(S.meet v).opn:=by show v ∈S.opn++[v];simp
 have hwv:v ∈(S.meet v).way:=by show v ∈S.way++[v];simp
 refine⟨?_,?_,?_,?_,?_,?_,?_,?_,?_,?_,?_,?_,?_,?_,?_,h.nod,h.ord,h.ring,h.srt⟩
 ·intro p hp;rcases hmw hp with q|rfl
  ·exact hio (h.wsub p q)
  ·exact hiv
 ·show(S.way++[v]).Pairwise _;refine qdv (qdw h.winc (fun x hx=>hpl x (hnw x hx))) (fun a ha=> ?_);rw[hpl a (hnw a ha),hpv];have:=(h.opos a (h.wsub a ha)).2;omega
 ·show(S.opn++[v]).Pairwise _;refine qdv (qdw h.oinc (fun x hx=>hpl x (hno x hx))) (fun a ha=> ?_);rw[hpl a (hno a ha),hpv];have:=(h.opos a ha).2;omega
 ·intro x hx;rcases hmo hx with q|rfl
  ·exact h.olt x q
  ·exact hv
 ·intro x hx;rcases hmo hx with q|rfl
  ·rw[hpl x (hno x q)];have:=h.opos x q;exact⟨this.1,Nat.le_succ_of_le this.2⟩
  ·rw[hpv];exact⟨by omega,zn _⟩
 ·intro x hx hp;by_cases e:x=v
  ·subst e;exact .inl hiv
  ·rw[hpl x e]at hp;rcases h.zero x hx hp with q|q
   ·exact .inl (hio q)
   ·exact .inr q
 ·intro x hx;have hx':x ∈S.parts.flatten:=hx;have e:=hnc x hx';obtain⟨h1,h2,h3,h4⟩:=h.clt x hx';refine⟨h1,by rw[hpl x e];exact h2,fun q=> ?_,by rw[hbk x e];exact h4⟩;rcases hmo q with q|q
  ·exact h3 q
  ·exact e q
 ·have h1:=q1t (p:=fun v=>decide (0<S.place v)) (g:=v) (by simp[h0]) n hv;have h2:(fun x=>decide (0<(S.meet v).place x))=fun k=>decide (0<S.place k)||decide (k=v):=funext fun x=>by
   by_cases e:x=v
   ·subst e;rw[hpv];simp
   ·rw[hpl x e];simp[e]
  rw[h2];have:=h.cnt;show S.met+1+_=n;omega
 ·intro x hx hp;by_cases e:x=v
  ·subst e;exact h.gz x hx h0
  ·rw[hpl x e]at hp;exact h.gz x hx hp
 ·intro x hx;rcases hmo hx with q|rfl
  ·rw[hpl x (hno x q),hbk x (hno x q)];obtain⟨h1,h2,u,h3,h4,h5⟩:=h.bin x q;exact⟨h1,h2,u,hio h3,by rw[hpl u (hno u h3)];exact h4,h5⟩
  ·rw[hpv,hbv];exact⟨by omega,XR _,x,hiv,by rw[hpv],.inl rfl⟩
 ·intro x hx;rcases hmo hx with q|rfl
  ·exact h.gle x q
  ·show S.gone x≤_;rw[h.gz x hv h0];exact Xl _
 ·intro x hx t ht hm;rcases hmo hx with q|rfl
  ·rcases h.low x q t ht hm with r|⟨r1,r2⟩
   ·exact .inl r
   ·exact .inr ⟨hio r1,by rw[hbk x (hno x q),hpl t (hno t r1)];exact r2⟩
  ·have hm:(t:Int) ∈(eds EL x).take (S.gone x):=hm;rw[h.gz x hv h0,List.take_zero]at hm;cases hm
 ·intro x hx hw;rcases hmo hx with q|rfl
  ·rw[hbk x (hno x q),hpl x (hno x q)];exact h.fin x q (fun r=>hw (hiw r))
  ·exact absurd hwv hw
 ·intro p hp x hx hpx;rcases hmw hp with q|rfl
  ·rcases hmo hx with r|rfl
   ·rw[hpl p (hnw p q),hpl x (hno x r)]at hpx;exact h.tree p q x r hpx
   ·exact .inr (hr p q)
  ·rcases hmo hx with r|rfl
   ·rw[hpv,hpl x (hno x r)]at hpx;have:=(h.opos x r).2;omega
   ·exact .inl rfl
 ·intro p hp x hx hxw hpx hq;have hxv:x≠v:=fun e=>hxw (by rw[e];exact hwv);have hxo:x ∈S.opn:=(hmo hx).resolve_right hxv;rcases hmw hp with q|rfl
  ·rw[hpl p (hnw p q),hpl x hxv]at hpx;rw[hbk p (hnw p q),hbk x hxv];refine h.subt p q x hxo (fun r=>hxw (hiw r)) hpx (fun y hy hpy=> ?_);have:=hq y (hiw hy) (by rw[hpl p (hnw p q),hpl y (hnw y hy)];exact hpy);rw[hpl x hxv,hpl y (hnw y hy)]at this;exact this
  ·rw[hpv,hpl x hxv]at hpx;have:=(h.opos x hxo).2;omega
def Wk.go(S:Wk)(v:Nat):Wk:={S with gone:=qb S.gone v (S.gone v+1)}
theorem zN.go(h:zN EL n S){v:Nat}(hw:v ∈S.way)(hl:S.gone v<(eds EL v).length)(ht:∀t:Nat,t<n→(eds EL v)[S.gone v]=(t:Int)→t ∈S.parts.flatten∨(t ∈S.opn∧S.back v≤S.place t)):zN EL n (S.go v):=by
 refine⟨h.wsub,h.winc,h.oinc,h.olt,h.opos,h.zero,h.clt,h.cnt,?_,h.bin,?_,?_,?_,h.tree,h.subt,h.nod,h.ord,h.ring,h.srt⟩
 ·intro x hx hp;have hne:x≠v:=fun e=>by subst e;have:=(h.opos x (h.wsub x hw)).1;exact absurd hp (by show S.place x≠0;omega)
  show qb _ _ _ _=0;rw[Zq _ _ hne];exact h.gz x hx hp
 ·intro x hx;show qb _ _ _ _≤_;by_cases e:x=v
  ·subst e;rw[kx];exact hl
  ·rw[Zq _ _ e];exact h.gle x hx
 ·intro x hx t htn hm;have hm:(t:Int) ∈(eds EL x).take (qb S.gone v (S.gone v+1) x):=hm;by_cases e:x=v
  ·subst e;rw[kx,XA,Xc hl,Xs]at hm;rcases hm with hm|hm
   ·exact h.low x hx t htn hm
   ·refine ht t htn ?_;simp at hm;exact hm.symm
  ·rw[Zq _ _ e]at hm;exact h.low x hx t htn hm
 ·intro x hx hxw;have e:x≠v:=fun e=>hxw (by rw[e];exact hw);show qb _ _ _ _=_∧_;rw[Zq _ _ e];exact h.fin x hx hxw
def Wk.lower(S:Wk)(v:Nat)(b:Int):Wk:={S with back:=qb S.back v b}
theorem zN.lower(h:zN EL n S){v:Nat}{b:Int}(hw:v ∈S.way)(h1:1≤b)(h2:b≤S.back v)(hu:∃u ∈S.opn,(S.place u:Int)=b∧(u=v∨qv EL n v u)):zN EL n (S.lower v b):=by
 have hle:∀x,(S.lower v b).back x≤S.back x:=fun x=>by
  show qb _ _ _ _≤_;by_cases e:x=v
  ·subst e;rw[kx];exact h2
  ·rw[Zq _ _ e];exact XR _
 have hne:∀x,x≠v→(S.lower v b).back x=S.back x:=fun x e=>Zq _ _ e;refine⟨h.wsub,h.winc,h.oinc,h.olt,h.opos,h.zero,?_,h.cnt,h.gz,?_,h.gle,?_,?_,h.tree,?_,h.nod,h.ord,h.ring,h.srt⟩
 ·intro x hx;obtain⟨g1,g2,g3,g4⟩:=h.clt x hx;have e:x≠v:=fun e=>g3 (by rw[e];exact h.wsub v hw);exact⟨g1,g2,g3,by rw[hne x e];exact g4⟩
 ·intro x hx;by_cases e:x=v
  ·subst e;have hb:(S.lower x b).back x=b:=kx _ _ _;rw[hb];exact⟨h1,Int.le_trans h2 (h.bin x hx).2.1,hu⟩
  ·rw[hne x e];exact h.bin x hx
 ·intro x hx t ht hm;rcases h.low x hx t ht hm with r|⟨r1,r2⟩
  ·exact .inl r
  ·exact .inr ⟨r1,Int.le_trans (hle x) r2⟩
 ·intro x hx hxw;have e:x≠v:=fun e=>hxw (by rw[e];exact hw);rw[hne x e];exact h.fin x hx hxw
 ·intro p hp x hx hxw hpx hq;have e:x≠v:=fun e=>hxw (by rw[e];exact hw);rw[hne x e];exact Int.le_trans (hle p) (h.subt p hp x hx hxw hpx hq)
theorem zN.see(h:zN EL n S)(hn:(n:Int)≤jX){v t:Nat}(hw:v ∈S.way)(ht:t<n)(h0:0<S.place t)(he:vl EL v t):
  zN EL n (S.lower v (min (S.back v) (S.back t)))∧(t ∈S.parts.flatten∨(t ∈S.opn∧min (S.back v) (S.back t)≤S.place t)):=by
 have hvo:=h.wsub v hw;obtain⟨b1,b2,u,hu,b3,b4⟩:=h.bin v hvo;rcases h.zero t ht h0 with q|q
 ·obtain⟨c1,c2,x,hx,c3,c4⟩:=h.bin t q;refine⟨h.lower hw (by omega) (by omega) ?_,.inr ⟨q,by omega⟩⟩;by_cases hm:S.back v≤S.back t
  ·rw[show min (S.back v) (S.back t)=S.back v by omega];exact⟨u,hu,b3,b4⟩
  ·rw[show min (S.back v) (S.back t)=S.back t by omega];refine⟨x,hx,c3,.inr ?_⟩;rcases c4 with rfl|c4
   ·exact .one he
   ·exact(qv.one he).join ht c4
 ·have hb:S.back t=jX:=(h.clt t q).2.2.2;have hp:=(h.opos v hvo).2;have hn':(S.place v:Int)≤jX:=by have:=h.met_le;omega
  rw[show min (S.back v) (S.back t)=S.back v by omega];exact⟨h.lower hw b1 (XR _) ⟨u,hu,b3,b4⟩,.inl q⟩
theorem zN.none_open(h:zN EL n S)(hw:S.way=[]):S.opn=[]:=by
 have H:∀k v,v ∈S.opn→S.place v≤k→False:=by
  intro k
  induction k with
  |zero=>intro v hv hk;have:=(h.opos v hv).1;omega
  |succ k ih=>
   intro v hv hk;obtain⟨_,_,u,hu,e,_⟩:=h.bin v hv;have:=(h.fin v hv (by rw[hw];simp)).2;exact ih u hu (by omega)
 cases ho:S.opn with
 |nil=>rfl
 |cons v l=>exact(H (S.place v) v (by rw[ho];exact XE ..) (zn _)).elim
def Wk.pop(S:Wk):Wk:={S with way:=S.way.dropLast}
theorem zN.pop(h:zN EL n S){W:List Nat}{v:Nat}(hw:S.way=W++[v])(hg:S.gone v=(eds EL v).length)(hb:S.back v<S.place v)(hl:∀p ∈W,(∀q ∈W,S.place q≤S.place p)→S.back p≤S.back v):zN EL n S.pop:=by
 have hpop:S.pop.way=W:=by show S.way.dropLast=W;rw[hw];simp
 have hin:∀{p},p ∈W→p ∈S.way:=fun {p} hp=>by rw[hw];exact List.mem_append_left _ hp
 have hvw:v ∈S.way:=by rw[hw];simp
 have hvo:=h.wsub v hvw;have hwi:=h.winc;rw[hw,Wp]at hwi;have hlt:∀p ∈W,S.place p<S.place v:=fun p hp=>hwi.2.2 p hp v (by simp);refine⟨?_,?_,h.oinc,h.olt,h.opos,h.zero,h.clt,h.cnt,h.gz,h.bin,h.gle,h.low,?_,?_,?_,h.nod,h.ord,h.ring,h.srt⟩
 ·intro p hp;rw[hpop]at hp;exact h.wsub p (hin hp)
 ·rw[hpop];exact hwi.1
 ·intro x hx hxw;rw[hpop]at hxw;by_cases e:x=v
  ·subst e;exact⟨hg,hb⟩
  ·exact h.fin x hx (fun q=>by
    rw[hw,Xs,XG]at q;rcases q with q|q
    ·exact hxw q
    ·exact e q)
 ·intro p hp x hx hpx;rw[hpop]at hp;exact h.tree p (hin hp) x hx hpx
 ·intro p hp x hx hxw hpx hq;rw[hpop]at hp hxw hq;have hpx:S.place p<S.place x:=hpx;show S.back p≤S.back x;have hq:∀q ∈W,S.place p<S.place q→S.place x<S.place q:=hq;by_cases e:x=v
  ·subst e;exact hl p hp (fun q hq'=>by
    rcases Xj (S.place p) (S.place q)with r|r
    ·have:=hq q hq' r;have:=hlt q hq';omega
    ·exact r)
  ·have hxw':x ∉S.way:=fun q=>by
    rw[hw,Xs,XG]at q;rcases q with q|q
    ·exact hxw q
    ·exact e q
   rcases Xj (S.place x) (S.place v)with r|r
   ·refine h.subt p (hin hp) x hx hxw' hpx (fun q hq' hpq=> ?_);rw[hw,Xs,XG]at hq';rcases hq' with hq'|rfl
    ·exact hq q hq' hpq
    ·exact r
   ·have r':S.place v<S.place x:=by
     rcases Xj (S.place v) (S.place x)with q|q
     ·exact q
     ·exact absurd (pw_inj h.oinc hx hvo (by omega)) e
    have h1:=h.subt v hvw x hx hxw' r' (fun q hq' hpq=>by
     rw[hw,Xs,XG]at hq';rcases hq' with hq'|rfl
     ·have:=hlt q hq';omega
     ·omega)
    refine Int.le_trans (hl p hp (fun q hq'=> ?_)) h1;rcases Xj (S.place p) (S.place q)with y|y
    ·have:=hq q hq' y;have:=hlt q hq';omega
    ·exact y
def Wk.close(S:Wk)(O:List Nat)(X c:List Nat):Wk:=⟨S.met,S.place,fun x=>if x ∈X then jX else S.back x,S.gone,S.way.dropLast,O,S.parts++[c]⟩
theorem zN.close(h:zN EL n S){W O X c:List Nat}{v:Nat}(hw:S.way=W++[v])(ho:S.opn=O++v::X)(hg:S.gone v=(eds EL v).length)(hb:S.back v=S.place v)(hc:c.Perm (v::X))(hs:c.Pairwise (· ≤ ·)):zN EL n (S.close O (v::X) c):=by
 have hvw:v ∈S.way:=by rw[hw];simp
 have hvo:=h.wsub v hvw;have hwi:=h.winc;rw[hw,Wp]at hwi;have hlt:∀p ∈W,S.place p<S.place v:=fun p hp=>hwi.2.2 p hp v (by simp);have hoi:=h.oinc;rw[ho,Wp,List.pairwise_cons]at hoi;have hO:∀x ∈O,S.place x<S.place v:=fun x hx=>hoi.2.2 x hx v (XE ..);have hX:∀x ∈X,S.place v<S.place x:=fun x hx=>hoi.2.1.1 x hx;have hXo:∀x ∈v::X,x ∈S.opn:=fun x hx=>by rw[ho];exact List.mem_append_right _ hx
 have hOo:∀x ∈O,x ∈S.opn:=fun x hx=>by rw[ho];exact List.mem_append_left _ hx
 have hvX:∀x ∈v::X,S.place v≤S.place x:=fun x hx=>by
  rcases Xz.mp hx with rfl|q
  ·exact zn _
  ·exact Xk (hX x q)
 have hsp:∀x ∈S.opn,(x ∈O∧S.place x<S.place v)∨(x ∈v::X∧S.place v≤S.place x):=fun x hx=>by
  rw[ho,Xs]at hx;rcases hx with q|q
  ·exact .inl ⟨q,hO x q⟩
  ·exact .inr ⟨q,hvX x q⟩
 have hOX:∀x ∈O,x ∉v::X:=fun x hx q=>by have:=hO x hx;have:=hvX x q;omega
 have hXw:∀x ∈X,x ∉S.way:=fun x hx q=>by
  rw[hw,Xs,XG]at q;have:=hX x hx;rcases q with q|rfl
  ·have:=hlt x q;omega
  ·omega
 have hXf:∀x ∈X,S.gone x=(eds EL x).length∧S.back x<S.place x∧S.back v≤S.back x:=fun x hx=>by
  have hxo:=hXo x (XI _ hx);obtain⟨h1,h2⟩:=h.fin x hxo (hXw x hx);exact⟨h1,h2,h.subt v hvw x hxo (hXw x hx) (hX x hx) (fun q hq hpq=>by
   rw[hw,Xs,XG]at hq;rcases hq with hq|rfl
   ·have:=hlt q hq;omega
   ·omega)⟩
 have hto:∀k x,x ∈v::X→S.place x≤k→x=v∨qv EL n x v:=by
  intro k
  induction k with
  |zero=>intro x hx hk;have:=(h.opos x (hXo x hx)).1;omega
  |succ k ih=>
   intro x hx hk;rcases Xz.mp hx with q|q
   ·exact .inl q
   ·obtain⟨_,h2,h3⟩:=hXf x q;obtain⟨_,_,u,hu,e,hw'⟩:=h.bin x (hXo x hx);have huX:u ∈v::X:=by
     rcases hsp u hu with⟨_,r⟩|⟨r,_⟩
     ·omega
     ·exact r
    rcases hw' with rfl|hw'
    ·omega
    ·rcases ih u huX (by omega)with rfl|r
     ·exact .inr hw'
     ·exact .inr (hw'.join (h.olt u hu) r)
 have hfrom:∀x ∈v::X,v=x∨qv EL n v x:=fun x hx=>h.tree v hvw x (hXo x hx) (hvX x hx);have hgl:∀x ∈v::X,S.gone x=(eds EL x).length∧(S.place v:Int)≤S.back x:=fun x hx=>by
  rcases Xz.mp hx with rfl|q
  ·exact⟨hg,by omega⟩
  ·obtain⟨h1,_,h3⟩:=hXf x q;exact⟨h1,by omega⟩
 have hed:∀x ∈v::X,∀t,t<n→vl EL x t→t ∈S.parts.flatten∨t ∈v::X:=fun x hx t ht he=>by
  obtain⟨h1,h2⟩:=hgl x hx;rcases h.low x (hXo x hx) t ht (by rw[h1,XP];exact he)with q|⟨q1,q2⟩
  ·exact .inl q
  ·rcases hsp t q1 with⟨_,r⟩|⟨r,_⟩
   ·omega
   ·exact .inr r
 have hmc:∀x,x ∈c↔x ∈v::X:=fun x=>hc.mem_iff;have hfl:(S.close O (v::X) c).parts.flatten=S.parts.flatten++c:=by show(S.parts++[c]).flatten=_;simp
 have hpw:(S.close O (v::X) c).way=W:=by show S.way.dropLast=W;rw[hw];simp
 have hbo:∀x ∈O,(S.close O (v::X) c).back x=S.back x:=fun x hx=>Xa (hOX x hx);have hbX:∀x ∈v::X,(S.close O (v::X) c).back x=jX:=fun x hx=>Xb hx;have hWw:∀{p},p ∈W→p ∈S.way:=fun {p} hp=>by rw[hw];exact List.mem_append_left _ hp
 have hWO:∀p ∈W,p ∈O:=fun p hp=>by
  rcases hsp p (h.wsub p (hWw hp))with⟨q,_⟩|⟨_,q⟩
  ·exact q
  ·have:=hlt p hp;omega
 have hwc:∀x ∈O,x ∉W→x ∉S.way:=fun x hx hxw q=>by
  rw[hw,Xs,XG]at q;rcases q with q|rfl
  ·exact hxw q
  ·have:=hO x hx;omega
 have hnX:(v::X).Nodup:=by
  have:(v::X).Pairwise (fun a b=>S.place a<S.place b):=by rw[List.pairwise_cons];exact hoi.2.1
  exact this.imp (fun {a b} q e=>by subst e;omega)
 refine⟨?_,?_,hoi.1,?_,?_,?_,?_,h.cnt,h.gz,?_,?_,?_,?_,?_,?_,?_,?_,?_,?_⟩
 ·intro p hp;rw[hpw]at hp;exact hWO p hp
 ·rw[hpw];exact hwi.1
 ·exact fun x hx=>h.olt x (hOo x hx)
 ·exact fun x hx=>h.opos x (hOo x hx)
 ·intro x hx hp;rw[hfl,Xs];rcases h.zero x hx hp with q|q
  ·rcases hsp x q with⟨r,_⟩|⟨r,_⟩
   ·exact .inl r
   ·exact .inr (.inr ((hmc x).mpr r))
  ·exact .inr (.inl q)
 ·intro x hx;rw[hfl,Xs]at hx;rcases hx with q|q
  ·obtain⟨h1,h2,h3,h4⟩:=h.clt x q;refine⟨h1,h2,fun r=>h3 (hOo x r),?_⟩;show(if x ∈v::X then jX else S.back x)=jX;rw[Xa (fun r=>h3 (hXo x r))];exact h4
  ·rw[hmc]at q;exact⟨h.olt x (hXo x q),(h.opos x (hXo x q)).1,fun r=>hOX x r q,hbX x q⟩
 ·intro x hx;rw[hbo x hx];obtain⟨h1,h2,u,hu,h3,h4⟩:=h.bin x (hOo x hx);refine⟨h1,h2,u,?_,h3,h4⟩;rcases hsp u hu with⟨r,_⟩|⟨_,r⟩
  ·exact r
  ·have:=hO x hx;omega
 ·exact fun x hx=>h.gle x (hOo x hx)
 ·intro x hx t ht hm;rw[hfl,Xs,hbo x hx];rcases h.low x (hOo x hx) t ht hm with q|⟨q1,q2⟩
  ·exact .inl (.inl q)
  ·rcases hsp t q1 with⟨r,_⟩|⟨r,_⟩
   ·exact .inr ⟨r,q2⟩
   ·exact .inl (.inr ((hmc t).mpr r))
 ·intro x hx hxw;rw[hpw]at hxw;rw[hbo x hx];exact h.fin x (hOo x hx) (hwc x hx hxw)
 ·intro p hp x hx hpx;rw[hpw]at hp;exact h.tree p (hWw hp) x (hOo x hx) hpx
 ·intro p hp x hx hxw hpx hq;rw[hpw]at hp hxw hq;rw[hbo p (hWO p hp),hbo x hx];refine h.subt p (hWw hp) x (hOo x hx) (hwc x hx hxw) hpx (fun q hq' hpq=> ?_);rw[hw,Xs,XG]at hq';rcases hq' with hq'|rfl
  ·exact hq q hq' hpq
  ·exact hO x hx
 ·rw[hfl,List.nodup_append];refine⟨h.nod,hc.nodup_iff.mpr hnX,fun a ha b hb e=> ?_⟩;subst e;exact(h.clt a ha).2.2.1 (hXo a ((hmc a).mp hb))
 ·intro i hi x hx t ht he;have hi':i<(S.parts++[c]).length:=hi;have hx:x ∈(S.parts++[c])[i]:=hx;rcases Xj i S.parts.length with q|q
  ·rw[List.getElem_append_left q]at hx;obtain⟨j,hj,hji,hm⟩:=h.ord i q x hx t ht he;refine⟨j,by show j<(S.parts++[c]).length;simp;omega,hji,?_⟩;show t ∈(S.parts++[c])[j]'_;rw[List.getElem_append_left hj];exact hm
  ·have hi2:i=S.parts.length:=by simp at hi';omega
   subst hi2;have hx:x ∈c:=by simpa using hx
   rcases hed x ((hmc x).mp hx) t ht he with r|r
   ·obtain⟨l,hl,hm⟩:=List.mem_flatten.mp r;obtain⟨j,hj,rfl⟩:=Wi hl;refine⟨j,by show j<(S.parts++[c]).length;simp;omega,by omega,?_⟩;show t ∈(S.parts++[c])[j]'_;rw[List.getElem_append_left hj];exact hm
   ·refine⟨S.parts.length,hi,zn _,?_⟩;have e:(S.parts++[c])[S.parts.length]'(by simp)=c:=by simp
    have hm:t ∈(S.parts++[c])[S.parts.length]'(by simp):=by rw[e];exact(hmc t).mpr r
    exact hm
 ·intro k hk a ha b hb;have hk:k ∈S.parts++[c]:=hk;rw[Xs,XG]at hk;rcases hk with hk|rfl
  ·exact h.ring k hk a ha b hb
  ·have ha:=(hmc a).mp ha;have hb:=(hmc b).mp hb;rcases hto _ a ha (zn _)with rfl|q
   ·exact hfrom b hb
   ·rcases hfrom b hb with rfl|r
    ·exact .inr q
    ·exact .inr (q.join (h.olt v hvo) r)
 ·intro k hk;have hk:k ∈S.parts++[c]:=hk;rw[Xs,XG]at hk;rcases hk with hk|rfl
  ·exact h.srt k hk
  ·refine⟨fun e=> ?_,?_⟩
   ·have:v ∈k:=(hmc v).mpr (XE ..);rw[e]at this;cases this
   ·have hn:=hc.nodup_iff.mpr hnX;exact(List.pairwise_and_iff.mpr ⟨hs,hn⟩).imp (fun {a b} q=>by have:=q.1;have:=q.2;omega)
structure vQ(EL:List (List Int))(n:Nat)(P:List (List Nat)):Prop where
 all:∀v,v<n→v ∈P.flatten
 lt:∀v ∈P.flatten,v<n
 nod:P.flatten.Nodup
 ord:∀i (h:i<P.length),∀v ∈P[i],∀t,t<n→vl EL v t→∃j,∃h:j<P.length,j≤i∧t ∈P[j]
 ring:∀c ∈P,∀a ∈c,∀b ∈c,a=b∨qv EL n a b
 srt:∀c ∈P,c≠ []∧c.Pairwise (· < ·)
theorem zN.end_(h:zN EL n S)(hw:S.way=[])(hm:∀v,v<n→0<S.place v):vQ EL n S.parts:=
 ⟨fun v hv=>(h.zero v hv (hm v hv)).resolve_left (by rw[h.none_open hw];simp),fun v hv=>(h.clt v hv).1,h.nod,h.ord,h.ring,h.srt⟩
end
open Go.Maps (Keyed)
theorem YN:Keyed Tryz.prog 3:=Go.Maps.int_keyed Tryz.underlying3
theorem qlo(w:World):(zeroValue 165).run Tryz.prog w= .ok (.agg #[]) w:=by kernel_rfl
theorem q91(p:Nat→Bool)(n:Nat):(jl p n).Nodup:=by
 unfold jl;refine List.pairwise_map.mpr ((List.nodup_range.filter _).imp ?_);intro a b h e;exact h (by omega)
theorem qgd(p:Nat→Bool)(n:Nat):(jl p n).Pairwise (fun a b=>decide (a≤b)=true):=by
 unfold jl;refine List.pairwise_map.mpr ((List.pairwise_lt_range.filter _).imp ?_);intro a b h;simp;omega
theorem qmd{p:Nat→Bool}{n:Nat}{ss:List Int}(hd:ss.Nodup)(hm:∀x,x ∈ss↔x ∈jl p n):ss.mergeSort (fun x y=>decide (x≤y))=jl p n:=by
 have tr:∀a b c:Int,decide (a≤b)=true→decide (b≤c)=true→decide (a≤c)=true:=fun a b c h1 h2=>by simp at*;omega
 have tot:∀a b:Int,(decide (a≤b)||decide (b≤a))=true:=fun a b=>by simp;omega
 have hp:ss.Perm (jl p n):=(List.perm_ext_iff_of_nodup hd (q91 p n)).2 hm;refine List.Perm.eq_of_pairwise (le:=fun a b=>decide (a≤b)=true) (fun a b _ _ h1 h2=> ?_) (List.pairwise_mergeSort tr tot ss) (qgd p n) ((List.mergeSort_perm ss _).trans hp);simp at h1 h2;omega
theorem q9r{p:Nat→Bool}{n:Nat}{ss:List Int}(hd:ss.Nodup)(hm:∀x ∈ss,x ∈jl p n):ss.length≤n:=by
 have h1:ss.Perm ((jl p n).filter (fun x=>decide (x ∈ss))):=by
  refine(List.perm_ext_iff_of_nodup hd ((q91 p n).filter _)).2 fun x=> ?_;rw[List.mem_filter];exact⟨fun h=>⟨hm x h,by simp[h]⟩,fun h=>by simpa using h.2⟩
 rw[h1.length_eq];exact Xg (List.length_filter_le _ _) (qin p n)
def jh(w:World)(b:Nat)(p:Nat→Bool)(n:Nat):Prop:=
 ∃D:DataW Unit,w.ownsMap Tryz.prog 3 (unitElem (H:=Unit)) b (Go.Maps.size D) D∧∀x:Int,Go.Maps.has D (.int .i64 x)=decide (x ∈jl p n)
theorem qix{w:World}{b n:Nat}{D:DataW Unit}(h:w.ownsMap Tryz.prog 3 (unitElem (H:=Unit)) b n D):w.ownsMap Tryz.prog 3 (unitElem (H:=Unit)) b (Go.Maps.size D) D:=by
 obtain⟨es,clock,hb,F,_,rfl⟩:=h;exact⟨es,clock,hb,F,by simp[Go.Maps.size,length_sorted],rfl⟩
theorem qnl{w:World}{b n:Nat}{D:DataW Unit}(h:w.ownsMap Tryz.prog 3 (unitElem (H:=Unit)) b n D):∃ks:List Int,ks.Nodup∧ks.length=Go.Maps.size D∧∀x:Int,x ∈ks↔Go.Maps.has D (.int .i64 x)=true:=by
 obtain⟨es,hD,hpw,_⟩:=h.entries YN;obtain⟨es',clock,_,F,_,hD'⟩:=h;have hk:∀p ∈es,∃x:Int,p.1= .int .i64 x:=by
  intro p hp;rw[hD]at hD';have e:es=(es'.toList.map (WideElems.rg Tryz.prog 3 (unitElem (H:=Unit)))).foldr DataW.insert []:=by simpa using hD'
  rw[e]at hp;obtain⟨x,hx,rfl⟩:=XW.1 (mem_sorted.1 hp);obtain⟨y,hy⟩:=F.reads x hx;obtain⟨z,_,hz,_⟩:=Maps.keyOf_int_inv Tryz.underlying3 (WideElems.rd_key hy);exact⟨z,by rw[WideElems.rg_of hy];exact hz⟩
 subst hD;refine⟨es.map (fun p=>match p.1 with| .int _ x=>x|_=>0),?_,by simp[Go.Maps.size],fun x=> ?_⟩
 ·refine List.pairwise_map.2 (hpw.imp_of_mem fun {p q} hp hq hne e=>hne ?_);obtain⟨a,ha⟩:=hk p hp;obtain⟨c,hc⟩:=hk q hq;rw[ha,hc]at e⊢
  exact congrArg _ e
 ·rw[XW];constructor
  ·rintro⟨p,hp,rfl⟩;obtain⟨a,ha⟩:=hk p hp;exact Wd.2 ⟨p,hp,by rw[ha];simp[Lit.sameKey]⟩
  ·intro hx;obtain⟨p,hp,hs⟩:=Wd.1 hx;obtain⟨a,ha⟩:=hk p hp;rw[ha]at hs;exact⟨p,hp,by rw[ha];simpa[Lit.sameKey]using hs⟩
theorem qcv{w:World}{b n:Nat}{p:Nat→Bool}{D:DataW Unit}(h:w.ownsMap Tryz.prog 3 (unitElem (H:=Unit)) b (Go.Maps.size D) D)(hh:∀x:Int,Go.Maps.has D (.int .i64 x)=decide (x ∈jl p n)):Go.Maps.size D≤n:=by
 obtain⟨ks,hd,hl,hm⟩:=qnl h;rw[←hl];refine q9r (p:=p) hd (fun x hx=> ?_);have:=(hm x).1 hx;rw[hh x]at this;simpa using this
theorem jh.made(w:World)(n:Nat):jh (w.alloc (.map #[] 0)) w.heap.size (fun _=>false) n:=by
 refine⟨.map [],World.ownsMap_made w Tryz.prog _ _,fun x=> ?_⟩;have:x ∉jl (fun _=>false) n:=fun h=>by
  obtain⟨g,_,_,hg⟩:=YJ.1 h;cases hg
 simp[this,Go.Maps.has]
theorem jh.kept{w w':World}{b n:Nat}{p:Nat→Bool}{row:Option Nat}(h:jh w b p n)(hg:w.grownBy w' row)(hne:some b≠row):jh w' b p n:=by
 obtain⟨D,ho,hh⟩:=h;exact⟨D,ho.kept hg hne,hh⟩
theorem jh.lt{w:World}{b n:Nat}{p:Nat→Bool}(h:jh w b p n):b<w.heap.size:=by
 obtain⟨D,ho,hh⟩:=h;exact ho.lt
theorem jh.below{w w':World}{b n B:Nat}{p:Nat→Bool}(h:jh w b p n)(hb:Below B w w')(hB:b<B):jh w' b p n:=by
 obtain⟨D,⟨es,clock,he,r⟩,hh⟩:=h;exact⟨D,⟨es,clock,(hb.block b hB).trans he,r⟩,hh⟩
theorem jh.cong{w:World}{b n:Nat}{p q:Nat→Bool}(h:jh w b p n)(e:∀g,g<n→p g=q g):jh w b q n:=by
 obtain⟨D,ho,hh⟩:=h;exact⟨D,ho,fun x=>by rw[hh x,qat e]⟩
theorem qe1{x:Int}(h:(Lit.int .i64 x).wf=true):keyOf Tryz.prog 3 (.int .i64 x)=some (.int .i64 x):=Go.Maps.keyOf_int_mk Tryz.underlying3 h
theorem qeg{g n:Nat}(hg:g<n)(hn:n≤9223372036854775807):(Lit.int .i64 (g:Int)).wf=true:=WalkArith.wf_i64 (by omega)
theorem jh.put{b n g:Nat}{p:Nat→Bool}{D:DataW Unit}{w':World}(hg:g<n)(hh:∀x:Int,Go.Maps.has D (.int .i64 x)=decide (x ∈jl p n))(h:w'.ownsMap Tryz.prog 3 (unitElem (H:=Unit)) b (Go.Maps.size D+1) (D.put (.int .i64 (g:Int)) (.agg [])))(hm:Go.Maps.IsMap D):
  jh w' b (fun k=>p k||decide (k=g)) n:=by
 refine⟨_,qix h,fun x=> ?_⟩;by_cases hx:x=(g:Int)
 ·subst hx;rw[Go.Maps.has_put_same hm (k:= .int .i64 (g:Int)) (by simp[WideAt.IsKeyLit])];exact(Xh (YJ.2 ⟨g,rfl,hg,by simp⟩)).symm
 ·rw[Go.Maps.has_put_other (by simpa using hx),hh x,XV,Xr,Xr,YJ,YJ];constructor
  ·rintro⟨k,rfl,hk,hp⟩;exact⟨k,rfl,hk,by simp[hp]⟩
  ·rintro⟨k,rfl,hk,hp⟩;refine⟨k,rfl,hk,?_⟩;simp only[We,Xr]at hp;rcases hp with hp|hp
   ·exact hp
   ·exact absurd (by rw[hp]) hx
section
variable{ops:Array Oper}{rest:List Oper}{o:Oper}{a:Act}{Q:Exit→Act→World→Prop}
theorem q6x(w:World)(hg:o.guard=none)(m x v:Operand)(t:TypeId)(hop:o.op=Op.mapUpdate t m x v∨o.op=Op.insert t m x v)(ht:Tryz.prog.underlying t=some (.map 3 165))(b n g:Nat)(p:Nat→Bool)
  (hm:a.eval m= .map (some b)) (H:jh w b p n) (hgn:g<n) (hn:n≤1048576) (hx:a.eval x= .int .i64 (g:Int)) (hv:a.eval v= .agg #[])
  (hK:∀w',jh w' b (fun k=>p k||decide (k=g)) n→w.grownBy w' (some b)→wpList Tryz.prog ops Q rest (a.put o.dst undef) w'):
  wpList Tryz.prog ops Q (o::rest) a w:=by
 refine wpList_plain hg fun K' hK'=> ?_;obtain⟨D,ho,hh⟩:=H;have hs:=qcv ho hh;obtain⟨w',hrun,r1,r2⟩:=ho.update YN ht (by unfold maxLen;omega) (qe1 (qeg hgn (by omega))) (val:= .agg #[]) unitElem_mk;unfold Oper.wp;rcases hop with hop|hop<;>
 ·simp[execOp,hop,hm,hx,hv,hrun,Result.andThen];exact hK' _ _ (hK w' (jh.put hgn hh r1 ho.isMap) r2)
theorem q7m(w:World)(hg:o.guard=none)(m x:Operand)(t:TypeId)(hop:o.op=Op.lookup t m x true)(ht:Tryz.prog.underlying t=some (.map 3 165))(b n g:Nat)(p:Nat→Bool)(r:Bool)
  (hm:a.eval m= .map (some b)) (H:jh w b p n) (hgn:g<n) (hn:n≤1048576) (hx:a.eval x= .int .i64 (g:Int)) (hr:p g=r)
  (hK:wpList Tryz.prog ops Q rest (a.put o.dst (.tuple #[.agg #[],.bool r])) w):
  wpList Tryz.prog ops Q (o::rest) a w:=by
 obtain⟨D,ho,hh⟩:=H;have hk:=qe1 (qeg hgn (by omega));refine wpList_lookup_own_unit w hg m x t hop _ _ YN ht (qlo w) b _ D hm ho _ _ hx hk ?_;have e:Go.Maps.has D (.int .i64 (g:Int))=r:=by
  rw[hh,←hr,XV,Xr,YJ];constructor
  ·rintro⟨k,hk,_,hp⟩;have:g=k:=by omega
   rw[this];exact hp
  ·exact fun h=>⟨g,rfl,hgn,h⟩
 rw[e];exact hK
end
def zP(l:List Nat):List Value:=l.map (fun k:Nat=>Value.int .i64 (k:Int))
theorem JW(l:List Nat):(zP l).length=l.length:=Xi ..
theorem qb1(l:List Nat)(v:Nat):zP (l++[v])=zP l++[.int .i64 (v:Int)]:=by unfold zP;rw[XX];rfl
theorem qc3(f:Nat→Nat)(v b:Nat):(fun x=>((qb f v b x:Nat):Int))=qb (fun x=>(f x:Int)) v (b:Int):=funext fun x=>by
 unfold qb;split<;>rfl
theorem q6e(w:World)(v:Value)(T:TypeId):∀(j:Nat) (u:Value),[v][j]? =some u→(w.alloc (.cells #[v] T)).cell? ((⟨w.heap.size,0,none⟩:Addr).add j)=some u:=fun j u hj=>by
 match j,hj with
 |0,hj=>simp at hj;subst hj;simp[Addr.add]
 |j+1,hj=>simp at hj
structure qj(w w':World)(ρ:Nat→Nat)(r:Nat):Prop where
 os:w'.os=w.os
 tape:w'.tape=w.tape
 output:w'.output=w.output
 size:w.heap.size≤w'.heap.size
 block:∀b,b<w.heap.size→ρ b≠r→w'.heap[b]? =w.heap[b]?
theorem qj.refl{w:World}{ρ:Nat→Nat}{r:Nat}:qj w w ρ r:=⟨rfl,rfl,rfl,zn _,fun _ _ _=>rfl⟩
theorem qj.cell{w:World}{ρ:Nat→Nat}{r:Nat}{a:Addr}(h:ρ a.block=r)(v:Value):qj w (w.setCell a v) ρ r:=⟨rfl,rfl,rfl,by simp,fun b _ hr=>Below.heap_setCell w a v b (fun e=>hr (by rw[e];exact h))⟩
theorem qj.grown{w w':World}{ρ:Nat→Nat}{r:Nat}{row:Option Nat}(hg:w.grownBy w' row)(h:∀b,row=some b→ρ b=r):qj w w' ρ r:=⟨hg.os,hg.tape,hg.output,hg.size,fun b hb hr=>hg.block b hb (fun e=>hr (h b e.symm))⟩
theorem qj.below{w w':World}{ρ:Nat→Nat}{r:Nat}(h:Below w.heap.size w w'):qj w w' ρ r:=⟨h.os,h.tape,h.output,h.size,fun b hb _=>h.block b hb⟩
theorem qj.trans{w w1 w2:World}{ρ:Nat→Nat}{r:Nat}(h:qj w w1 ρ r)(h':qj w1 w2 ρ r):qj w w2 ρ r:=⟨h'.os.trans h.os,h'.tape.trans h.tape,h'.output.trans h.output,Xg h.size h'.size,fun b hb hr=>(h'.block b (Xp hb h.size) hr).trans (h.block b hb hr)⟩
theorem qj.low{w w':World}{ρ:Nat→Nat}{r B:Nat}(h:qj w w' ρ r)(hl:∀b,b<B→ρ b=9)(hB:B≤w.heap.size)(hr:r≠9):Below B w w':=⟨h.os,h.tape,h.output,h.size,fun b hb=>h.block b (Xp hb hB) (by rw[hl b hb];exact fun e=>hr e.symm)⟩
theorem ko{w w':World}{ρ:Nat→Nat}{r g:Nat}{vs:List Value}{T:TypeId}(h:ze w g vs T)(hO:qj w w' ρ r)(hr:ρ g≠r):ze w' g vs T:=(hO.block g (ze.lt h) hr).trans h
theorem kH{w w':World}{ρ:Nat→Nat}{r B e k n:Nat}{v:Value}{xs:List Value}(h:w.ownsRow B e k v n xs)(hO:qj w w' ρ r)(hr:∀b,v.ownBlock=some b→ρ b≠r):w'.ownsRow B e k v n xs:=by
 have hlt:=zZ h;refine⟨h.1,?_⟩;rcases h.2 with h0|⟨g,cap,cur,hv,hg,hh,rest⟩
 ·exact .inl h0
 ·exact .inr ⟨g,cap,cur,hv,hg,(hO.block g (hlt g (by rw[hv];rfl)) (hr g (by rw[hv];rfl))).trans hh,rest⟩
def Yj(w:World)(B:Nat)(ρ:Nat→Nat)(v:Value)(c:List Nat):Prop:=∃gi ci rest,v= .slice (some ⟨gi,0,none⟩) c.length ci∧B≤gi∧ρ gi=7∧c.length≤ci∧ci≤9223372036854775807∧ze w gi (zP c++rest) 3
theorem Yj.move{w w':World}{B r:Nat}{ρ ρ':Nat→Nat}{v:Value}{c:List Nat}(h:Yj w B ρ v c)(hO:qj w w' ρ r)(hr:r≠7)(hρ:∀b,b<w.heap.size→ρ b≠r→ρ' b=ρ b):Yj w' B ρ' v c:=by
 obtain⟨gi,ci,rest,h1,h2,h3,h4,h5,h6⟩:=h;have hn:ρ gi≠r:=by rw[h3];exact fun e=>hr e.symm
 exact⟨gi,ci,rest,h1,h2,by rw[hρ gi (ze.lt h6) hn];exact h3,h4,h5,ko h6 hO hn⟩
theorem qc2{w:World}{ρ:Nat→Nat}{N r:Nat}(hN:ρ N=r∨w.heap.size≤N):∀b,b<w.heap.size→ρ b≠r→qb ρ N r b=ρ b:=fun b hb hr=>by
 refine Zq _ _ (fun e=> ?_);subst e;rcases hN with q|q
 ·exact hr q
 ·omega
structure Jg where
 gp:Nat
 gb:Nat
 gg:Nat
 E:Option Addr
 ce:Nat
 Ay:Option Addr
 cy:Nat
 Ao:Option Addr
 co:Nat
 Ap:Option Addr
 cp:Nat
 vs:List Value
abbrev wkV(S:Wk)(n:Nat)(a:Jg):List Value:=[.slice a.E n a.ce,.int .i64 (S.met:Int),.slice (some ⟨a.gp,0,none⟩) n n,.slice (some ⟨a.gb,0,none⟩) n n,.slice (some ⟨a.gg,0,none⟩) n n,.slice a.Ay S.way.length a.cy,.slice a.Ao S.opn.length a.co,.slice a.Ap S.parts.length a.cp]
structure zE(w:World)(B g:Nat)(EL:List (List Int))(n:Nat)(S:Wk)(a:Jg)(ρ:Nat→Nat):Prop where
 low:∀b,b<B→ρ b=9
 size:B≤w.heap.size
 len:EL.length=n
 n0:0≤n
 n1:n≤1048576
 edges:zd (zG zq 1) 1 w B a.E a.ce EL
 el:∀l ∈EL,l.length≤1048576
 blk:ze w g (wkV S n a) 162
 pl:zY w a.gp (vX n (fun v=>(S.place v:Int)))
 bk:zY w a.gb (vX n S.back)
 gn:zY w a.gg (vX n (fun v=>(S.gone v:Int)))
 way:w.ownsRow B 3 1 (.slice a.Ay S.way.length a.cy) S.way.length (zP S.way)
 opn:w.ownsRow B 3 1 (.slice a.Ao S.opn.length a.co) S.opn.length (zP S.opn)
 prt:w.ownsRow B 26 1 (.slice a.Ap S.parts.length a.cp) S.parts.length a.vs
 pin:∀(i:Nat) (v:Value) (c:List Nat),a.vs[i]? =some v→S.parts[i]? =some c→Yj w B ρ v c
 r0:ρ g=0
 r1:ρ a.gp=1
 r2:ρ a.gb=2
 r3:ρ a.gg=3
 r4:∀b,(Value.slice a.Ay S.way.length a.cy).ownBlock=some b→ρ b=4
 r5:∀b,(Value.slice a.Ao S.opn.length a.co).ownBlock=some b→ρ b=5
 r6:∀b,(Value.slice a.Ap S.parts.length a.cp).ownBlock=some b→ρ b=6
section
variable{w w':World}{B g n:Nat}{EL:List (List Int)}{S:Wk}{a:Jg}{ρ ρ':Nat→Nat}
structure q11(w:World)(B g:Nat)(EL:List (List Int))(n:Nat)(S:Wk)(a:Jg)(ρ:Nat→Nat)(r:Nat):Prop where
 low:∀b,b<B→ρ b=9
 size:B≤w.heap.size
 edges:zd (zG zq 1) 1 w B a.E a.ce EL
 blk:r≠0→ze w g (wkV S n a) 162
 pl:r≠1→zY w a.gp (vX n (fun v=>(S.place v:Int)))
 bk:r≠2→zY w a.gb (vX n S.back)
 gn:r≠3→zY w a.gg (vX n (fun v=>(S.gone v:Int)))
 way:r≠4→w.ownsRow B 3 1 (.slice a.Ay S.way.length a.cy) S.way.length (zP S.way)
 opn:r≠5→w.ownsRow B 3 1 (.slice a.Ao S.opn.length a.co) S.opn.length (zP S.opn)
 prt:r≠6→w.ownsRow B 26 1 (.slice a.Ap S.parts.length a.cp) S.parts.length a.vs
 pin:r≠7→∀(i:Nat) (v:Value) (c:List Nat),a.vs[i]? =some v→S.parts[i]? =some c→Yj w B ρ v c
 r0:ρ g=0
 r1:ρ a.gp=1
 r2:ρ a.gb=2
 r3:ρ a.gg=3
 r4:r≠4→∀b,(Value.slice a.Ay S.way.length a.cy).ownBlock=some b→ρ b=4
 r5:r≠5→∀b,(Value.slice a.Ao S.opn.length a.co).ownBlock=some b→ρ b=5
 r6:r≠6→∀b,(Value.slice a.Ap S.parts.length a.cp).ownBlock=some b→ρ b=6
theorem zE.move(h:zE w B g EL n S a ρ){r:Nat}(hO:qj w w' ρ r)(hρ:∀b,b<w.heap.size→ρ b≠r→ρ' b=ρ b)(hr9:r≠9)(h0:ρ' g=0)(h1:ρ' a.gp=1)(h2:ρ' a.gb=2)(h3:ρ' a.gg=3):q11 w' B g EL n S a ρ' r where
 low:=fun b hb=>by rw[hρ b (Xp hb h.size) (by rw[h.low b hb];exact fun e=>hr9 e.symm)];exact h.low b hb
 size:=Xg h.size hO.size
 edges:=h.edges.below_to (zG.keeps zq.keeps 1) (hO.low h.low h.size hr9) (zn _)
 blk:=fun hr=>ko h.blk hO (by rw[h.r0];exact fun e=>hr e.symm)
 pl:=fun hr=>ko h.pl hO (by rw[h.r1];exact fun e=>hr e.symm)
 bk:=fun hr=>ko h.bk hO (by rw[h.r2];exact fun e=>hr e.symm)
 gn:=fun hr=>ko h.gn hO (by rw[h.r3];exact fun e=>hr e.symm)
 way:=fun hr=>kH h.way hO (fun b hb=>by rw[h.r4 b hb];exact fun e=>hr e.symm)
 opn:=fun hr=>kH h.opn hO (fun b hb=>by rw[h.r5 b hb];exact fun e=>hr e.symm)
 prt:=fun hr=>kH h.prt hO (fun b hb=>by rw[h.r6 b hb];exact fun e=>hr e.symm)
 pin:=fun hr i v c hv hc=>(h.pin i v c hv hc).move hO hr hρ
 r0:=h0
 r1:=h1
 r2:=h2
 r3:=h3
 r4:=fun hr b hb=>by rw[hρ b (zZ h.way b hb) (by rw[h.r4 b hb];exact fun e=>hr e.symm)];exact h.r4 b hb
 r5:=fun hr b hb=>by rw[hρ b (zZ h.opn b hb) (by rw[h.r5 b hb];exact fun e=>hr e.symm)];exact h.r5 b hb
 r6:=fun hr b hb=>by rw[hρ b (zZ h.prt b hb) (by rw[h.r6 b hb];exact fun e=>hr e.symm)];exact h.r6 b hb
theorem zE.roles(h:zE w B g EL n S a ρ):g<w.heap.size∧a.gp<w.heap.size∧a.gb<w.heap.size∧a.gg<w.heap.size:=⟨ze.lt h.blk,ze.lt h.pl,ze.lt h.bk,ze.lt h.gn⟩
theorem zE.moveU(h:zE w B g EL n S a ρ){r N:Nat}(hO:qj w w' ρ r)(hN:ρ N=r∨w.heap.size≤N)(hr:4≤r)(hr9:r≠9):q11 w' B g EL n S a (qb ρ N r) r:=by
 obtain⟨h0,h1,h2,h3⟩:=h.roles;have hu:=qc2 hN;refine h.move hO hu hr9 ?_ ?_ ?_ ?_
 ·rw[hu g h0 (by rw[h.r0];omega)];exact h.r0
 ·rw[hu _ h1 (by rw[h.r1];omega)];exact h.r1
 ·rw[hu _ h2 (by rw[h.r2];omega)];exact h.r2
 ·rw[hu _ h3 (by rw[h.r3];omega)];exact h.r3
theorem zE.moveS(h:zE w B g EL n S a ρ){r:Nat}(hO:qj w w' ρ r)(hr9:r≠9):q11 w' B g EL n S a ρ r:=h.move hO (fun _ _ _=>rfl) hr9 h.r0 h.r1 h.r2 h.r3
theorem zE.keep(h:zE w B g EL n S a ρ)(hb:Below w.heap.size w w'):zE w' B g EL n S a ρ:=
 let q:=h.moveS (r:=10) (qj.below hb) (by decide)
 ⟨q.low,q.size,h.len,h.n0,h.n1,q.edges,h.el,q.blk (by decide),q.pl (by decide),q.bk (by decide),q.gn (by decide),q.way (by decide),q.opn (by decide),q.prt (by decide),q.pin (by decide),q.r0,q.r1,q.r2,q.r3,q.r4 (by decide),q.r5 (by decide),q.r6 (by decide)⟩
theorem zE.place(h:zE w B g EL n S a ρ){v k:Nat}{z:Int}(hz:z=(k:Int)):zE (w.setCell ⟨a.gp,v,none⟩ (.int .i64 z)) B g EL n {S with place:=qb S.place v k} a ρ:=
 let q:=h.moveS (r:=1) (qj.cell (a:=⟨a.gp,v,none⟩) h.r1 (.int .i64 z)) (by decide)
 ⟨q.low,q.size,h.len,h.n0,h.n1,q.edges,h.el,q.blk (by decide),by have:=h.pl.set (t:=v) z;subst hz;rw[q5e,←qc3]at this;exact this,q.bk (by decide),q.gn (by decide),q.way (by decide),q.opn (by decide),q.prt (by decide),q.pin (by decide),q.r0,q.r1,q.r2,q.r3,q.r4 (by decide),q.r5 (by decide),q.r6 (by decide)⟩
theorem zE.back(h:zE w B g EL n S a ρ){v:Nat}{k:Int}:zE (w.setCell ⟨a.gb,v,none⟩ (.int .i64 k)) B g EL n {S with back:=qb S.back v k} a ρ:=
 let q:=h.moveS (r:=2) (qj.cell (a:=⟨a.gb,v,none⟩) h.r2 (.int .i64 k)) (by decide)
 ⟨q.low,q.size,h.len,h.n0,h.n1,q.edges,h.el,q.blk (by decide),q.pl (by decide),by have:=h.bk.set (t:=v) k;rw[q5e]at this;exact this,q.gn (by decide),q.way (by decide),q.opn (by decide),q.prt (by decide),q.pin (by decide),q.r0,q.r1,q.r2,q.r3,q.r4 (by decide),q.r5 (by decide),q.r6 (by decide)⟩
theorem zE.gone(h:zE w B g EL n S a ρ){v k:Nat}{z:Int}(hz:z=(k:Int)):zE (w.setCell ⟨a.gg,v,none⟩ (.int .i64 z)) B g EL n {S with gone:=qb S.gone v k} a ρ:=
 let q:=h.moveS (r:=3) (qj.cell (a:=⟨a.gg,v,none⟩) h.r3 (.int .i64 z)) (by decide)
 ⟨q.low,q.size,h.len,h.n0,h.n1,q.edges,h.el,q.blk (by decide),q.pl (by decide),q.bk (by decide),by have:=h.gn.set (t:=v) z;subst hz;rw[q5e,←qc3]at this;exact this,q.way (by decide),q.opn (by decide),q.prt (by decide),q.pin (by decide),q.r0,q.r1,q.r2,q.r3,q.r4 (by decide),q.r5 (by decide),q.r6 (by decide)⟩
theorem zE.met(h:zE w B g EL n S a ρ){k:Nat}{z:Int}(hz:z=(k:Int)):zE (w.setCell ⟨g,1,none⟩ (.int .i64 z)) B g EL n {S with met:=k} a ρ:=
 let q:=h.moveS (r:=0) (qj.cell (a:=⟨g,1,none⟩) h.r0 (.int .i64 z)) (by decide)
 ⟨q.low,q.size,h.len,h.n0,h.n1,q.edges,h.el,by have:=ze.set h.blk 1 (.int .i64 z);subst hz;exact this,q.pl (by decide),q.bk (by decide),q.gn (by decide),q.way (by decide),q.opn (by decide),q.prt (by decide),q.pin (by decide),q.r0,q.r1,q.r2,q.r3,q.r4 (by decide),q.r5 (by decide),q.r6 (by decide)⟩
theorem zE.way'(h:zE w B g EL n S a ρ){N:Nat}{A:Option Addr}{c:Nat}{W:List Nat}(hO:qj w w' ρ 4)(hN:ρ N=4∨w.heap.size≤N)(hA:∀b,(Value.slice A W.length c).ownBlock=some b→qb ρ N 4 b=4)(ho:w'.ownsRow B 3 1 (.slice A W.length c) W.length (zP W)):
  zE (w'.setCell ⟨g,5,none⟩ (.slice A W.length c)) B g EL n {S with way:=W} {a with Ay:=A,cy:=c} (qb ρ N 4):=by
 have p:=h.moveU hO hN (by decide) (by decide);have hO2:qj w' (w'.setCell ⟨g,5,none⟩ (.slice A W.length c)) (qb ρ N 4) 0:=qj.cell (a:=⟨g,5,none⟩) p.r0 _;have hi:zE (w'.setCell ⟨g,5,none⟩ (.slice A W.length c)) B g EL n {S with way:=W} {a with Ay:=A,cy:=c} (qb ρ N 4):=
  ⟨p.low,by have:=p.size;simpa using this,h.len,h.n0,h.n1,p.edges.below_to (zG.keeps zq.keeps 1) (hO2.low p.low p.size (by decide)) (zn _),h.el,by have:=ze.set (p.blk (by decide)) 5 (.slice A W.length c);exact this,
   ko (p.pl (by decide)) hO2 (by rw[p.r1];decide),ko (p.bk (by decide)) hO2 (by rw[p.r2];decide),ko (p.gn (by decide)) hO2 (by rw[p.r3];decide),kH ho hO2 (fun b hb=>by rw[hA b hb];decide),kH (p.opn (by decide)) hO2 (fun b hb=>by rw[p.r5 (by decide) b hb];decide),kH (p.prt (by decide)) hO2 (fun b hb=>by rw[p.r6 (by decide) b hb];decide),
   fun i v c hv hc=>(p.pin (by decide) i v c hv hc).move hO2 (by decide) (fun _ _ _=>rfl),p.r0,p.r1,p.r2,p.r3,hA,p.r5 (by decide),p.r6 (by decide)⟩
 exact hi
theorem zE.opn'(h:zE w B g EL n S a ρ){N:Nat}{A:Option Addr}{c:Nat}{W:List Nat}(hO:qj w w' ρ 5)(hN:ρ N=5∨w.heap.size≤N)(hA:∀b,(Value.slice A W.length c).ownBlock=some b→qb ρ N 5 b=5)(ho:w'.ownsRow B 3 1 (.slice A W.length c) W.length (zP W)):
  zE (w'.setCell ⟨g,6,none⟩ (.slice A W.length c)) B g EL n {S with opn:=W} {a with Ao:=A,co:=c} (qb ρ N 5):=by
 have p:=h.moveU hO hN (by decide) (by decide);have hO2:qj w' (w'.setCell ⟨g,6,none⟩ (.slice A W.length c)) (qb ρ N 5) 0:=qj.cell (a:=⟨g,6,none⟩) p.r0 _;have hi:zE (w'.setCell ⟨g,6,none⟩ (.slice A W.length c)) B g EL n {S with opn:=W} {a with Ao:=A,co:=c} (qb ρ N 5):=
  ⟨p.low,by have:=p.size;simpa using this,h.len,h.n0,h.n1,p.edges.below_to (zG.keeps zq.keeps 1) (hO2.low p.low p.size (by decide)) (zn _),h.el,by have:=ze.set (p.blk (by decide)) 6 (.slice A W.length c);exact this,
   ko (p.pl (by decide)) hO2 (by rw[p.r1];decide),ko (p.bk (by decide)) hO2 (by rw[p.r2];decide),ko (p.gn (by decide)) hO2 (by rw[p.r3];decide),kH (p.way (by decide)) hO2 (fun b hb=>by rw[p.r4 (by decide) b hb];decide),kH ho hO2 (fun b hb=>by rw[hA b hb];decide),kH (p.prt (by decide)) hO2 (fun b hb=>by rw[p.r6 (by decide) b hb];decide),
   fun i v c hv hc=>(p.pin (by decide) i v c hv hc).move hO2 (by decide) (fun _ _ _=>rfl),p.r0,p.r1,p.r2,p.r3,p.r4 (by decide),hA,p.r6 (by decide)⟩
 exact hi
theorem zE.prt'(h:zE w B g EL n S a ρ){N:Nat}{A:Option Addr}{c:Nat}{x:List Nat}{u:Value}(hO:qj w w' ρ 6)(hN:ρ N=6∨w.heap.size≤N)(hA:∀b,(Value.slice A (S.parts.length+1) c).ownBlock=some b→qb ρ N 6 b=6)(ho:w'.ownsRow B 26 1 (.slice A (S.parts.length+1) c) (S.parts.length+1) (a.vs++[u]))(hx:Yj w B ρ u x):
  zE (w'.setCell ⟨g,7,none⟩ (.slice A (S.parts.length+1) c)) B g EL n {S with parts:=S.parts++[x]} {a with Ap:=A,cp:=c,vs:=a.vs++[u]} (qb ρ N 6):=by
 have p:=h.moveU hO hN (by decide) (by decide);have hl:a.vs.length=S.parts.length:=by have:=h.prt.1;simpa using this
 have hl2:(S.parts++[x]).length=S.parts.length+1:=by simp
 have hO2:qj w' (w'.setCell ⟨g,7,none⟩ (.slice A (S.parts.length+1) c)) (qb ρ N 6) 0:=qj.cell (a:=⟨g,7,none⟩) p.r0 _;have hx2:=(hx.move hO (by decide) (qc2 hN)).move hO2 (by decide) (fun _ _ _=>rfl);have hi:zE (w'.setCell ⟨g,7,none⟩ (.slice A (S.parts.length+1) c)) B g EL n {S with parts:=S.parts++[x]} {a with Ap:=A,cp:=c,vs:=a.vs++[u]} (qb ρ N 6):=
  ⟨p.low,by have:=p.size;simpa using this,h.len,h.n0,h.n1,p.edges.below_to (zG.keeps zq.keeps 1) (hO2.low p.low p.size (by decide)) (zn _),h.el,by have:=ze.set (p.blk (by decide)) 7 (.slice A (S.parts.length+1) c);rw[←hl2]at this⊢;exact this,
   ko (p.pl (by decide)) hO2 (by rw[p.r1];decide),ko (p.bk (by decide)) hO2 (by rw[p.r2];decide),ko (p.gn (by decide)) hO2 (by rw[p.r3];decide),kH (p.way (by decide)) hO2 (fun b hb=>by rw[p.r4 (by decide) b hb];decide),kH (p.opn (by decide)) hO2 (fun b hb=>by rw[p.r5 (by decide) b hb];decide),by dsimp only;rw[hl2];exact kH ho hO2 (fun b hb=>by rw[hA b hb];decide),
   fun i v c hv hc=>by
    dsimp only at hv hc;rcases Xj i S.parts.length with q|q
    ·rw[XJ (by omega)]at hv hc;exact(p.pin (by decide) i v c hv hc).move hO2 (by decide) (fun _ _ _=>rfl)
    ·have hi:i<(S.parts++[x]).length:=(Xw.mp hc).1;have:i=S.parts.length:=by omega
     subst this;rw[XM (zn _)]at hc;rw[XM (by omega)]at hv;simp[hl]at hv hc;subst hv;subst hc;exact hx2,
   p.r0,p.r1,p.r2,p.r3,p.r4 (by decide),p.r5 (by decide),by dsimp only;rw[hl2];exact hA⟩
 exact hi
theorem Vy{w w9:World}{o:Obj}{v:Value}{ρ:Nat→Nat}{r:Nat}(hlt:∀b,v.ownBlock=some b→ρ b=r)(hg:(w.alloc o).grownBy w9 v.ownBlock):qj w w9 ρ r:=
 (qj.below ((zb _ _).alloc (zn _) o)).trans (qj.grown hg hlt)
theorem q65{w:World}{o:Obj}{v:Value}{ρ:Nat→Nat}{r N:Nat}(hlt:∀b,v.ownBlock=some b→ρ b=r)(hor:v.ownBlock=some N∨N=(w.alloc o).heap.size):ρ N=r∨w.heap.size≤N:=by
 rcases hor with q|q
 ·exact .inl (hlt N q)
 ·exact .inr (by simp at q;omega)
theorem q64{g9 k c r:Nat}{ρ:Nat→Nat}:∀b,(Value.slice (some ⟨g9,0,none⟩) k c).ownBlock=some b→qb ρ g9 r b=r:=fun b hb=>by
 have:g9=b:=by simpa[Value.ownBlock]using hb
 subst this;exact kx _ _ _
theorem zE.cell_below(h:zE w' B g EL n S a ρ)(hb:Below B w w')(i:Nat)(v:Value):Below B w (w'.setCell ⟨g,i,none⟩ v):=
 hb.setCell (p:=⟨g,i,none⟩) (by
  rcases Xj g B with q|q
  ·have:=h.low g q;rw[h.r0]at this;cases this
  ·exact q) v
theorem zE.g_ge(h:zE w B g EL n S a ρ):B≤g∧B≤a.gp∧B≤a.gb∧B≤a.gg:=by
 have hx:∀x r,ρ x=r→r≠9→B≤x:=fun x r e hr=>by
  rcases Xj x B with q|q
  ·rw[h.low x q]at e;exact absurd e.symm hr
  ·exact q
 exact⟨hx g 0 h.r0 (by decide),hx _ 1 h.r1 (by decide),hx _ 2 h.r2 (by decide),hx _ 3 h.r3 (by decide)⟩
theorem zE.way_app(h:zE w B g EL n S a ρ){o:Obj}{v g9 c9:Nat}{w9:World}(hown:w9.ownsRow B 3 1 (.slice (some ⟨g9,0,none⟩) (S.way.length+1) c9) (S.way.length+1) (zP S.way++[.int .i64 (v:Int)]))
  (hgrow:(w.alloc o).grownBy w9 (Value.slice a.Ay S.way.length a.cy).ownBlock) (hor:(Value.slice a.Ay S.way.length a.cy).ownBlock=some g9∨g9=(w.alloc o).heap.size):
  zE (w9.setCell ⟨g,5,none⟩ (.slice (some ⟨g9,0,none⟩) (S.way.length+1) c9)) B g EL n {S with way:=S.way++[v]} {a with Ay:=some ⟨g9,0,none⟩,cy:=c9} (qb ρ g9 4)∧Below B w (w9.setCell ⟨g,5,none⟩ (.slice (some ⟨g9,0,none⟩) (S.way.length+1) c9)):=by
 have hl:(S.way++[v]).length=S.way.length+1:=by simp
 have hO:=Vy h.r4 hgrow;rw[←qb1,←hl]at hown;have:=h.way' (W:=S.way++[v]) hO (q65 h.r4 hor) q64 hown;rw[hl]at this;exact⟨this,(hO.low h.low h.size (by decide)).setCell (p:=⟨g,5,none⟩) h.g_ge.1 _⟩
theorem zE.opn_app(h:zE w B g EL n S a ρ){o:Obj}{v g9 c9:Nat}{w9:World}(hown:w9.ownsRow B 3 1 (.slice (some ⟨g9,0,none⟩) (S.opn.length+1) c9) (S.opn.length+1) (zP S.opn++[.int .i64 (v:Int)]))
  (hgrow:(w.alloc o).grownBy w9 (Value.slice a.Ao S.opn.length a.co).ownBlock) (hor:(Value.slice a.Ao S.opn.length a.co).ownBlock=some g9∨g9=(w.alloc o).heap.size):
  zE (w9.setCell ⟨g,6,none⟩ (.slice (some ⟨g9,0,none⟩) (S.opn.length+1) c9)) B g EL n {S with opn:=S.opn++[v]} {a with Ao:=some ⟨g9,0,none⟩,co:=c9} (qb ρ g9 5)∧Below B w (w9.setCell ⟨g,6,none⟩ (.slice (some ⟨g9,0,none⟩) (S.opn.length+1) c9)):=by
 have hl:(S.opn++[v]).length=S.opn.length+1:=by simp
 have hO:=Vy h.r5 hgrow;rw[←qb1,←hl]at hown;have:=h.opn' (W:=S.opn++[v]) hO (q65 h.r5 hor) q64 hown;rw[hl]at this;exact⟨this,(hO.low h.low h.size (by decide)).setCell (p:=⟨g,6,none⟩) h.g_ge.1 _⟩
theorem zE.prt_app(h:zE w B g EL n S a ρ){o:Obj}{g9 c9:Nat}{x:List Nat}{u:Value}{w9:World}(hx:Yj w B ρ u x)(hown:w9.ownsRow B 26 1 (.slice (some ⟨g9,0,none⟩) (S.parts.length+1) c9) (S.parts.length+1) (a.vs++[u]))
  (hgrow:(w.alloc o).grownBy w9 (Value.slice a.Ap S.parts.length a.cp).ownBlock) (hor:(Value.slice a.Ap S.parts.length a.cp).ownBlock=some g9∨g9=(w.alloc o).heap.size):
  zE (w9.setCell ⟨g,7,none⟩ (.slice (some ⟨g9,0,none⟩) (S.parts.length+1) c9)) B g EL n {S with parts:=S.parts++[x]} {a with Ap:=some ⟨g9,0,none⟩,cp:=c9,vs:=a.vs++[u]} (qb ρ g9 6)∧Below B w (w9.setCell ⟨g,7,none⟩ (.slice (some ⟨g9,0,none⟩) (S.parts.length+1) c9)):=by
 have hO:=Vy h.r6 hgrow;exact⟨h.prt' hO (q65 h.r6 hor) q64 hown hx,(hO.low h.low h.size (by decide)).setCell (p:=⟨g,7,none⟩) h.g_ge.1 _⟩
theorem Vz{l:List Nat}(hd:l.Nodup)(h:∀v ∈l,v<n):l.length≤n:=by
 have:=q9r (p:=fun _=>true) (n:=n) (ss:=l.map (fun k:Nat=>(k:Int))) (List.pairwise_map.mpr (hd.imp (fun {a b} q e=>q (by omega)))) (fun x hx=>by
  obtain⟨k,hk,rfl⟩:=XW.mp hx;exact YJ.2 ⟨k,rfl,h k hk,rfl⟩)
 simpa using this
theorem zN.lens(h:zN EL n S):S.way.length≤n∧S.opn.length≤n∧S.parts.flatten.length≤n:=by
 have hd:∀{l:List Nat},l.Pairwise (fun a b=>S.place a<S.place b)→l.Nodup:=fun {l} q=>q.imp (fun {a b} q e=>by subst e;omega);exact⟨Vz (hd h.winc) (fun v hv=>h.olt v (h.wsub v hv)),Vz (hd h.oinc) h.olt,Vz h.nod (fun v hv=>(h.clt v hv).1)⟩
theorem zE.p_at(h:zE w B g EL n S a ρ){v:Nat}(hv:v<n):w.cell? ⟨a.gp,v,none⟩=some (.int .i64 (S.place v:Int))∧w.frozen? ⟨a.gp,v,none⟩=false:=by
 have:=h.pl.at_ (t:=v) (by rw[JU];exact hv);rw[q5t _ hv]at this;exact⟨this,ze.free h.pl v⟩
theorem zE.b_at(h:zE w B g EL n S a ρ){v:Nat}(hv:v<n):w.cell? ⟨a.gb,v,none⟩=some (.int .i64 (S.back v))∧w.frozen? ⟨a.gb,v,none⟩=false:=by
 have:=h.bk.at_ (t:=v) (by rw[JU];exact hv);rw[q5t _ hv]at this;exact⟨this,ze.free h.bk v⟩
theorem zE.g_at(h:zE w B g EL n S a ρ){v:Nat}(hv:v<n):w.cell? ⟨a.gg,v,none⟩=some (.int .i64 (S.gone v:Int))∧w.frozen? ⟨a.gg,v,none⟩=false:=by
 have:=h.gn.at_ (t:=v) (by rw[JU];exact hv);rw[q5t _ hv]at this;exact⟨this,ze.free h.gn v⟩
end
theorem qkt(x:Int)(w:World):Calls Tryz.prog 192 #[.int .i64 x] w fun e w'=>e= .returned (.bool false)∧w=w':=by
 go_enter Tryz.func192,Tryz.ntmps192;go_wp2
 go_ret;exact⟨by simp,rfl⟩
theorem q14(x:Int)(w:World):Calls Tryz.prog 157 #[.int .i64 x] w fun e w'=>e= .returned (.bool false)∧w=w':=by
 go_enter Tryz.func157,Tryz.ntmps157;go_wp2
 go_ret;exact⟨by simp,rfl⟩
theorem q89(x y:Int)(w:World):Calls Tryz.prog 156 #[.int .i64 x,.int .i64 y] w fun e w'=>e= .returned (.bool (decide (x<y)))∧w=w':=by
 go_enter Tryz.func156,Tryz.ntmps156;go_wp2_with(go_at_call 192;(with_reducible refine(qkt _ _).mono ?_);rintro e w' ⟨rfl,rfl⟩)
 go_ret;exact⟨rfl,rfl⟩
theorem VA{l:List Int}{t:Nat}(h:t<l.length):l.getD t 0=l[t]:=by simp[List.getD,Xc h]
theorem q5u{l:List Int}(h:l.Pairwise (· < ·)){a b:Nat}(hab:a≤b)(hb:b<l.length):l.getD a 0≤l.getD b 0:=by
 rcases Xj a b with g|g
 ·have:=List.pairwise_iff_getElem.mp h a b (by omega) hb g;rw[VA (by omega),VA hb];omega
 ·obtain rfl:a=b:=by omega
  exact XR _
theorem qu3{l:List Int}{x:Int}{lo:Nat}(h1:∀t,t<lo→l.getD t 0<x)(h2:∀t,lo≤t→t<l.length→x≤l.getD t 0)(h:l.Pairwise (· < ·)):zR l x=(decide (lo<l.length)&& decide (l.getD lo 0=x)):=by
 unfold zR;rw[XV];simp only[Xr,Xv];constructor
 ·intro hm;obtain⟨t,ht,e⟩:=List.mem_iff_getElem.mp hm;have et:l.getD t 0=x:=by rw[VA ht];exact e
  have hlt:lo≤t:=by
   rcases Xj t lo with g|g
   ·have:=h1 t g;omega
   ·exact g
  refine⟨by omega,?_⟩;have:=q5u h hlt ht;have:=h2 lo (zn _) (by omega);omega
 ·rintro⟨hl,e⟩;rw[VA hl]at e;rw[←e];exact Xd hl
def qea(b:Bool)(w:World)(e:Ending)(w':World):Prop:=∃p:Int,e= .returned (.tuple #[.int .i64 p,.bool b])∧Below w.heap.size w w'
set_option maxHeartbeats 4000000 in
theorem q8q(l:List Int)(x:Int)(A:Option Addr)(cap:Nat)(w:World)(hl:l.length≤1048576)(h:zx w w.heap.size A (l.map (Value.int .i64)))(hs:l.Pairwise (· < ·)):
  Calls Tryz.prog 109 #[.slice A l.length cap,.int .i64 x] w (qea (zR l x) w):=by
 have HL:=zH h;have HS:=zH hs;obtain⟨b,hb⟩:∃b,zR l x=b:=⟨_,rfl⟩
 have E:=zH hb;rw[hb];clear h hs hb;obtain⟨n,hn⟩:∃n,l.length=n:=⟨_,rfl⟩
 have HN:=zH hn;rw[hn]at hl⊢
 clear hn;go_enter Tryz.func109,Tryz.ntmps109;go_wp2
 go_loopg [7,8] n (fun g s7 s8 wr=>∃lo hi:Nat,s7= .int .i64 lo∧s8= .int .i64 hi∧lo≤hi∧hi≤n∧hi - lo≤g∧Hid (Below w.heap.size w wr)∧Hid ((∀t,t<lo→l.getD t 0<x)∧(∀t,hi≤t→t<n→x≤l.getD t 0)))
 case atStart=>exact⟨0,n,rfl,rfl,Xl _,zn _,by omega,zH (zb _ _),zH ⟨fun t ht=>absurd ht (Nat.not_lt_zero _),fun t h1 h2=>by omega⟩⟩
 case round=>
  obtain⟨lo,hi,rfl,rfl,hlh,hin,hg,HX,I⟩:=hrel;by_cases hlt:lo<hi
  ·have hmn:(lo+hi) / 2<n:=by omega
   obtain⟨ad,rfl,hab,hc0⟩:=(HL.out.below HX.out).at_ (k:=(lo+hi) / 2) (by rw[Xi,HN.out];exact hmn);have Y:=zH (show l.getD ((lo+hi) / 2) 0=l[(lo+hi) / 2]'(by rw[HN.out];exact hmn)from VA _);rw[List.getElem_map]at hc0;generalize l[(lo+hi) / 2]'(by rw[HN.out];exact hmn)=y at*
   by_cases hyx:y<x
   ·go_wp2_with(first|(go_at_call 156;(with_reducible refine(q89 _ _ _).mono ?_);rintro e w' ⟨rfl,rfl⟩)|(go_at_call 157;(with_reducible refine(q14 _ _).mono ?_);rintro e w' ⟨rfl,rfl⟩))
    go_roundg (hi - ((lo+hi) / 2+1))
    case measure=>omega
    case rel=>
     refine⟨(lo+hi) / 2+1,hi,by rw[show((lo:Int)+(hi:Int)) / 2+1=(((lo+hi) / 2+1:Nat):Int)by omega],rfl,by omega,hin,zn _,HX,zH ⟨fun t ht=> ?_,I.out.2⟩⟩;have:=q5u HS.out (a:=t) (b:=(lo+hi) / 2) (by omega) (by rw[HN.out];exact hmn);rw[Y.out]at this;omega
   ·go_wp2_with(first|(go_at_call 156;(with_reducible refine(q89 _ _ _).mono ?_);rintro e w' ⟨rfl,rfl⟩)|(go_at_call 157;(with_reducible refine(q14 _ _).mono ?_);rintro e w' ⟨rfl,rfl⟩))
    go_roundg ((lo+hi) / 2 - lo)
    case measure=>omega
    case rel=>
     refine⟨lo,(lo+hi) / 2,rfl,by rw[show((lo:Int)+(hi:Int)) / 2=(((lo+hi) / 2:Nat):Int)by omega],by omega,by omega,zn _,HX,zH ⟨I.out.1,fun t ht htn=> ?_⟩⟩;have:=q5u HS.out (a:=(lo+hi) / 2) (b:=t) ht (by rw[HN.out];exact htn);rw[Y.out]at this;omega
  ·obtain rfl:lo=hi:=by omega
   have E2:=zH (E.out.symm.trans (qu3 I.out.1 (fun t h0 h1=>I.out.2 t h0 (by rw[←HN.out];exact h1)) HS.out));by_cases hln:lo<n
   ·obtain⟨ad,rfl,hab,hc0⟩:=(HL.out.below HX.out).at_ (k:=lo) (by rw[Xi,HN.out];exact hln);have Y:=zH (show l.getD lo 0=l[lo]'(by rw[HN.out];exact hln)from VA _);rw[List.getElem_map]at hc0;generalize l[lo]'(by rw[HN.out];exact hln)=y at*
    have E3:Hid (b=decide (y=x)):=zH (by rw[E2.out,Y.out,HN.out];simp[hln]);by_cases hyx:y=x
    ·subst hyx;go_wp2_with(go_at_call 157;(with_reducible refine(q14 _ _).mono ?_);rintro e w' ⟨rfl,rfl⟩)
     go_ret2
     exact⟨(lo:Int),by rw[E3.out];simp,HX.out⟩
    ·have hne:((y:Int)==x)=false:=by simpa using hyx
     go_wp2_with(go_at_call 157;(with_reducible refine(q14 _ _).mono ?_);rintro e w' ⟨rfl,rfl⟩)
     go_ret2
     exact⟨(lo:Int),by rw[E3.out];simp[hyx],HX.out⟩
   ·have E3:Hid (b=false):=zH (by rw[E2.out,HN.out];simp[hln]);go_wp2_with fail
    go_ret2
    exact⟨_,by rw[E3.out];rfl,HX.out⟩
open Go.Sort (Holds putRow)
def Got(D:DataW Unit)(left:Lit→Bool)(ss:List Int):Prop:=ss.Nodup∧∀x:Int,x ∈ss↔(Go.Maps.has D (.int .i64 x)=true∧left (.int .i64 x)=false)
theorem Got.start(D:DataW Unit):Got D (Go.Maps.has D) []:=⟨List.nodup_nil,fun x=>by cases Go.Maps.has D (.int .i64 x)<;>simp⟩
theorem Got.step{D:DataW Unit}{left:Lit→Bool}{ss:List Int}(h:Got D left ss){x:Int}(hx:Go.Maps.has D (.int .i64 x)=true)(hlk:left (.int .i64 x)=true):Got D (fun z=>left z&& !z.sameKey (.int .i64 x)) (ss++[x]):=by
 have hnew:x ∉ss:=fun hx=>by have:=((h.2 x).1 hx).2;rw[hlk]at this;cases this
 refine⟨List.nodup_append.2 ⟨h.1,by simp,fun a ha b hb=>by simp at hb;subst hb;exact fun e=>hnew (e ▸ ha)⟩,fun y=> ?_⟩;by_cases hy:y=x
 ·subst hy;simp[hx,Lit.sameKey]
 ·simp[h.2 y,hy,Lit.sameKey]
theorem qth(blk cap:Nat)(zs:List Int)(w:World)(hH:Holds (Value.int .i64) w blk 0 zs.toArray)(hblk:blk<w.heap.size)(hsz:zs.length<4611686018427387904):
  Calls Tryz.prog 190 #[.slice (some ⟨blk,0,none⟩) zs.length cap] w fun e w'=>
   e= .returned (.tuple #[])∧∃n os,w'=Go.Sort.grow (putRow (Value.int .i64) (Go.Sort.ahead w n) blk 0 (zs.mergeSort fun x y=>decide (x≤y)).toArray) os:=
 Any.slices_Sort_int q4j blk 0 cap zs w hH hblk hsz
theorem qme(p:Option Addr)(cap:Nat)(w:World):Calls Tryz.prog 190 #[.slice p 0 cap] w fun e w'=>e= .returned (.tuple #[])∧w'=w:=
 Any.slices_Sort_int_none q4j p cap w
set_option maxHeartbeats 1600000 in
theorem qi7(b n:Nat)(p:Nat→Bool)(w:World)(H:jh w b p n)(hn:n≤1048576):
  Calls Tryz.prog 152 #[.map (some b)] w (vJ (jl p n) w):=by
 obtain⟨i0,hi,hz0,hz1,hz2⟩:=info_parts vD;obtain⟨D,ho,hh⟩:=H;have hs:=qcv ho hh;have HH:=zH hh;have hbl:=ho.lt;clear hh;go_enter Tryz.func152,Tryz.ntmps152;go_wp2_with(at_range;refine wpList_range_own _ rfl _ 203 rfl 3 165 YN Tryz.underlying203 _ b _ D rfl ho ?_;intro w0 hrg0 hg0 hs0)
 go_frame
 go_loopw [3] (fun v wr=>∃(left:Lit→Bool) (cnt:Nat) (ss:List Int),wr.ranges Tryz.prog 3 (unitElem (H:=Unit)) b w.heap.size (Go.Maps.size D) D left cnt∧ss.length+cnt≤Go.Maps.size D∧
   wr.ownsRow w.heap.size 3 1 v ss.length (ss.map (Value.int .i64))∧Hid (Got D left ss)∧Hid (Below w.heap.size w wr)) (fun _ wr=>wr.rangeLeft b w.heap.size)
 case atStart=>
  exact⟨_,_,[],hrg0,by simp,XT _ _ _ _,zH (Got.start D),zH ((zb _ _).grown hg0 (zn _) (fun j hj=>by cases hj))⟩
 case round=>
  obtain⟨left,cnt,ss,hrg,hcs,hrow,HC,HX⟩:=hrel;go_wp2_with(at_next;refine wpList_next_ranges _ rfl _ rfl 3 YN (unitElem (H:=Unit)) (Value.int .i64) (fun _:Unit=> .agg #[]) (fun key kl hk=>by obtain⟨x,hx,_⟩:=Maps.keyOf_int_inv Tryz.underlying3 hk;exact⟨x,hx⟩) (fun v y hv=>by obtain⟨rfl,_⟩:=unitElem_inv hv;exact⟨(),rfl⟩) b w.heap.size _ _ _ _ rfl hrg ?_ ?_)
  ·intro hc0 hl0;have hm:∀x,x ∈ss↔x ∈jl p n:=fun x=>by rw[HC.out.2 x,hl0,HH.out x];simp
   have hsort:=qmd HC.out.1 hm;rcases hrow.2 with⟨rfl,hz⟩|⟨g,cap,cur,rfl,hbase,hb,h1,h2,h3,h4⟩
   ·have hsn:ss=[]:=XZ hz;subst hsn;have hpe:jl p n=[]:=by rw[←hsort];simp
    have HPE:=zH hpe;clear hsort hm hpe;go_wp2_with(go_at_call 190;refine(qme _ _ _).mono ?_;rintro e w' ⟨rfl,rfl⟩)
    go_ret;rw[HPE.out];exact⟨_,rfl,XT _ _ _ _,HX.out⟩
   ·have hH:Holds (Value.int .i64) wr g 0 ss.toArray:=holds_of_blockI hb (by simpa using h4);have hgl:g<wr.heap.size:=(Array.getElem?_eq_some_iff.1 hb).1;have hc:=qth g cap ss wr hH hgl (by omega);have hle:(jl p n).length=ss.length:=by rw[←hsort];simp
    rw[hsort]at hc;have HS:=zH (And.intro hle (And.intro hbase (And.intro hb (And.intro h1 (And.intro h2 h3)))));clear hsort hm hle hbase hb h1 h2 h3 h4 hrow;go_wp2_with(go_at_call 190;refine hc.mono ?_;rintro e w' ⟨rfl,nn,os,rfl⟩)
    go_ret;obtain⟨hle,hbase,hb,h1,h2,h3⟩:=HS.out;refine⟨_,rfl,?_,HX.out.grown (grownBy_sortedI _) HX.out.size (fun j hj=>by cases hj;exact hbase)⟩;have q:=ownsRow_sortedI (n:=nn) (os:=os) hle hbase hb h1 h2 h3;rw[←hle]at q⊢
    exact q
  ·intro x c kl y w2 cnt2 hkey hlk hv hat hrg2 hlt hg2 hs2 hen;obtain⟨x',ex,rfl,_⟩:=Maps.keyOf_int_inv Tryz.underlying3 hkey;cases ex;have hrow2:=hrow.kept hg2 (Or.inr (row_ne_iter hrow hrg).symm);have HX2:=zH (HX.out.grown hg2 HX.out.size (fun j hj=>by cases hj;exact zn _));have hsz2:=HX2.out.size;have HG:=zH (HC.out.step (Go.Maps.has_true_of_atKey hat) hlk);clear hs2 hkey hv;go_wp2_with(at_builtin;refine vt rfl _ _ 26 rfl _ 3 i0 (.int .i64 0) 1 8 Tryz.underlying26 hi hz0 hz1 hz2 rfl (by decide) _ ss.length (ss.map (Value.int .i64)) rfl (hrow2.alloc _) (some ⟨w2.heap.size,0,none⟩) 1 1 _ [.int .i64 x] rfl rfl (Jv w2 _ _) (Qq rfl) (by unfold maxLen;omega) (by omega) (by simp;omega) ?_;intro v6 w6 hown hgrow)
   have hrg3:=(hrg2.alloc (.cells #[.int .i64 x] 3)).kept hgrow (row_ne_low hrow2 hbl) (row_ne_iter hrow2 hrg2);go_roundw;case rel=>exact⟨_,cnt2,ss++[x],hrg3,by simp;omega,by simpa using hown,HG,zH (qN (HX2.out.alloc hsz2 _) (hrow2.alloc _) (by simp;omega) hgrow)⟩
   case measure=>rw[hrg3.left_eq,hrg.left_eq];exact hlt
theorem qn1{b n:Nat}{p:Nat→Bool}{w:World}(H:Hid (jh w b p n))(hn:n≤1048576){L:List Int}(HL:Hid (jl p n=L)):
  Calls Tryz.prog 152 #[.map (some b)] w (vJ L w):=by
 have h:=qi7 b n p w H.out hn;rw[HL.out]at h;exact h
theorem qaw{w:World}{B n k:Nat}{v:Value}{xs:List Value}{T:TypeId}(h:w.ownsRow B T k v n xs)(hn:0<n):∃g c rest,v= .slice (some ⟨g,0,none⟩) n c∧B≤g∧ze w g (xs++rest) T:=by
 rcases h.2 with⟨_,h2⟩|⟨g',cap,cur,h1,hb,hh,_,_,_,hx⟩
 ·omega
 ·refine⟨g',cap,cur.toList.drop (n*k),h1,hb,?_⟩;unfold ze;rw[←hx,List.take_append_drop];exact hh
section
variable{EL:List (List Int)}{n:Nat}{S:Wk}
def Zy(n:Nat)(S:Wk):Nat:=2*QI (fun v=>decide (0<S.place v)) n+S.way.length
theorem zN.gone_none(h:zN EL n S){v:Nat}(hw:v ∈S.way)(hl:S.gone v<(eds EL v).length)(ht:∀t:Nat,t<n→¬(eds EL v)[S.gone v]=(t:Int)):zN EL n (S.go v):=h.go hw hl (fun t htn e=>absurd e (ht t htn))
theorem zN.gone_old(h:zN EL n S)(hn:(n:Int)≤jX){v t:Nat}(hw:v ∈S.way)(hl:S.gone v<(eds EL v).length)(ht:t<n)(h0:0<S.place t)(he:(eds EL v)[S.gone v]=(t:Int)):zN EL n ((S.lower v (min (S.back v) (S.back t))).go v):=by
 obtain⟨h1,h2⟩:=h.see hn hw ht h0 (by unfold vl;rw[←he];exact Xd hl);refine h1.go hw hl (fun u hu e=> ?_);have e:(eds EL v)[S.gone v]=(u:Int):=e;have:u=t:=by omega
 subst this;rcases h2 with q|⟨q1,q2⟩
 ·exact .inl q
 ·refine .inr ⟨q1,?_⟩;have:(S.lower v (min (S.back v) (S.back u))).back v=min (S.back v) (S.back u):=kx _ _ _;rw[this];exact q2
theorem zN.gone_new(h:zN EL n S){W:List Nat}{v t:Nat}(hw:S.way=W++[v])(hl:S.gone v<(eds EL v).length)(ht:t<n)(h0:S.place t=0)(he:(eds EL v)[S.gone v]=(t:Int)):zN EL n ((S.go v).meet t)∧Zy n ((S.go v).meet t)<Zy n S:=by
 have hvw:v ∈S.way:=by rw[hw];simp
 have hed:vl EL v t:=by unfold vl;rw[←he];exact Xd hl
 have hpw:∀p ∈S.way,qv EL n p t:=fun p hp=>by
  have hle:S.place p≤S.place v:=by
   have hq:=h.winc;rw[hw,Wp]at hq;rw[hw]at hp;rcases Xs.mp hp with q|q
   ·exact Xk (hq.2.2 p q v (by simp))
   ·rw[XG]at q;subst q;exact zn _
  rcases h.tree p hp v (h.wsub v hvw) hle with rfl|q
  ·exact .one hed
  ·exact .snoc q (h.olt v (h.wsub v hvw)) hed
 have h1:=h.meet ht h0 hpw;have hvt:v≠t:=fun e=>by subst e;have:=(h.opos v (h.wsub v hvw)).1;omega
 have h2:=h1.go (v:=v) (by show v ∈S.way++[t];simp[hvw]) hl (fun u hu e=>by
  have e:(eds EL v)[S.gone v]=(u:Int):=e;have:u=t:=by omega
  subst this;refine .inr ⟨by show u ∈S.opn++[u];simp,?_⟩;have e1:(S.meet u).back v=S.back v:=Zq _ _ hvt;have e2:(S.meet u).place u=S.met+1:=kx _ _ _;rw[e1,e2];have:=(h.bin v (h.wsub v hvw)).2.1;have:=(h.opos v (h.wsub v hvw)).2;omega)
 refine⟨h2,?_⟩;have hu:=q1t (p:=fun v=>decide (0<S.place v)) (g:=t) (by simp[h0]) n ht;have h3:(fun x=>decide (0<((S.go v).meet t).place x))=fun k=>decide (0<S.place k)||decide (k=t):=funext fun x=>by
  by_cases e:x=t
  ·subst e;have:((S.go v).meet x).place x=S.met+1:=kx _ _ _;rw[this];simp
  ·have:((S.go v).meet t).place x=S.place x:=Zq _ _ e;rw[this];simp[e]
 unfold Zy;rw[h3];have:((S.go v).meet t).way.length=S.way.length+1:=by show(S.way++[t]).length=_;simp
 omega
theorem zN.met_all{v x:Nat}(h:0<S.place x):0<(S.meet v).place x:=by
 by_cases e:x=v
 ·subst e;have:(S.meet x).place x=S.met+1:=kx _ _ _;omega
 ·have:(S.meet v).place x=S.place x:=Zq _ _ e;omega
end
def vr(S:Nat→Bool)(w:World):World:={w with heap:=w.heap.mapIdx fun i o=>if S i then .cells #[] 0 (0,0)else o}
theorem JR(S:Nat→Bool)(w:World):(vr S w).heap.size=w.heap.size:=by simp[vr]
theorem Jo{S:Nat→Bool}{w:World}{q:Addr}{v:Value}:(vr S w).cell? q=some v↔S q.block=false∧w.cell? q=some v:=by
 unfold vr World.cell?;simp only[Array.getElem?_mapIdx];cases hs:S q.block<;>cases hq:w.heap[q.block]? <;>simp
theorem q84{S:Nat→Bool}{w:World}{q:Addr}(h:S q.block=false):(vr S w).frozen? q=w.frozen? q:=by
 unfold vr World.frozen?;simp only[Array.getElem?_mapIdx];cases hq:w.heap[q.block]? <;>simp[h]
def old(w:World):Nat→Bool:=fun b=>decide (b<w.heap.size)
theorem YQ{w:World}{b:Nat}:old w b=false↔w.heap.size≤b:=by unfold old;simp
def ZW{α:Type}(At:AtP α):Prop:=∀ ⦃w w':World⦄ ⦃B C:Nat⦄ ⦃p:Addr⦄ ⦃x:α⦄,At w B p x→p.block<B→B≤C→(∀q v,q.block<B→w.cell? q=some v→w'.cell? q=some v)→At w' C p x
theorem qB.mono{α:Type}{At:AtP α}(hK:ZW At){k:Nat}{w w':World}{B C:Nat}{A:Option Addr}{l:List α}(h:qB At k w B A l)(hC:B≤C)(hc:∀q v,q.block<B→w.cell? q=some v→w'.cell? q=some v):qB At k w' C A l:=fun i x hi=>by
 obtain⟨ad,e,hb,ha⟩:=h i x hi;exact⟨ad,e,Xp hb hC,hK ha (by rw[zp];exact hb) hC hc⟩
theorem zd.mono{α:Type}{At:AtP α}(hK:ZW At){k:Nat}{w w':World}{B C:Nat}{A:Option Addr}{cap:Nat}{l:List α}(h:zd At k w B A cap l)(hC:B≤C)(hc:∀q v,q.block<B→w.cell? q=some v→w'.cell? q=some v):zd At k w' C A cap l:=
 ⟨h.le,h.cap,h.row.mono hK hC hc⟩
theorem zq.mono:ZW zq:=fun _ _ _ _ p _ h hp _ hc=>hc _ _ hp h
theorem JD.mono:ZW JD:=fun _ _ _ _ p _ h hp _ hc=>⟨hc _ _ hp h.1,h.2⟩
theorem zh.mono:ZW zh:=fun _ _ _ _ p _ h hp _ hc=>⟨hc _ _ hp h.1,hc (zc p 1) _ hp h.2⟩
theorem jb.mono:ZW jb:=fun _ _ _ _ p _ h hp _ hc=>⟨hc _ _ hp h.1,hc (zc p 1) _ hp h.2.1,hc (zc p 2) _ hp h.2.2⟩
theorem zG.mono{α:Type}{At:AtP α}(hK:ZW At)(k:Nat):ZW (zG At k):=fun _ _ _ _ _ _ ⟨A,cap,h,hs⟩ hp hC hc=>⟨A,cap,hc _ _ hp h,hs.mono hK hC hc⟩
theorem jW.mono:ZW jW:=fun _ _ _ _ _ _ h hp hC hc=>⟨hc _ _ hp h.sup,zG.mono zh.mono 2 h.fields hp hC hc,zG.mono zq.mono 1 h.slots hp hC hc,h.rng⟩
theorem vN.mono:ZW vN:=fun _ _ _ _ p _ h hp hC hc=>
 ⟨zG.mono zh.mono 2 h.args hp hC hc,zG.mono zh.mono 2 h.locals hp hC hc,hc (zc p 2) _ hp h.ret0,hc (zc p 3) _ hp h.ret1,zG.mono jb.mono 3 h.code hp hC hc,
  hc (zc p 5) _ hp h.depth,hc (zc p 6) _ hp h.pot,zG.mono zq.mono 1 h.phi hp hC hc⟩
theorem zd.hole{α:Type}{At:AtP α}(hK:ZW At){k:Nat}{S S':Nat→Bool}{w w':World}{B C:Nat}{A:Option Addr}{cap:Nat}{l:List α}(h:zd At k (vr S w) B A cap l)(hC:B≤C)
  (hs:∀b,b<B→S b=false→S' b=false∧w'.heap[b]? =w.heap[b]?):zd At k (vr S' w') C A cap l:=
 h.mono hK hC fun q v hq hc=>by
  obtain⟨h1,h2⟩:=Jo.mp hc;obtain⟨g1,g2⟩:=hs _ hq h1;exact Jo.mpr ⟨g1,(X7 (w:=w) g2).trans h2⟩
theorem zd.of_hole{α:Type}{At:AtP α}(hK:ZW At){k:Nat}{S:Nat→Bool}{w:World}{B:Nat}{A:Option Addr}{cap:Nat}{l:List α}(h:zd At k (vr S w) B A cap l):zd At k w B A cap l:=
 h.mono hK (zn _) fun q v hq hc=>(Jo.mp hc).2
theorem Zi{w:World}{b:Nat}{vs:List Value}{T:TypeId}{fr:Nat×Nat}(h:w.heap[b]? =some (.cells vs.toArray T fr))(i:Nat)(v:Value)(hv:vs[i]? =some v):w.cell? ⟨b,i,none⟩=some v:=by
 simp[World.cell?,h,hv]
theorem Zh{w:World}{b:Nat}{vs:List Value}{T:TypeId}(h:w.heap[b]? =some (.cells vs.toArray T (0,0)))(i:Nat):w.frozen? ⟨b,i,none⟩=false:=by
 simp[World.frozen?,h]
abbrev ElP(α:Type):=World→List Value→α→Prop
def QL{α:Type}(El:ElP α):Prop:=∀ ⦃W W':World⦄ ⦃vs:List Value⦄ ⦃x:α⦄,El W vs x→W.heap.size≤W'.heap.size→(∀q v,q.block<W.heap.size→W.cell? q=some v→W'.cell? q=some v∧W'.frozen? q=W.frozen? q)→El W' vs x
def q34:ElP Int:=fun _ vs n=>vs=[.int .i64 n]
def q2y:ElP Int:=fun _ vs n=>vs=[.int .i32 n]∧ -2147483648≤n∧n≤2147483647
def ElTy:ElP (Int×Int):=fun _ vs t=>vs=[.int .i64 t.1,.int .i64 t.2]
def q2z:ElP (Int×Int×Int):=fun _ vs i=>vs=[.int .i64 i.1,.int .i64 i.2.1,.int .i64 i.2.2]
def q35:ElP zO:=fun W vs c=>∃A1 k1 A2 k2,vs=[.int .i64 c.sup,.slice A1 c.fields.length k1,.slice A2 c.slots.length k2]∧zd zh 2 W W.heap.size A1 k1 c.fields∧zd zq 1 W W.heap.size A2 k2 c.slots∧ -9223372036854775808≤c.sup∧c.sup≤9223372036854775807
def q33:ElP zf:=fun W vs x=>∃A0 k0 A1 k1 A4 k4 A7 k7,vs=[.slice A0 x.args.length k0,.slice A1 x.locals.length k1,.int .i64 x.ret.1,.int .i64 x.ret.2,.slice A4 x.code.length k4,.int .i64 x.depth,.int .i64 x.pot,.slice A7 x.phi.length k7]∧
 zd zh 2 W W.heap.size A0 k0 x.args∧zd zh 2 W W.heap.size A1 k1 x.locals∧zd jb 3 W W.heap.size A4 k4 x.code∧zd zq 1 W W.heap.size A7 k7 x.phi
theorem q34.mono:QL q34:=fun _ _ _ _ h _ _=>h
theorem q2y.mono:QL q2y:=fun _ _ _ _ h _ _=>h
theorem ElTy.mono:QL ElTy:=fun _ _ _ _ h _ _=>h
theorem q2z.mono:QL q2z:=fun _ _ _ _ h _ _=>h
theorem q35.mono:QL q35:=fun _ _ _ _ ⟨A1,k1,A2,k2,e,h1,h2,h3⟩ hs hc=>⟨A1,k1,A2,k2,e,h1.mono zh.mono hs (fun q v h1 h2=>(hc q v h1 h2).1),h2.mono zq.mono hs (fun q v h1 h2=>(hc q v h1 h2).1),h3⟩
theorem q33.mono:QL q33:=fun _ _ _ _ ⟨A0,k0,A1,k1,A4,k4,A7,k7,e,h0,h1,h4,h7⟩ hs hc=>⟨A0,k0,A1,k1,A4,k4,A7,k7,e,h0.mono zh.mono hs (fun q v h1 h2=>(hc q v h1 h2).1),h1.mono zh.mono hs (fun q v h1 h2=>(hc q v h1 h2).1),h4.mono jb.mono hs (fun q v h1 h2=>(hc q v h1 h2).1),h7.mono zq.mono hs (fun q v h1 h2=>(hc q v h1 h2).1)⟩
def Vb{α:Type}(El:ElP α)(At:AtP α)(k:Nat):Prop:=∀ ⦃W:World⦄ ⦃vs:List Value⦄ ⦃x:α⦄ ⦃p:Addr⦄,El W vs x→(∀j u,vs[j]? =some u→W.cell? (p.add j)=some u)→vs.length=k∧At W W.heap.size p x
theorem Vs(p:Addr):p.add 0=p:=by simp[Addr.add]
theorem Qb{n:Nat}(p:Addr)(h:0<n):p.add n=zc p n:=by
 unfold Addr.add zc;rw[Xa (by omega)]
theorem q34.at_:Vb q34 zq 1:=fun W vs x p e hc=>by subst e;exact⟨rfl,by have:=hc 0 _ rfl;rwa [Vs]at this⟩
theorem q2y.at_:Vb q2y JD 1:=fun W vs x p e hc=>by obtain⟨rfl,h⟩:=e;exact⟨rfl,by have:=hc 0 _ rfl;rwa [Vs]at this,h⟩
theorem ElTy.at_:Vb ElTy zh 2:=fun W vs x p e hc=>by
 subst e;exact⟨rfl,by have:=hc 0 _ rfl;rwa [Vs]at this,by have:=hc 1 _ rfl;rwa [Qb _ (by decide)]at this⟩
theorem q2z.at_:Vb q2z jb 3:=fun W vs x p e hc=>by
 subst e;exact⟨rfl,by have:=hc 0 _ rfl;rwa [Vs]at this,by have:=hc 1 _ rfl;rwa [Qb _ (by decide)]at this,by have:=hc 2 _ rfl;rwa [Qb _ (by decide)]at this⟩
theorem q35.at_:Vb q35 jW 3:=fun W vs x p e hc=>by
 obtain⟨A1,k1,A2,k2,rfl,h1,h2,h3⟩:=e;exact⟨rfl,by have:=hc 0 _ rfl;rwa [Vs]at this,⟨A1,k1,by have:=hc 1 _ rfl;rwa [Qb _ (by decide)]at this,h1⟩,⟨A2,k2,by have:=hc 2 _ rfl;rwa [Qb _ (by decide)]at this,h2⟩,h3⟩
theorem q33.at_:Vb q33 vN 8:=fun W vs x p e hc=>by
 obtain⟨A0,k0,A1,k1,A4,k4,A7,k7,rfl,h0,h1,h4,h7⟩:=e;refine⟨rfl,⟨A0,k0,?_,h0⟩,⟨A1,k1,?_,h1⟩,?_,?_,⟨A4,k4,?_,h4⟩,?_,?_,⟨A7,k7,?_,h7⟩⟩
 ·have:=hc 0 _ rfl;rwa [Vs]at this
 ·have:=hc 1 _ rfl;rwa [Qb _ (by decide)]at this
 ·have:=hc 2 _ rfl;rwa [Qb _ (by decide)]at this
 ·have:=hc 3 _ rfl;rwa [Qb _ (by decide)]at this
 ·have:=hc 4 _ rfl;rwa [Qb _ (by decide)]at this
 ·have:=hc 5 _ rfl;rwa [Qb _ (by decide)]at this
 ·have:=hc 6 _ rfl;rwa [Qb _ (by decide)]at this
 ·have:=hc 7 _ rfl;rwa [Qb _ (by decide)]at this
theorem q0r{α:Type}{El:ElP α}(hM:QL El){S S':Nat→Bool}{w w':World}{vs:List Value}{x:α}(h:El (vr S w) vs x)(hz:w.heap.size≤w'.heap.size)
  (hs:∀b,b<w.heap.size→S b=false→S' b=false∧w'.heap[b]? =w.heap[b]?):El (vr S' w') vs x:=
 hM h (by rw[JR,JR];exact hz) fun q v hq hc=>by
  rw[JR]at hq;obtain⟨h1,h2⟩:=Jo.mp hc;obtain⟨g1,g2⟩:=hs _ hq h1;exact⟨Jo.mpr ⟨g1,(X7 (w:=w) g2).trans h2⟩,by rw[q84 g1,q84 h1];exact World.frozen?_of_block (w:=w) g2⟩
theorem q86{k:Nat}:∀(vss:List (List Value)) (i r:Nat) (vs:List Value),(∀vs ∈vss,vs.length=k)→vss[i]? =some vs→r<k→vss.flatten[i*k+r]? =vs[r]?
 | [],i,r,x,_,h,_=>by simp at h
 |y::l,0,r,x,hf,h,hr=>by
  simp at h;subst h;rw[List.flatten_cons,XJ (by rw[hf _ XE];omega)];simp
 |y::l,i+1,r,x,hf,h,hr=>by
  have e:=hf y XE;rw[List.flatten_cons,XM (by rw[e,Nat.add_mul];omega),e];rw[show(i+1)*k+r - k=i*k+r by rw[Nat.add_mul];omega];exact q86 l i r x (fun vs h=>hf vs (XI _ h)) (by simpa using h) hr
def rowS(base:Nat)(v:Value):Nat→Bool:=fun b=>decide (b<base)||decide (v.ownBlock=some b)
theorem q0k{base b:Nat}{v:Value}:rowS base v b=false↔base≤b∧¬v.ownBlock=some b:=by unfold rowS;simp
def Zv{α:Type}(El:ElP α)(w:World)(base e k:Nat)(v:Value)(l:List α):Prop:=
 ∃vss:List (List Value),vss.length=l.length∧(∀vs ∈vss,vs.length=k)∧w.ownsRow base e k v l.length vss.flatten∧∀(i:Nat) (vs:List Value) (x:α),vss[i]? =some vs→l[i]? =some x→El (vr (rowS base v) w) vs x
section
variable{α:Type}{El:ElP α}{w w':World}{base e k:Nat}{v:Value}{l:List α}
theorem Zv.nil(w:World):Zv El w base e k (.slice none 0 0) ([]:List α):=⟨[],rfl,by simp,XT _ _ _ _,fun _ _ _ h=>by simp at h⟩
theorem Zv.keep(hM:QL El)(h:Zv El w base e k v l){N:Nat}(hg:w.grownBy w' (some N))(hN:N<base):Zv El w' base e k v l:=by
 obtain⟨vss,h1,h2,h3,h4⟩:=h;refine⟨vss,h1,h2,h3.kept hg ?_,fun i vs x hi hx=>q0r hM (h4 i vs x hi hx) hg.size fun b hb hs=>⟨hs,hg.block b hb ?_⟩⟩
 ·rcases hv:v.ownBlock with _|g
  ·exact .inl rfl
  ·exact .inr (fun e=>by injection e with e;have:=(h3.lt g hv).1;omega)
 ·intro e;injection e with e;have:=(q0k.mp hs).1;omega
theorem Zv.alloc(hM:QL El)(h:Zv El w base e k v l)(o:Obj):Zv El (w.alloc o) base e k v l:=by
 obtain⟨vss,h1,h2,h3,h4⟩:=h;exact⟨vss,h1,h2,h3.alloc o,fun i vs x hi hx=>q0r hM (h4 i vs x hi hx) (by simp) fun b hb hs=>⟨hs,Below.heap_alloc w o b hb⟩⟩
theorem Zv.snoc(hM:QL El){vss:List (List Value)}(h1:vss.length=l.length)(h2:∀vs ∈vss,vs.length=k)(h3:w.ownsRow base e k v l.length vss.flatten)
  (h4:∀(i:Nat) (vs:List Value) (x:α),vss[i]? =some vs→l[i]? =some x→El (vr (rowS base v) w) vs x) {vs:List Value} {x:α} (hk:vs.length=k) {n:Nat} (hn:base≤n) (hv:∀g,v.ownBlock=some g→g<n)
  (hx:El (vr (fun b=>decide (b<n)) w) vs x) {g c:Nat} (hown:w'.ownsRow base e k (.slice (some ⟨g,0,none⟩) (l.length+1) c) (l.length+1) (vss.flatten++vs)) (hgrow:w.grownBy w' v.ownBlock) (hor:v.ownBlock=some g∨g=w.heap.size):
  Zv El w' base e k (.slice (some ⟨g,0,none⟩) (l.length+1) c) (l++[x]):=by
 have hS:∀b,b<w.heap.size→rowS base v b=false→rowS base (.slice (some ⟨g,0,none⟩) (l.length+1) c) b=false∧w'.heap[b]? =w.heap[b]? :=fun b hb hs=>by
  obtain⟨s1,s2⟩:=q0k.mp hs;refine⟨q0k.mpr ⟨s1,fun e=> ?_⟩,hgrow.block b hb (fun e=>s2 e.symm)⟩;have e:g=b:=by simpa[Value.ownBlock]using e
  rcases hor with h|h
  ·exact s2 (by rw[h,e])
  ·omega
 refine⟨vss++[vs],by simp[h1],fun y hy=> ?_,by simpa using hown,fun i ys y hi hy=> ?_⟩
 ·rcases Xs.mp hy with h|h
  ·exact h2 y h
  ·simp at h;subst h;exact hk
 ·rcases Xj i l.length with hlt|hge
  ·rw[XJ (by omega)]at hi hy;exact q0r hM (h4 i ys y hi hy) hgrow.size hS
  ·rw[XM (by omega)]at hi hy;have e1:i=l.length:=by
    rcases Xj i (l.length+1)with h|h
    ·omega
    ·rw[Xu (by simp;omega)]at hy;cases hy
   subst e1;simp[h1]at hi hy;subst hi hy;exact q0r hM hx hgrow.size fun b hb hs=>hS b hb (q0k.mpr ⟨by simp at hs;omega,fun e=>by have:=hv b e;simp at hs;omega⟩)
theorem Zv.slice{At:AtP α}(hE:Vb El At k)(hM:QL El)(hk:0<k)(h:Zv El w base e k v l):
  ∃A c,v= .slice A l.length c∧zd At k (vr (fun b=>decide (b<base)) w) w.heap.size A c l:=by
 obtain⟨vss,h1,h2,h3,h4⟩:=h;rcases kq h3 with⟨rfl,hn⟩|⟨g,c,rfl,hc,hm⟩
 ·have:l=[]:=XZ hn;subst this;exact⟨none,0,rfl,⟨zn _,by omega,qB.nil⟩⟩
 ·refine⟨_,c,rfl,⟨hc,hm,fun i x hx=> ?_⟩⟩;obtain⟨hb,hcell⟩:=JQ h3;have hi:i<l.length:=by
   rcases Xj i l.length with h|h
   ·exact h
   ·rw[Xu h]at hx;cases hx
  have hvs:vss[i]? =some vss[i]:=Xc (by omega);have hl:=h2 _ (Xd (show i<vss.length by omega));have hel:=h4 i _ x hvs hx;have hcs:∀j u,vss[i][j]? =some u→w.cell? ((Addr.add ⟨g,0,none⟩ (i*k)).add j)=some u∧g<w.heap.size:=fun j u hu=>by
   have hj:j<k:=by
    rcases Xj j k with h|h
    ·exact h
    ·rw[Xu (by omega)]at hu;cases hu
   have:=hcell (i*k+j) u (by rw[q86 vss i j _ h2 hvs hj];exact hu);rw[Vc];have e:(Addr.add ⟨g,0,none⟩ (i*k+j))=⟨g,i*k+j,none⟩:=by
    unfold Addr.add;split
    ·rename_i h0;rw[h0]
    ·simp
   rw[e];exact this
  have hgw:g<w.heap.size:=by
   cases hv:vss[i]with
   |nil=>rw[hv]at hl;simp at hl;omega
   |cons a t=>exact(hcs 0 a (by rw[hv];rfl)).2
  refine⟨_,rfl,hgw,?_⟩;have hA:=hE (W:=vr (fun b=>decide (b<base)) w) (p:=Addr.add ⟨g,0,none⟩ (i*k)) (q0r hM hel (zn _) fun b hb' hs=>⟨by have:=(q0k.mp hs).1;simp;omega,rfl⟩) fun j u hu=>Jo.mpr ⟨by rw[zp,zp];simp;exact hb,(hcs j u hu).1⟩;rw[JR]at hA;exact hA.2
end
section
variable{α:Type}{At:AtP α}{k:Nat}{S:Nat→Bool}{wa w w1:World}{A:Option Addr}{cap:Nat}{l:List α}
end
theorem YL(a:Addr)(i:Nat)(hi:0<i):a.add i=zc a i:=by unfold Addr.add;split<;>simp_all
def kF(z:zf×qh):List Value:=zL z.2 z.1
def kE(zs:List (zf×qh)):List Value:=zs.flatMap kF
theorem qrk(l:List (zf×qh)):(kE l).length=l.length*8:=q1g (f:=kF) (k:=8) (fun _=>rfl) l
theorem qrj(l:List (zf×qh)):∀u ∈kE l,u.oneCell'=true:=fun u hu=>by
 obtain⟨t,_,h⟩:=List.mem_flatMap.mp hu;simp[kF]at h;rcases h with rfl|rfl|rfl|rfl|rfl|rfl|rfl|rfl<;>rfl
theorem qcs{zs:List (zf×qh)}{i r:Nat}{z:zf×qh}(h:zs[i]? =some z)(hr:r<8):(kE zs)[i*8+r]? =(kF z)[r]? :=Zm (f:=kF) (k:=8) (fun _=>rfl) zs i r z h hr
theorem q9v{Q:Nat→zf→qh→Prop}:∀(l:List zf) (k:Nat),(∀i x,l[i]? =some x→∃y,Q (k+i) x y)→∃zs:List (zf×qh),zs.map (·.1)=l∧∀i z,zs[i]? =some z→Q (k+i) z.1 z.2
 | [],k,_=>⟨[],rfl,fun i z h=>by simp at h⟩
 |a::l,k,h=>by
  obtain⟨y,hy⟩:=h 0 a rfl;obtain⟨zs,e,hz⟩:=q9v (Q:=Q) l (k+1) fun i x hi=>by
   have:=h (i+1) x (by simpa using hi)
   rwa [show k+1+i=k+(i+1)by omega]
  refine⟨(a,y)::zs,by simp[e],fun i z hi=> ?_⟩
  match i,hi with
  |0,hi=>simp at hi;subst hi;exact hy
  |i+1,hi=>
   have:=hz i z (by simpa using hi)
   rwa [show k+(i+1)=k+1+i by omega]
theorem qud{w:World}{B:Nat}{A:Option Addr}{l:List zf}(h:qB vN 8 w B A l):∃zs:List (zf×qh),zs.map (·.1)=l∧zx w B A (kE zs)∧∀z ∈zs,qL w B z.2 z.1:=by
 obtain⟨zs,e,hz⟩:=q9v (Q:=fun i (x:zf) (y:qh)=>qL w B y x∧∃ad,A=some ad∧ad.block<B∧YZ w (ad.add (i*8)) y x) l 0 (fun i x hi=>by
  obtain⟨ad,e,hb,hm⟩:=h i x hi;obtain⟨hx,h1,h2⟩:=qct hm;exact⟨hx,h1,ad,e,hb,by rw[Nat.zero_add];exact h2⟩)
 refine⟨zs,e,fun j u hu=> ?_,fun z hz'=> ?_⟩
 ·obtain⟨i,r,t,rfl,hr,hi,hv⟩:=q62 (f:=kF) (k:=8) (by decide) (fun _=>rfl) zs j u hu;obtain⟨_,ad,e,hb,hc⟩:=hz i t hi;rw[Nat.zero_add]at hc;refine⟨ad,e,hb,?_⟩;rw[←Vc]
  match r,hr,hv with
  |0,_,hv=>simp[kF]at hv;subst hv;rw[show(ad.add (i*8)).add 0=ad.add (i*8)by simp[Addr.add]];exact hc.c0
  |1,_,hv=>simp[kF]at hv;subst hv;rw[YL _ 1 (by decide)];exact hc.c1
  |2,_,hv=>simp[kF]at hv;subst hv;rw[YL _ 2 (by decide)];exact hc.c2
  |3,_,hv=>simp[kF]at hv;subst hv;rw[YL _ 3 (by decide)];exact hc.c3
  |4,_,hv=>simp[kF]at hv;subst hv;rw[YL _ 4 (by decide)];exact hc.c4
  |5,_,hv=>simp[kF]at hv;subst hv;rw[YL _ 5 (by decide)];exact hc.c5
  |6,_,hv=>simp[kF]at hv;subst hv;rw[YL _ 6 (by decide)];exact hc.c6
  |7,_,hv=>simp[kF]at hv;subst hv;rw[YL _ 7 (by decide)];exact hc.c7
 ·obtain⟨i,hi⟩:=List.getElem?_of_mem hz';exact(hz i z hi).1
theorem qr8{w:World}{B e n g c:Nat}{zs:List (zf×qh)}(h:w.ownsRow B e 8 (.slice (some ⟨g,0,none⟩) n c) n (kE zs))(hn:zs.length=n)(hg:∀z ∈zs,qL w w.heap.size z.2 z.1):zd vN 8 w w.heap.size (some ⟨g,0,none⟩) c (zs.map (·.1)):=by
 rcases kq h with⟨hv,_⟩|⟨g',c',hv,h1,h2⟩
 ·cases hv
 ·injection hv with e1 e2 e3;injection e1 with e1;injection e1 with e1;subst e1 e3;obtain⟨hb,hc⟩:=JQ h;refine⟨by simpa[hn]using h1,h2,fun i x hi=> ?_⟩;rw[Xx]at hi;cases hz:zs[i]? with
  |none=>rw[hz]at hi;cases hi
  |some z=>
   rw[hz]at hi;simp at hi;subst hi;have hq:=hg z (Xo hz);have cell:∀(r:Nat) (u:Value),r<8→(kF z)[r]? =some u→w.cell? ⟨g,i*8+r,none⟩=some u∧g<w.heap.size:=fun r u hr hu=>hc _ u (by rw[qcs hz hr];exact hu);have e0:Addr.add ⟨g,0,none⟩ (i*8)=⟨g,i*8,none⟩:=by unfold Addr.add;split<;>simp_all
   refine⟨_,rfl,(cell 0 _ (by decide) rfl).2,?_⟩;rw[e0];exact⟨⟨_,_,(cell 0 _ (by decide) rfl).1,hq.args⟩,⟨_,_,(cell 1 _ (by decide) rfl).1,hq.locals⟩,(cell 2 _ (by decide) rfl).1,(cell 3 _ (by decide) rfl).1,⟨_,_,(cell 4 _ (by decide) rfl).1,hq.code⟩,(cell 5 _ (by decide) rfl).1,(cell 6 _ (by decide) rfl).1,⟨_,_,(cell 7 _ (by decide) rfl).1,hq.phi⟩⟩
def jt(n:Int):Bool:=decide (n> -4611686018427387904)&& decide (n<4611686018427387904)
theorem JY{n:Int}:jt n=true↔ -4611686018427387904<n∧n<4611686018427387904:=by
 unfold jt;rw[Xv,Xr,Xr]
def JA(a b:Int):Option Int:=if jt a=true∧jt b=true∧jt (a*b)=true then some (a*b)else none
def YU(a b:Int):Option Int:=if jt a=true∧jt b=true∧jt (a+b)=true then some (a+b)else none
def ZG(s:Int):List (Int×Int)→Option Int
 | []=>some s
 |p::l=>match JA p.1 p.2 with
  |none=>none
  |some x=>match YU s x with
   |none=>none
   |some y=>ZG y l
def YX(a b:List Int):Option Int:=ZG 0 (a.zip b)
theorem qsc{s:Int}{p:Int×Int}{l:List (Int×Int)}(h:JA p.1 p.2=none):ZG s (p::l)=none:=by unfold ZG;rw[h]
theorem qsb{s x:Int}{p:Int×Int}{l:List (Int×Int)}(h:JA p.1 p.2=some x)(g:YU s x=none):ZG s (p::l)=none:=by unfold ZG;rw[h];dsimp only;rw[g]
theorem qd9{s x y:Int}{p:Int×Int}{l:List (Int×Int)}(h:JA p.1 p.2=some x)(g:YU s x=some y):ZG s (p::l)=ZG y l:=by
 conv=>lhs;unfold ZG
 rw[h];dsimp only;rw[g]
abbrev Inq:=List Int×Int
def q0v:AtP Inq:=fun w B p q=>zG zq 1 w B p q.1∧w.cell? (zc p 1)=some (.int .i64 q.2)
theorem q0v.keeps:vy q0v:=fun _ _ _ _ p _ h hp hC hc=>⟨zG.keeps zq.keeps 1 h.1 hp hC hc,(hc (zc p 1) hp).trans h.2⟩
abbrev inqV(q:Inq)(A:Option Addr)(c:Nat):Value:= .agg #[.slice A q.1.length c,.int .i64 q.2]
def ZK(q:Inq)(at_:List Int):Option Bool:=if q.1.length=at_.length then(YX q.1 at_).map (fun n=>decide (n≤q.2))else none
def q0w(r:Option Bool)(w:World)(e:Ending)(w':World):Prop:=e= .returned (.tuple #[.bool (r.getD false),.int .i64 (if r.isSome then 0 else 14)])∧Below w.heap.size w w'
theorem qjp(w:World)(b i:Nat)(v:Value):w.grownBy (w.setCell ⟨b,i,none⟩ v) (some b):=⟨rfl,rfl,rfl,by simp,fun k _ hk=>Below.heap_setCell _ _ _ k (fun e=>hk (by rw[e]))⟩
theorem q8d{w w':World}{g N:Nat}{vs:List Value}{T:TypeId}(h:ze w g vs T)(hg:w.grownBy w' (some N))(hne:g≠N):ze w' g vs T:=(hg.block g (ze.lt h) (fun e=>hne (by injection e))).trans h
def atI(L:List Int)(i:Int):Int:=if i<0 then 0 else L[i.toNat]?.getD 0
theorem qv2(L:List Int)(k:Nat):atI L (k:Int)=oN L k:=by unfold atI oN;rw[Xa (by omega),Xe]
def vz(L:List Int)(i b:Int):List Int:=if 0≤i∧i<L.length then L.set i.toNat (oN L i.toNat+b)else L
theorem q2m(L:List Int)(i b:Int):(vz L i b).length=L.length:=by unfold vz;split<;>simp
theorem qe8{L:List Int}{i b:Int}{v:Nat}(h:v<L.length):oN (vz L i b) v=oN L v+(if(v:Int)=i then b else 0):=by
 unfold vz;by_cases h0:0≤i∧i<L.length
 ·rw[Xb h0,Yg (by omega)];by_cases e:(v:Int)=i
  ·rw[Xb (by omega),Xb e];subst e;rw[Xe]
  ·rw[Xa (by omega),Xa e,Int.add_zero]
 ·rw[Xa h0,Xa (by omega),Int.add_zero]
set_option maxHeartbeats 1600000 in
theorem qr5(L:List Int)(n g:Nat)(i b:Int)(w:World)(hn:L.length=n)(h:zY w g L)(hl:n≤1000)(hs:∀x ∈L,-1000≤x∧x≤1000)(hb: -1000≤b∧b≤1000):
  Calls Tryz.prog 146 #[.slice (some ⟨g,0,none⟩) n n,.int .i64 i,.int .i64 b] w fun e w'=>e= .returned (.tuple #[])∧zY w' g (vz L i b)∧w.grownBy w' (some g):=by
 by_cases h0:i<0
 ·have e:vz L i b=L:=by unfold vz;rw[Xa (by omega)]
  rw[e];have H:=zH h;have hi2:¬0≤i:=by omega
  clear h e;go_enter Tryz.func146,Tryz.ntmps146;go_wp2_with fail
  go_end0
  exact⟨rfl,H.out,World.grownBy.refl _ _⟩
 ·obtain⟨k,rfl⟩:=Xm (show 0≤i by omega);by_cases h1:k<n
  ·have hk:k<L.length:=by omega
   have hc:=h.at_ hk;have hf:=ze.free h k;have e:vz L (k:Int) b=L.set k (oN L k+b):=by unfold vz;rw[Xb ⟨by omega,by omega⟩,Xe]
   rw[e];have hx:=hs _ (Xd hk);rw[←Zb hk]at hx;have HI:=zH (IntWalk.i64_in (oN L k+b) ⟨by omega,by omega⟩);have H:=zH (h.set (t:=k) (oN L k+b));generalize oN L k=x at*
   have hkj:(k:Int)<(n:Int):=by omega
   have hH:=HI.out;clear h e hs hb;go_enter Tryz.func146,Tryz.ntmps146;go_wp2_with fail
   go_end0
   exact⟨rfl,H.out,qjp _ _ _ _⟩
  ·have e:vz L (k:Int) b=L:=by unfold vz;rw[Xa (by omega)]
   rw[e];have H:=zH h;have hkj:¬(k:Int)<(n:Int):=by omega
   clear h e;go_enter Tryz.func146,Tryz.ntmps146;go_wp2_with fail
   go_end0
   exact⟨rfl,H.out,World.grownBy.refl _ _⟩
theorem qdz{L L':List Int}{n g:Nat}{i b:Int}{w:World}(hn:Hid (L.length=n))(h:Hid (zY w g L))(hl:Hid (n≤1000))(hs:Hid (∀x ∈L,-1000≤x∧x≤1000))(hb:Hid (-1000≤b∧b≤1000))(hr:Hid (vz L i b=L')):
  Calls Tryz.prog 146 #[.slice (some ⟨g,0,none⟩) n n,.int .i64 i,.int .i64 b] w fun e w'=>e= .returned (.tuple #[])∧zY w' g L'∧w.grownBy w' (some g):=by
 have H:=qr5 L n g i b w hn.out h.out hl.out hs.out hb.out;rw[hr.out]at H;exact H
def upW(O:List Int)(t:Int×Int×Int):Int:=if atI O t.2.1+t.2.2>oN O t.1.toNat then atI O t.2.1+t.2.2 else oN O t.1.toNat
def q0x(O:List Int)(t:Int×Int×Int):List Int:=O.set t.1.toNat (upW O t)
structure q6h(l:List (Int×Int×Int))(n:Nat):Prop where
 src:∀t ∈l,0≤t.1∧t.1<n
 cost:∀t ∈l,0≤t.2.2∧t.2.2≤1000001
 none:∀t ∈l,t.2.1<0→t.2.2=0
structure Yk(l:List (Int×Int×Int))(n:Nat)(O:List Int)(K:Nat):Prop where
 len:O.length=n
 low:∀p,0≤oN O p
 top:∀p,oN O p≤(K:Int)*1000001
 want:∀p:Nat,oN O p≠0→∃(q:Nat) (c:Int),((p:Int),(q:Int),c) ∈l∧(q≠p∨0<c)∧oN O p≤oN O q+c
theorem q5x(n p:Nat):oN (List.replicate n 0) p=0:=by
 unfold oN;rw[Wn];split<;>rfl
section
variable{l:List (Int×Int×Int)}{n K:Nat}{O:List Int}
theorem Yk.start(l:List (Int×Int×Int))(n:Nat):Yk l n (List.replicate n 0) 0:=
 ⟨Wq ..,fun p=>by rw[q5x];exact XR _,fun p=>by rw[q5x];omega,fun p h=>absurd (q5x n p) h⟩
theorem Yk.more(h:Yk l n O K){M:Nat}(hM:K≤M):Yk l n O M:=⟨h.len,h.low,fun p=>by have:=h.top p;omega,h.want⟩
theorem Yk.step(h:Yk l n O K)(hl:q6h l n){t:Int×Int×Int}(ht:t ∈l):Yk l n (q0x O t) (K+1):=by
 obtain⟨a,b,c⟩:=t;obtain⟨h1,h2⟩:=hl.src _ ht;obtain⟨h3,h4⟩:=hl.cost _ ht;have h5:=hl.none _ ht;dsimp only at h1 h2 h3 h4 h5;obtain⟨p,rfl⟩:=Xm h1;have hp:p<O.length:=by rw[h.len];omega
 by_cases hu:atI O b+c>oN O p;rotate_left
 ·have e:q0x O ((p:Int),b,c)=O:=by
   unfold q0x upW;dsimp only;rw[Xe,Xa hu,Zb hp,List.set_getElem_self]
  rw[e];exact h.more (by omega)
 have e:q0x O ((p:Int),b,c)=O.set p (atI O b+c):=by
  unfold q0x upW;dsimp only;rw[Xe,Xb hu]
 have hb:¬b<0:=fun hb=>by
  have:=h5 hb;have e2:atI O b=0:=by unfold atI;rw[Xb hb]
  have:=h.low p;omega
 obtain⟨q,rfl⟩:=Xm (show 0≤b by omega);rw[e];rw[qv2]at hu⊢
 obtain⟨v,hv⟩:∃v,oN O q+c=v:=⟨_,rfl⟩
 rw[hv]at hu⊢
 have hq:=h.low q;have hqt:=h.top q;have hat:∀x,oN (O.set p v) x=if x=p then v else oN O x:=fun x=>Yg hp
 have hup:∀x,oN O x≤oN (O.set p v) x:=fun x=>by
  rw[hat];split
  ·rename_i e;subst e;omega
  ·exact XR _
 refine⟨by rw[XD];exact h.len,fun x=>by have:=hup x;have:=h.low x;omega,fun x=> ?_,fun x hx=> ?_⟩
 ·rw[hat];split
  ·omega
  ·have:=h.top x;omega
 ·by_cases ex:x=p
  ·subst ex;refine⟨q,c,ht,?_,?_⟩
   ·by_cases eq:q=x
    ·subst eq;right;omega
    ·exact .inl eq
   ·have:=hup q;rw[hat x,Xb rfl];omega
  ·rw[hat x,Xa ex]at hx⊢
   obtain⟨q',c',g1,g2,g3⟩:=h.want x hx;exact⟨q',c',g1,g2,by have:=hup q';omega⟩
end
def Qj:List Int→List Int→Int
 |a::l,b::m=>a*b+Qj l m
 | [],_=>0
 |_::_,[]=>0
theorem qex(a:List Int):Qj a []=0:=by cases a<;>rfl
theorem Vv{n:Int}(h:n.natAbs<4611686018427387904):jt n=true:=JY.mpr ⟨by omega,by omega⟩
theorem q6w(P Q:Nat)(hP:P<4611686018427387904)(hQ:Q<4611686018427387904)(hPQ:P*Q<4611686018427387904):∀(a b:List Int) (s:Int),(∀x ∈a,x.natAbs≤P)→(∀y ∈b,y.natAbs≤Q)→s.natAbs+a.length*(P*Q)<4611686018427387904→
  ZG s (a.zip b)=some (s+Qj a b)
 | [],b,s,_,_,_=>by simp[ZG,Qj]
 |a::l,[],s,_,_,_=>by simp[ZG,Qj]
 |a::l,b::m,s,ha,hb,hs=>by
  have h1:=ha a (by simp);have h2:=hb b (by simp);have h3:(a*b).natAbs≤P*Q:=by rw[Int.natAbs_mul];exact Nat.mul_le_mul h1 h2
  have h4:(s+a*b).natAbs≤s.natAbs+P*Q:=Xg (Int.natAbs_add_le _ _) (Nat.add_le_add_left h3 _);have h5:(l.length+1)*(P*Q)=l.length*(P*Q)+P*Q:=Nat.succ_mul _ _;rw[XL,h5]at hs;have ht:JA a b=some (a*b):=Xb ⟨Vv (by omega),Vv (by omega),Vv (by omega)⟩;have hp:YU s (a*b)=some (s+a*b):=Xb ⟨Vv (by omega),Vv (by omega),Vv (by omega)⟩;rw[List.zip_cons_cons,qd9 (p:=(a,b)) ht hp,q6w P Q hP hQ hPQ l m (s+a*b) (fun x hx=>ha x (by simp[hx])) (fun x hx=>hb x (by simp[hx])) (by omega)];show some (s+a*b+Qj l m)=some (s+(a*b+Qj l m));rw[Int.add_assoc]
theorem qkj{P Q:Nat}(hP:P<4611686018427387904)(hQ:Q<4611686018427387904)(hPQ:P*Q<4611686018427387904){a b:List Int}(ha:∀x ∈a,x.natAbs≤P)(hb:∀y ∈b,y.natAbs≤Q)(h:a.length*(P*Q)<4611686018427387904):YX a b=some (Qj a b):=by
 have:=q6w P Q hP hQ hPQ a b 0 ha hb (by simpa using h);rw[Int.zero_add]at this;exact this
def ofO(n:Int):Option Int:=if jt n=true then some n else none
def QQ:Option Int→Option Int→Option Int
 |some a,some b=>ofO (a+b)
 |_,_=>none
def ZC:Option Int→Option Int→Option Int
 |some a,some b=>ofO (a*b)
 |_,_=>none
def vO(r:Option Int):Prop:=∀n,r=some n→jt n=true
theorem q2j(n:Int):vO (ofO n):=fun k e=>by
 unfold ofO at e;split at e
 ·injection e with e;subst e;assumption
 ·cases e
theorem qbw(a b:Option Int):vO (QQ a b):=by
 cases a with
 |none=>intro k e;cases e
 |some x=>cases b with
  |none=>intro k e;cases e
  |some y=>exact q2j _
theorem qb3(a b:Option Int):vO (ZC a b):=by
 cases a with
 |none=>intro k e;cases e
 |some x=>cases b with
  |none=>intro k e;cases e
  |some y=>exact q2j _
theorem qol:vO (some 0):=fun n e=>by injection e with e;subst e;rfl
theorem qb2(a b:Int):ZC (ofO a) (ofO b)=JA a b:=by
 unfold JA ofO;cases ha:jt a with
 |false=>cases hb:jt b with
  |false=>simp[ZC]
  |true=>simp[ZC]
 |true=>cases hb:jt b with
  |false=>simp[ZC]
  |true=>cases hc:jt (a*b)with
   |false=>simp[ZC,ofO,hc]
   |true=>simp[ZC,ofO,hc]
theorem q8g{a b n:Int}(h:JA a b=some n):jt n=true:=by
 rw[←qb2]at h;exact qb3 _ _ n h
theorem qdi{a b:Int}(ha:jt a=true)(hb:jt b=true):QQ (some a) (some b)=YU a b:=by
 unfold YU;cases hc:jt (a+b)with
 |false=>simp[QQ,ofO,hc]
 |true=>simp[QQ,ofO,hc,ha,hb]
def q0y(s:Option Int)(p:Int×Int):Option Int:=QQ s (ZC (ofO p.1) (ofO p.2))
theorem qhd(s:Option Int)(p:Int×Int):vO (q0y s p):=qbw _ _
def VK(s:Option Int)(l:List (Int×Int)):Option Int:=l.foldl q0y s
theorem q48:∀l:List (Int×Int),VK none l=none
 | []=>rfl
 |p::l=>q48 l
theorem qbj:∀(l:List (Int×Int)) (s:Int),jt s=true→VK (some s) l=ZG s l
 | [],s,h=>rfl
 |p::l,s,h=>by
  show VK (q0y (some s) p) l=_;unfold q0y;rw[qb2];cases hx:JA p.1 p.2 with
  |none=>rw[qsc hx];exact q48 l
  |some x=>
   rw[qdi h (q8g hx)];cases hy:YU s x with
   |none=>rw[qsb hx hy];exact q48 l
   |some y=>
    rw[qd9 hx hy];have hf:jt y=true:=by
     rw[←qdi h (q8g hx)]at hy;exact qbw _ _ y hy
    exact qbj l y hf
def ZQ(L M:List Int)(i:Nat):Option Int:=VK (some 0) ((L.zip M).take i)
theorem q9l:∀(l:List (Int×Int)) (s:Option Int),vO s→vO (VK s l)
 | [],s,h=>h
 |p::l,s,h=>q9l l (q0y s p) (qhd s p)
theorem qiv(L M:List Int)(i:Nat):vO (ZQ L M i):=q9l _ _ qol
theorem qiu{L M:List Int}{i:Nat}{x y:Int}(h1:L[i]? =some x)(h2:M[i]? =some y):ZQ L M (i+1)=QQ (ZQ L M i) (ZC (ofO x) (ofO y)):=by
 have hz:(L.zip M)[i]? =some (x,y):=by rw[List.getElem?_zip_eq_some];exact⟨h1,h2⟩
 unfold ZQ;rw[XA,hz];unfold VK;rw[Wj];rfl
theorem qnk{L M:List Int}{n:Nat}(h:(L.zip M).length≤n):ZQ L M n=YX L M:=by
 unfold ZQ;rw[XH h,qbj _ _ rfl];rfl
theorem qbz{x y n:Int}(hx:jt x=true)(hy:jt y=true)(h0:y≠0)(hn:IntKind.i64.wrap (x*y)=n):(-9223372036854775808≤Int.tdiv n y∧Int.tdiv n y<9223372036854775808)∧(Int.tdiv n y=x→n=x*y):=by
 have⟨x1,x2⟩:=JY.mp hx;have⟨y1,y2⟩:=JY.mp hy;have hr: -9223372036854775808≤n∧n<9223372036854775808∧∃k:Int,n=x*y+k*18446744073709551616:=by
  rw[IntKind.wrap_i64]at hn;refine⟨by omega,by omega,?_⟩;refine⟨(n - x*y) / 18446744073709551616,?_⟩;omega
 obtain⟨n1,n2,k,hk⟩:=hr;have hd:=Int.mul_tdiv_add_tmod n y;have hm1:(Int.tmod n y).natAbs<y.natAbs:=by
  rw[Int.natAbs_tmod];exact Nat.mod_lt _ (Int.natAbs_pos.mpr h0)
 have hq:(Int.tdiv n y).natAbs=n.natAbs / y.natAbs:=by rw[Int.natAbs_tdiv];rfl
 have hback:Int.tdiv n y=x→n=x*y:=fun e=>by
  rw[e,Int.mul_comm y x]at hd;have:k*18446744073709551616=Int.tmod n y:=by omega
  have hk0:k=0:=by omega
  rw[hk0]at hk;omega
 refine⟨?_,hback⟩;by_cases e1:y= -1
 ·subst e1;have hxy:x* -1= -x:=by omega
  have hnx:n= -x:=by
   rw[hxy]at hn;rw[←hn];exact IntWalk.i64_in _ (by omega)
  rw[hnx,show((-1:Int))= -(1:Int)by rfl,Int.tdiv_neg,Int.tdiv_one];omega
 ·have hle:n.natAbs / y.natAbs≤n.natAbs:=Nat.div_le_self _ _;by_cases e2:y=1
  ·subst e2;rw[Int.tdiv_one];omega
  ·have h2:2≤y.natAbs:=by omega
   have:n.natAbs / y.natAbs≤n.natAbs / 2:=Nat.div_le_div_left h2 (by decide);omega
theorem qri{x y n:Int}(hx:jt x=true)(hy:jt y=true)(h0:y≠0)(hn:IntKind.i64.wrap (x*y)=n):(Int.tdiv n y≠x→jt (x*y)=false)∧(Int.tdiv n y=x→n=x*y):=by
 have⟨_,hb⟩:=qbz hx hy h0 hn;refine⟨fun h=> ?_,hb⟩;cases hf:jt (x*y)with
 |false=>rfl
 |true=>
  have⟨a,b⟩:=JY.mp hf;exfalso;apply h;rw[←hn,IntWalk.i64_in _ (by omega)];exact Int.mul_tdiv_cancel x h0
def numC(r:Option Int):List Value:=[.int .i64 (r.getD 0),.bool r.isNone]
abbrev jq(r:Option Int):Value:= .agg #[.int .i64 (r.getD 0),.bool r.isNone]
theorem qnq{w:World}{g:Nat}{s r:Option Int}{T:TypeId}(h:ze w g (numC s) T):ze ((w.setCell ⟨g,0,none⟩ (.int .i64 (r.getD 0))).setCell ⟨g,1,none⟩ (.bool r.isNone)) g (numC r) T:=(h.set 0 _).set 1 _
theorem ze.drew'{w:World}{g:Nat}{vs:List Value}{T:TypeId}(h:ze w g vs T):ze w.drew g vs T:=h
def jw(n:Nat):List Int:=if h:n<128 then [(n:Int)]else(128+(n:Int) % 128)::jw (n / 128)
termination_by n
decreasing_by omega
def encT(t:Int×Int):List Int:=if t.1=3 then jw 3++jw t.2.toNat else jw t.1.toNat
def JG(l:List (Int×Int)):List Int:=jw l.length++l.flatMap encT
abbrev YT(n:Int):List Int:=jw n.toNat
def Yp(l:List Int):List Int:=jw l.length++l.flatMap YT
def zig(n:Int):Int:=if n<0 then -2*n - 1 else 2*n
theorem ql8{w w':World}(h:Below w.heap.size w w')(a b c d e f g:Value):
  Below w.heap.size w (((((((w'.setCell ⟨w.heap.size,0,none⟩ a).setCell ⟨w.heap.size,1,none⟩ b).setCell ⟨w.heap.size,2,none⟩ c).setCell ⟨w.heap.size,3,none⟩ d).setCell ⟨w.heap.size,4,none⟩ e).setCell ⟨w.heap.size,5,none⟩ f).setCell ⟨w.heap.size,6,none⟩ g):=
 ((((((h.setCell (zn _) _).setCell (zn _) _).setCell (zn _) _).setCell (zn _) _).setCell (zn _) _).setCell (zn _) _).setCell (zn _) _
end Go.Proofs.YtcmiljnbmgkdnaaGreat
