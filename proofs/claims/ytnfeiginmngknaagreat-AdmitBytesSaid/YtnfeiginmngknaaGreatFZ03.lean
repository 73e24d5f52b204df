import Derived.Test.YtnfeiginmngknaaGreatFZ02
import Derived.Lib.AppendZeros
import Derived.OneCell
namespace Go.Proofs.YtnfeiginmngknaaGreat
set_option maxRecDepth 100000
set_option linter.unusedVariables false
set_option linter.unusedSimpArgs false
open Go.ChangeShapes Go.WideShapes Go.ChangeAt Go.RowKit
def iJ:List Int:=[1,3,4,18,19,22,23,29,30,31,34]
def zX(op:Int):Int:=if op<1\/34<op then -1 else if op ∈iJ then 1 else if op=27\/op=28\/op=32 then 2 else 0
theorem U6(w:World)(T:TypeId):zw (w.alloc (.cells (iJ.map (Value.int .i64)).toArray T)) (w.heap.size+1) (some ⟨w.heap.size,0,none⟩) (iJ.map (Value.int .i64)):=by
 intro j u hj;refine⟨_,rfl,by simp,?_⟩;have e:(Addr.add ⟨w.heap.size,0,none⟩ j)=⟨w.heap.size,j,none⟩:=by
  unfold Addr.add;split
  ·rename_i h0;subst h0;rfl
  ·simp
 rw[e,World.cell?_alloc_at _ _ _ _ rfl];rw[List.getElem?_toArray];exact hj
theorem PY{P:Prop}(h:P:=by
 go_enter Tryz.func26,Tryz.ntmps26;go_wp2_with(go_at_call 43;refine(gY iJ op _ 11 _ _ (by decide) (U6 w 3)).mono ?_;rintro e w' ⟨he,rfl⟩;rw[HI.out]at he;subst he)
 go_ret;exact⟨by rw[E.out];rfl,zk⟩):P:=h
set_option maxHeartbeats 1600000 in
theorem Tq(op:Int)(w:World):Calls Tryz.prog 26 #[.int .i64 op] w fun e w'=>e= .returned (.int .i64 (zX op))/\Below w.heap.size w w':=by
 by_cases h:op<1\/34<op
 ·have E:=zH (show zX op= -1 by unfold zX;rw[Xb h]);rcases h with h|h
  ·go_enter Tryz.func26,Tryz.ntmps26;go_wp2
   go_ret;exact⟨by rw[E.out];rfl,zk⟩
  ·have h':¬op<1:=by omega
   go_enter Tryz.func26,Tryz.ntmps26;go_wp2
   go_ret;exact⟨by rw[E.out];rfl,zk⟩
 ·have h0:¬op<1:=by omega
  have h1:¬34<op:=by omega
  by_cases h2:op ∈iJ
  ·have E:=zH (show zX op=1 by unfold zX;rw[Xa h,Xb h2]);have HI:=zH (show qb iJ op=true from Xi h2);clear h h2;exact PY
  ·have HI:=zH (show qb iJ op=false from Xf h2);by_cases h3:op=27\/op=28\/op=32
   ·have E:=zH (show zX op=2 by unfold zX;rw[Xa h,Xa h2,Xb h3]);clear h h2;rcases h3 with rfl|rfl|rfl;all_goals
     go_enter Tryz.func26,Tryz.ntmps26;go_wp2_with(go_at_call 43;refine(gY iJ _ _ 11 _ _ (by decide) (U6 w 3)).mono ?_;rintro e w' ⟨he,rfl⟩;rw[HI.out]at he;subst he)
     go_ret;exact⟨by rw[E.out];rfl,zk⟩
   ·have E:=zH (show zX op=0 by unfold zX;rw[Xa h,Xa h2,Xa h3]);have d1:(op==27)=false:=XG.mpr (fun g=>h3 (.inl g));have d2:(op==28)=false:=XG.mpr (fun g=>h3 (.inr (.inl g)));have d3:(op==32)=false:=XG.mpr (fun g=>h3 (.inr (.inr g)));clear h h2;exact PY
theorem qd4{w w1:World}{x y z:Value}{T:TypeId}(hb:Below (w.alloc (.cells #[x,y,z] T)).heap.size (w.alloc (.cells #[x,y,z] T)) w1):
  w1.cell? ⟨w.heap.size,0,none⟩=some x/\w1.cell? ⟨w.heap.size,1,none⟩=some y/\w1.cell? ⟨w.heap.size,2,none⟩=some z:=by
 have hs:w.heap.size<(w.alloc (.cells #[x,y,z] T)).heap.size:=by simp
 refine⟨(hb.cell hs).trans ?_,(hb.cell hs).trans ?_,(hb.cell hs).trans ?_⟩<;>(rw[World.cell?_alloc_at _ _ _ _ rfl];rfl)
abbrev qt(op a b:Int):Value:= .agg #[.int .i64 op,.int .i64 a,.int .i64 b]
def qs(op a b:Int):Bool:=decide (0<=zX op/\(1<=zX op\/a=0)/\(2<=zX op\/b=0)/\0<=a/\a<=255/\0<=b/\b<=255)
theorem pu(op:Int): -1<=zX op/\zX op<=2:=by
 unfold zX;split
 ·omega
 ·split
  ·omega
  ·split<;>omega
theorem q0d(op:Int):0<=zX op↔1<=op/\op<=34:=by
 unfold zX;split
 ·omega
 ·split
  ·omega
  ·split<;>omega
theorem uU{op a b:Int}:qs op a b=true↔0<=zX op/\(1<=zX op\/a=0)/\(2<=zX op\/b=0)/\0<=a/\a<=255/\0<=b/\b<=255:=by unfold qs;simp
theorem YN{op a b:Int}(h:qs op a b=true):1<=op/\op<=34/\0<=a/\a<=255/\0<=b/\b<=255:=by
 have h:=uU.mp h;have:=(q0d op).mp h.1;omega
set_option maxHeartbeats 1600000 in
theorem RF(op a b:Int)(w:World):Calls Tryz.prog 20 #[qt op a b] w fun e w'=>e= .returned (.bool (qs op a b))/\Below w.heap.size w w':=by
 obtain⟨n,hn⟩:=zj (zX op);have hr:=pu op;rw[hn]at hr;have E:=zH (show qs op a b=decide (0<=n/\(1<=n\/a=0)/\(2<=n\/b=0)/\0<=a/\a<=255/\0<=b/\b<=255)by unfold qs;rw[hn]);generalize qs op a b=r at E⊢
 have HN:=zH hn;clear hn;have HBo:=zH (zk (w:=w) (o:=(.cells #[.int .i64 op,.int .i64 a,.int .i64 b] 50)));go_enter Tryz.func20,Tryz.ntmps20;go_wp2_with(go_at_call 26;(with_reducible refine(Tq _ _).mono ?_);rintro e w1 ⟨rfl,hb⟩;rw[HN.out];obtain⟨c0,c1,c2⟩:=qd4 hb)
 all_goals
  go_ret;refine⟨K8 ?_,HBo.out.trans (hb.mono (by simp))⟩;rw[E.out];rw[XQ];simp;try simp only[XP,X7,ne_eq]at*
  omega
def EK(L M:List (Int×Int))(w:World)(e:Ending)(w':World):Prop:=
 ∃A c A' c',e= .returned (.tuple #[.slice A L.length c,.slice A' M.length c'])/\zd zf 2 w' w'.heap.size A c L/\zd zf 2 w' w'.heap.size A' c' M/\Below w.heap.size w w'
abbrev eZ(h:zh)(m:za)(op a b:Int)(w:World):World:=
 ((((((w.alloc (ze h m)).alloc (.cells #[.int .i64 op,.int .i64 a,.int .i64 b] 50)).alloc (.cells #[.int .i64 1,.int .i64 0] 45)).alloc (.cells #[.int .i64 2,.int .i64 0] 45)).alloc
  (.cells #[.int .i64 4,.int .i64 0] 45)).alloc (.cells #[.int .i64 0,.int .i64 0] 45)).alloc (.cells #[.int .i64 3,.int .i64 a] 45)
structure wI(w1:World)(N:Nat)(h:zh)(m:za)(op a b:Int):Prop where
 img:YW w1 N h m
 ins:zQ w1 (N+1) [.int .i64 op,.int .i64 a,.int .i64 b]
 t1:zQ w1 (N+1+1) [.int .i64 1,.int .i64 0]
 t2:zQ w1 (N+1+1+1) [.int .i64 2,.int .i64 0]
 t4:zQ w1 (N+1+1+1+1) [.int .i64 4,.int .i64 0]
 t0:zQ w1 (N+1+1+1+1+1) [.int .i64 0,.int .i64 0]
 t3:zQ w1 (N+1+1+1+1+1+1) [.int .i64 3,.int .i64 a]
 size:w1.heap.size=N+1+1+1+1+1+1+1
theorem DC(h:zh)(m:za)(op a b:Int)(w:World):Below w.heap.size w (eZ h m op a b w)/\wI (eZ h m op a b w) w.heap.size h m op a b:=by
 have z0:(w.alloc (ze h m)).heap.size=w.heap.size+1:=by simp
 obtain⟨c1,z1,b1⟩:=Jf z0 [.int .i64 op,.int .i64 a,.int .i64 b] 50;obtain⟨c2,z2,b2⟩:=Jf z1 [.int .i64 1,.int .i64 0] 45;obtain⟨c3,z3,b3⟩:=Jf z2 [.int .i64 2,.int .i64 0] 45;obtain⟨c4,z4,b4⟩:=Jf z3 [.int .i64 4,.int .i64 0] 45;obtain⟨c5,z5,b5⟩:=Jf z4 [.int .i64 0,.int .i64 0] 45;obtain⟨c6,z6,b6⟩:=Jf z5 [.int .i64 3,.int .i64 a] 45;have b5':=b5.trans (b6.mono (by omega));have Hw:=b4.trans (b5'.mono (by omega));have b3':=b3.trans (Hw.mono (by omega));have b2':=b2.trans (b3'.mono (by omega));have b1':=b1.trans (b2'.mono (by omega));exact⟨(zk (w:=w) (o:=(ze h m))).trans (b1'.mono (by omega)),
  (qd w h m).keep b1' (by omega),c1.keep b2' (by omega),c2.keep b3' (by omega),c3.keep Hw (by omega),c4.keep b5' (by omega),c5.keep b6 (by omega),c6,z6⟩
theorem JT{w:World}{g:Nat}{x y:Int}(hg:g<w.heap.size)(h0:w.cell? ⟨g,0,none⟩=some (.int .i64 x))(h1:w.cell? ⟨g,1,none⟩=some (.int .i64 y)):zd zf 2 w w.heap.size (some ⟨g,0,none⟩) 1 [(x,y)]:=
 ⟨zn _,by omega,Y6 ⟨h0,h1⟩ hg⟩
theorem LW{w:World}{g:Nat}{x y z u:Int}(hg:g<w.heap.size)(h0:w.cell? ⟨g,0,none⟩=some (.int .i64 x))(h1:w.cell? ⟨g,1,none⟩=some (.int .i64 y))(h2:w.cell? ⟨g,2,none⟩=some (.int .i64 z))(h3:w.cell? ⟨g,3,none⟩=some (.int .i64 u)):zd zf 2 w w.heap.size (some ⟨g,0,none⟩) 2 [(x,y),(z,u)]:=
 ⟨zn _,by omega,fun i t hi=>by
  match i,hi with
  |0,hi=>simp at hi;subst hi;exact⟨_,rfl,hg,by simpa[Addr.add]using h0,by simpa[Addr.add]using h1⟩
  |1,hi=>simp at hi;subst hi;exact⟨_,rfl,hg,by simpa[Addr.add]using h2,by simpa[Addr.add]using h3⟩
  |i+2,hi=>simp at hi⟩
theorem new_t3{w:World}{g:Nat}{x y z u v s:Int}(hg:g<w.heap.size)(h0:w.cell? ⟨g,0,none⟩=some (.int .i64 x))(h1:w.cell? ⟨g,1,none⟩=some (.int .i64 y))(h2:w.cell? ⟨g,2,none⟩=some (.int .i64 z))(h3:w.cell? ⟨g,3,none⟩=some (.int .i64 u))(h4:w.cell? ⟨g,4,none⟩=some (.int .i64 v))(h5:w.cell? ⟨g,5,none⟩=some (.int .i64 s)):zd zf 2 w w.heap.size (some ⟨g,0,none⟩) 3 [(x,y),(z,u),(v,s)]:=
 ⟨zn _,by omega,fun i t hi=>by
  match i,hi with
  |0,hi=>simp at hi;subst hi;exact⟨_,rfl,hg,by simpa[Addr.add]using h0,by simpa[Addr.add]using h1⟩
  |1,hi=>simp at hi;subst hi;exact⟨_,rfl,hg,by simpa[Addr.add]using h2,by simpa[Addr.add]using h3⟩
  |2,hi=>simp at hi;subst hi;exact⟨_,rfl,hg,by simpa[Addr.add]using h4,by simpa[Addr.add]using h5⟩
  |i+3,hi=>simp at hi⟩
def Ys(L:List (Int×Int))(w:World)(e:Ending)(w':World):Prop:=∃A c,e= .returned (.slice A L.length c)/\zd zf 2 w' w'.heap.size A c L/\Below w.heap.size w w'
theorem q6v(x:zl)(hx:qH)(w:World):Calls Tryz.prog 129 #[ZD hx x] w (Ys (vb x) w):=by
 have HW:=zH (zk (w:=w) (o:=(.cells (qj hx x).toArray 48)));have HC:=zH (qr w (qj hx x) 48);have hz:Hid ((w.alloc (.cells (qj hx x).toArray 48)).heap.size=w.heap.size+1):=zH (by simp);by_cases h5:x.ret.1=5
 ·have e:vb x=[]:=by unfold vb;rw[Xb h5]
  rw[e];have H5:=zH h5;clear e h5;go_enter Tryz.func129,Tryz.ntmps129;go_upto_region 1 with fail
  generalize w.alloc (.cells (qj hx x).toArray 48)=w1 at*
  have q2:=HC.out 2 _ rfl;rw[H5.out]at q2;go_wp2_with fail
  go_ret;exact⟨none,0,rfl,va,HW.out⟩
 ·have e:vb x=[x.ret]:=by unfold vb;rw[Xa h5]
  rw[e];clear e;go_enter Tryz.func129,Tryz.ntmps129;go_upto_region 1 with fail
  generalize w.alloc (.cells (qj hx x).toArray 48)=w1 at*
  have q2:=HC.out 2 _ rfl;have q3:=HC.out 3 _ rfl;have hz:=hz.out;go_wp2_with fail
  go_ret;refine⟨_,_,rfl,JT (by simp;try omega) (by go_simp) (by go_simp),HW.out.trans ((zb _ _).alloc (by omega) _)⟩
theorem DY{x:zl}{hx:qH}{w:World}{L:List (Int×Int)}(HL:Hid (vb x=L)):Calls Tryz.prog 129 #[ZD hx x] w (Ys L w):=by
 have H:=q6v x hx w;rw[HL.out]at H;exact H
theorem qbs{x:zl}{n:Int}{hx:qH}{w0 w:World}{t:Int×Int}(HM:Hid (jR w0 w0.heap.size hx x))(HX:Hid (Below w0.heap.size w0 w))(HR:Hid (vB x n=t))(hs:n<=9223372036854775807)(ha:x.args.length<=1048576)(hl:x.locals.length<=1048576):
  Calls Tryz.prog 128 #[ZD hx x,.int .i64 n] w fun e w'=>e= .returned (.agg #[.int .i64 t.1,.int .i64 t.2])/\Below w.heap.size w w':=by
 have H:=q6s x n hs hx w (HM.out.now HX.out) ha hl;rw[HR.out]at H;exact H
open Go.Sort (Holds putRow)
theorem U5{w:World}{B e c:Nat}{A:Option Addr}{xs ys:List Value}(h:w.ownsRow B e 1 (.slice A (xs++ys).length c) (xs++ys).length (xs++ys)):w.ownsRow B e 1 (.slice A xs.length c) xs.length xs:=by
 rcases h.2 with⟨hv,hn⟩|⟨g,cap,cur,hv,hb,hh,h1,h2,h3,h4⟩
 ·grind
 ·injection hv with e1 e2 e3;subst e1 e3;rw[Xh]at h1 h4;refine⟨by simp,.inr ⟨g,c,cur,rfl,hb,hh,by omega,h2,h3,?_⟩⟩;have:(cur.toList.take ((xs.length+ys.length)*1)).take xs.length=xs:=by grind
  grind
theorem pR{w:World}{B e n c:Nat}{A:Option Addr}{xs:List Value}(h:w.ownsRow B e 1 (.slice A n c) n xs)(hn:0<n):∃g,A=some ⟨g,0,none⟩/\n<=c/\c<=9223372036854775807/\g<w.heap.size/\B<=g:=by
 rcases h.2 with⟨_,h2⟩|⟨g,cap,cur,hv,hb,hh,h1,h2,_,_⟩
 ·omega
 ·injection hv with e1 e2 e3;subst e1 e3;exact⟨g,rfl,h1,by unfold maxLen at h2;omega,lt_of_block hh,hb⟩
theorem pU{w:World}{B e n c:Nat}{g:Nat}{xs:List Value}(h:w.ownsRow B e 1 (.slice (some ⟨g,0,none⟩) n c) n xs){j:Nat}{x:Value}(hj:xs[j]? =some x):w.cell? ⟨g,j,none⟩=some x:=by
 obtain⟨hlt,rfl⟩:=Xv.mp hj;exact Ed (zw.of_own h) j hlt
theorem mE{l:List Nat}{j v:Nat}(h:l[j]? =some v):(qe l)[j]? =some (.int .i64 (v:Int)):=by
 unfold qe
 grind
theorem qgv(l:List Nat):∀u ∈qe l,u.oneCell'=true:=fun u hu=>by
 obtain⟨k,_,rfl⟩:=X9.mp hu;rfl
theorem qcn(l:List Nat)(k:Nat):qe (l.drop k)=(qe l).drop k:=List.map_drop ..
theorem U7(l m:List Nat):qe (l++m)=qe l++qe m:=Wc ..
def CopyN(L:List Nat)(w:World)(e:Ending)(w':World):Prop:=∃gi ci,e= .returned (.slice (some ⟨gi,0,none⟩) L.length ci)/\w.heap.size<=gi/\w'.ownsRow w.heap.size 3 1 (.slice (some ⟨gi,0,none⟩) L.length ci) L.length (qe L)/\Below w.heap.size w w'
theorem q6c(L:List Nat)(ad:Addr)(c B:Nat)(w:World)(h:zw w B (some ad) (qe L))(hB:B<=w.heap.size)(h0:0<L.length)(hl:L.length<=1048576):
  Calls Tryz.prog 201 #[.slice (some ad) L.length c] w (CopyN L w):=by
 have hq:=fun w=>Lib.run_eql_slice_nil (P:=Tryz.prog) w 27 3 (some ad) L.length c 0 0 Tryz.underlying27;obtain⟨ti,hti,ht0,ht1,ht2⟩:=info_parts ZL;have bn:Hid (Below w.heap.size w (w.alloc (.cells #[] 3))):=zH (zk);have HT:=zH (h.below_to bn.out hB);clear h;go_enter Tryz.func201,Tryz.ntmps201;go_wp2_with(at_builtin;go_loud (refine Zv rfl _ _ 27 rfl w.heap.size 3 ti (.int .i64 0) 1 8 Tryz.underlying27 hti ht0 ht1 ht2 rfl (by decide) _ 0 [] rfl (bJ w 3 1) (some ad) L.length c _ (qe L) (by rw[ED];omega) rfl HT.out (qgv _) (by unfold maxLen;omega) (by omega) (by simp) ?_);intro v6 w6 hown hgrow;have HX6:=zH (jx bn.out (bJ w 3 1) (by simp) hgrow);have HO6:Hid (w6.ownsRow w.heap.size 3 1 v6 L.length (qe L)):=(by grind [zH]);clear hown hgrow)
 go_ret;obtain⟨A,ca,rfl,_⟩:=Ac HO6.out;obtain⟨gi,rfl,_,_,_,hb⟩:=pR HO6.out h0;exact⟨gi,ca,rfl,hb,HO6.out,HX6.out⟩
theorem qb2(L:List Nat)(B gi ci:Nat)(w:World)(h:w.ownsRow B 3 1 (.slice (some ⟨gi,0,none⟩) L.length ci) L.length (qe L))(hl:L.length<=1048576):
  Calls Tryz.prog 186 #[.slice (some ⟨gi,0,none⟩) L.length ci] w fun e w'=>e= .returned (.tuple #[])/\w'.ownsRow B 3 1 (.slice (some ⟨gi,0,none⟩) L.length ci) L.length (qe (L.mergeSort fun x y=>decide (x<=y)))/\w.grownBy w' (some gi):=by
 rcases h.2 with⟨hv,_⟩|⟨g',cap,cur,hv,hbase,hb,h1,h2,h3,h4⟩
 ·cases hv
 injection hv with e1 e2 e3;injection e1 with e1;injection e1 with e1;subst e1 e3;have hz:(L.map (fun k:Nat=>(k:Int))).map (Value.int .i64)=qe L:=by rw[List.map_map];rfl
 have hH:Holds (Value.int .i64) w gi 0 (L.map (fun k:Nat=>(k:Int))).toArray:=(by grind [holds_of_blockI,Xm])
 have hgl:gi<w.heap.size:=lt_of_block hb;have hc:=Any.slices_Sort_int Kn gi 0 ci (L.map (fun k:Nat=>(k:Int))) w hH hgl (by rw[Xm];omega);rw[Xm]at hc;have hs:(L.map (fun k:Nat=>(k:Int))).mergeSort (fun x y=>decide (x<=y))=(L.mergeSort fun x y=>decide (x<=y)).map (fun k:Nat=>(k:Int)):=
  (by grind [List.map_mergeSort])
 rw[hs]at hc;refine hc.mono ?_;rintro e w' ⟨rfl,nn,os,rfl⟩;refine⟨rfl,?_,grownBy_sortedI _⟩;have hsl:((L.mergeSort fun x y=>decide (x<=y)).map (fun k:Nat=>(k:Int))).length=(L.map (fun k:Nat=>(k:Int))).length:=by simp
 have q:=ownsRow_sortedI (n:=nn) (os:=os) (ss:=L.map (fun k:Nat=>(k:Int))) hsl hbase hb (by rw[Xm];exact h1) h2 h3;rw[Xm,List.map_map]at q;exact q
theorem qj4(L:List Nat):(L.mergeSort fun x y=>decide (x<=y)).Perm L/\(L.mergeSort fun x y=>decide (x<=y)).Pairwise (· <= ·):=
 (by grind [List.mergeSort_perm,List.pairwise_mergeSort])
section
variable{w w':World}{B g n:Nat}{EL:List (List Int)}{S:Wk}{a:fC}{ρ:Nat->Nat}
theorem Bn.all{r:Nat}(q:Bn w B g EL n S a ρ r)(hr:8<=r)(h1:EL.length=n)(h2:0<=n)(h3:n<=1048576)(h4:∀l ∈EL,l.length<=1048576):zJ w B g EL n S a ρ:=
 ⟨q.low,q.size,h1,h2,h3,q.edges,h4,q.blk (by omega),q.pl (by omega),q.bk (by omega),q.gn (by omega),q.way (by omega),q.opn (by omega),q.prt (by omega),q.pin (by omega),q.r0,q.r1,q.r2,q.r3,q.r4 (by omega),q.r5 (by omega),q.r6 (by omega)⟩
theorem zJ.fresh(h:zJ w B g EL n S a ρ)(hb:Below w.heap.size w w'){gi:Nat}(hg:w.heap.size<=gi):zJ w' B g EL n S a (qn ρ gi 8):=
 (h.moveU (r:=8) (N:=gi) (qA.below hb) (.inr hg) (by decide) (by decide)).all (zn _) h.len h.n0 h.n1 h.el
theorem zJ.sorted(h:zJ w B g EL n S a ρ){gi:Nat}(hr:ρ gi=8)(hg:w.grownBy w' (some gi)):zJ w' B g EL n S a ρ:=
 (h.moveS (r:=8) (by grind [qA.grown]) (by decide)).all (zn _) h.len h.n0 h.n1 h.el
theorem zJ.settled(h:zJ w B g EL n S a ρ){gi:Nat}(hr:ρ gi=8):zJ w B g EL n S a (qn ρ gi 7):=by
 have hu:∀b,b<w.heap.size->ρ b≠8->qn ρ gi 7 b=ρ b:=(by grind [YU])
 obtain⟨h0,h1,h2,h3⟩:=h.roles;exact(h.move (r:=8) (ρ':=qn ρ gi 7) qA.refl hu (by decide) (by rw[hu g h0 (by rw[h.r0];decide)];exact h.r0) (by rw[hu _ h1 (by rw[h.r1];decide)];exact h.r1) (by rw[hu _ h2 (by rw[h.r2];decide)];exact h.r2) (by rw[hu _ h3 (by rw[h.r3];decide)];exact h.r3)).all (zn _) h.len h.n0 h.n1 h.el
theorem zJ.opn_cut(h:zJ w B g EL n S a ρ){O X:List Nat}(e:S.opn=O++X):zJ (w.setCell ⟨g,6,none⟩ (.slice a.Ao O.length a.co)) B g EL n {S with opn:=O} a ρ:=by
 have ho:w.ownsRow B 3 1 (.slice a.Ao O.length a.co) O.length (qe O):=by
  have h1:=h.opn
  grind [U7,Xh,U5,ED]
 have hr:∀b,(Value.slice a.Ao O.length a.co).ownBlock=some b->ρ b=5:=fun b hb=>h.r5 b (by rw[<-hb];cases a.Ao<;>rfl);have p:=h.moveS (r:=0) (qA.cell (a:=⟨g,6,none⟩) h.r0 (.slice a.Ao O.length a.co)) (by decide);exact⟨p.low,p.size,h.len,h.n0,h.n1,p.edges,h.el,by have:=zm.set h.blk 6 (.slice a.Ao O.length a.co);exact this,p.pl (by decide),p.bk (by decide),p.gn (by decide),p.way (by decide),JK ho (qA.cell (ρ:=ρ) (a:=⟨g,6,none⟩) h.r0 _) (by grind),p.prt (by decide),p.pin (by decide),p.r0,p.r1,p.r2,p.r3,p.r4 (by decide),hr,p.r6 (by decide)⟩
theorem zJ.way_cut(h:zJ w B g EL n S a ρ){O X:List Nat}(e:S.way=O++X):zJ (w.setCell ⟨g,5,none⟩ (.slice a.Ay O.length a.cy)) B g EL n {S with way:=O} a ρ:=by
 have ho:w.ownsRow B 3 1 (.slice a.Ay O.length a.cy) O.length (qe O):=by
  have h1:=h.way
  grind [U7,Xh,U5,ED]
 have hr:∀b,(Value.slice a.Ay O.length a.cy).ownBlock=some b->ρ b=4:=fun b hb=>h.r4 b (by rw[<-hb];cases a.Ay<;>rfl);have p:=h.moveS (r:=0) (qA.cell (a:=⟨g,5,none⟩) h.r0 (.slice a.Ay O.length a.cy)) (by decide);exact⟨p.low,p.size,h.len,h.n0,h.n1,p.edges,h.el,by have:=zm.set h.blk 5 (.slice a.Ay O.length a.cy);exact this,p.pl (by decide),p.bk (by decide),p.gn (by decide),JK ho (qA.cell (ρ:=ρ) (a:=⟨g,5,none⟩) h.r0 _) (by grind),p.opn (by decide),p.prt (by decide),p.pin (by decide),p.r0,p.r1,p.r2,p.r3,hr,p.r5 (by decide),p.r6 (by decide)⟩
end
theorem qbd{L:List Nat}{ad:Addr}{c B:Nat}{w:World}{k:Nat}(h:Hid (zw w B (some ad) (qe L)))(hB:Hid (B<=w.heap.size))(h0:Hid (0<L.length))(hl:Hid (L.length<=1048576))(hk:Hid (L.length=k)):
  Calls Tryz.prog 201 #[.slice (some ad) k c] w fun e w'=>∃gi ci,e= .returned (.slice (some ⟨gi,0,none⟩) k ci)/\w.heap.size<=gi/\w'.ownsRow w.heap.size 3 1 (.slice (some ⟨gi,0,none⟩) k ci) k (qe L)/\Below w.heap.size w w':=by
 obtain rfl:=hk.out;exact q6c L ad c B w h.out hB.out h0.out hl.out
theorem q87:(Tryz.prog.info? 27).map (fun i=>(i.zero,i.size,i.bytes))=some (some (.slice none 0 0),1,24):=by kernel_rfl
def qir(B g:Nat)(EL:List (List Int))(n:Nat)(S:Wk)(O X:List Nat)(w:World)(e:Ending)(w':World):Prop:=
 e= .returned (.tuple #[])/\(∃c a' ρ',c.Perm X/\c.Pairwise (· <= ·)/\zJ w' B g EL n {S with opn:=O,back:=fun x=>if x ∈X then kX else S.back x,parts:=S.parts++[c]} a' ρ')/\Below B w w'
theorem qav{L:List Nat}{t:Nat}(ht:t<L.length)(f:Nat->Int):qn (fun x=>if x ∈L.take t then kX else f x) L[t] kX=fun x=>if x ∈L.take (t+1)then kX else f x:=funext fun x=>by
 have e1:L.take (t+1)=L.take t++[L[t]]:=by simp_all
 rw[e1];unfold qn
 grind
set_option maxHeartbeats 3200000 in
theorem q6b(B g n v:Nat)(EL:List (List Int))(S:Wk)(O X:List Nat)(a:fC)(ρ:Nat->Nat)(w:World)(h:zJ w B g EL n S a ρ)(ho:S.opn=O++v::X)(hX:v ∉X)(hlt:∀x ∈v::X,x<n)(hol:S.opn.length<=n)(hpl:S.parts.length<=n):
  Calls Tryz.prog 187 #[.pointer (some ⟨g,0,none⟩),.int .i64 (v:Int)] w (qir B g EL n S O (v::X) w):=by
 obtain⟨met,place,back,gone,way,opn,parts⟩:=S;obtain⟨gp,gb,gg,E,ce,Ay,cy,Ao,co,Ap,cp,vs⟩:=a;dsimp only at ho hol hpl;subst ho;have hn1:=h.n1;have hge:=h.g_ge;obtain⟨hg0,hg1,hg2,hg3⟩:=hge;have Mk:w.ownsRow B 3 1 (.slice Ao (O++v::X).length co) (O++v::X).length (qe (O++v::X)):=h.opn;have hlen:(O++v::X).length=O.length+X.length+1:=by simp;omega
 obtain⟨go,rfl,hc1,hc2,hgo,_⟩:=pR Mk (by omega);have HI:=zH h;have OC:=zH Mk;have q6:=h.blk.cells 6 _ rfl;dsimp only at q6 hg1 hg2 hg3;rw[hlen]at q6 hol hc1;have kL:=zH hlen;obtain⟨k,hk⟩:=zj (O.length);obtain⟨j,hj⟩:=zj (X.length);rw[hk,hj]at q6 hol hc1;have HK:=zH hk;have HJ:=zH hj;have JF:=zH hlt;have HXN:=zH hX;clear h Mk hlen hk hj hX hlt;go_enter Tryz.func187,Tryz.ntmps187;go_wp2_with fail
 go_loopw [4] (fun i wr=>∃t:Nat,t<=j/\i= .int .i64 ((k+t:Nat):Int)/\wr=w) (fun i _=>(intOf i).toNat)
 case atStart=>grind
 case round=>
  obtain⟨t,ht,rfl,hww⟩:=hrel;obtain⟨m,hm⟩:=zj (k+t);rw[hm];cases t with
  |succ s=>
   have hs:s<X.length:=by rw[HJ.out];omega
   obtain⟨y,hy⟩:=zj (X[s]);have hc:=pU OC.out (mE (l:=O++v::X) (j:=m) (v:=y) (by rw[XN (by rw[HK.out];omega),HK.out,show m - k=s+1 by omega,List.getElem?_cons_succ,Xc hs,hy]));have hne:y≠v:=fun e=>HXN.out (by grind);have hne2:((y:Int) !=(v:Int))=true:=by simp;omega
   clear hy hne;go_wp2_with fail
   go_roundw;case rel=>exact⟨s,by omega,by go_num,by grind⟩
   case measure=>simp[intOf];omega
  |zero=>
   obtain rfl:k=m:=by omega
   have hc:=pU OC.out (mE (l:=O++v::X) (j:=k) (v:=v) (by rw[XN (by rw[HK.out];exact zn _),HK.out,Nat.sub_self];rfl));have HT:Hid (zw w w.heap.size (some ⟨go,k,none⟩) (qe (v::X))):=zH (by
    have:=(zw.of_own OC.out).drop_ k;rw[<-qcn,<-HK.out,List.drop_left,HK.out]at this;have e:(⟨go,0,none⟩:Addr).add k=⟨go,k,none⟩:=by unfold Addr.add;split<;>simp_all
    rw[<-e];exact this)
   have kD:Hid ((v::X).length=k+j+1 - k):=zH (by simp[HJ.out];omega);have qN:Hid (0<(v::X).length):=zH (by simp);have kC:Hid ((v::X).length<=1048576):=zH (by rw[kD.out];omega);have HWZ:Hid (w.heap.size<=w.heap.size):=zH (zn _);have hck:¬co=k:=by omega
   clear hm ht;go_upto_region 4 with(go_at_call 201;go_loud (refine(qbd HT HWZ qN kC kD).mono ?_);rintro e w2 ⟨gi,ci,rfl,hgi,hown,hb⟩;have GI:=zH hgi;have qm:=zH hown;have HB2:=zH hb;clear hgi hown hb)
   have hj1:k+j+1 - k=j+1:=by omega
   rw[hj1]at qm;rw[hj1];have Yj:Hid ((v::X).length=j+1):=zH (by rw[kD.out,hj1]);have yE:=zH (HI.out.fresh HB2.out GI.out);have CW:=yE.out.blk.cells 6 _ rfl;have f6':=yE.out.blk.free 6;have lQ:=zH (yE.out.opn_cut (O:=O) (X:=v::X) rfl);dsimp only at CW lQ;rw[kL.out,HK.out,HJ.out]at CW;rw[HK.out]at lQ;have X3:=zH (yE.out.cell_below (HB2.out.mono HI.out.size) 6 (.slice (some ⟨go,0,none⟩) k co));have Gt:Hid (qn ρ gi 8 gi=8):=zH (Jn _ _ _);have qa:=zH (JK qm.out (qA.cell (ρ:=qn ρ gi 8) (a:=⟨g,6,none⟩) yE.out.r0 (.slice (some ⟨go,0,none⟩) k co)) (fun b hb=>by
    have e:gi=b:=by simpa[Value.ownBlock]using hb
    subst e;rw[Gt.out];decide))
   clear hc HT kD qN kC hck q6;go_upto_region 5 with fail
   clear CW f6' yE HB2 qm;generalize w2.setCell ⟨g,6,none⟩ (.slice (some ⟨go,0,none⟩) k co)=w3 at*
   generalize qn ρ gi 8=ρ2 at*
   obtain⟨L,hL⟩:=zj (v::X);rw[hL]at JF qa Yj⊢
   have HXL:=zH hL;clear hL;go_wp2_with fail
   go_loopw [43] (fun i wi=>∃t:Nat,t<=j+1/\i= .int .i64 t/\Hid (zJ wi B g EL n ⟨met,place,fun x=>if x ∈L.take t then kX else back x,gone,way,O,parts⟩ ⟨gp,gb,gg,E,ce,Ay,cy,some ⟨go,0,none⟩,co,Ap,cp,vs⟩ ρ2)/\Hid (wi.ownsRow w.heap.size 3 1 (.slice (some ⟨gi,0,none⟩) (j+1) ci) (j+1) (qe L))/\Hid (Below B w wi)) (fun i _=>j+1 - (intOf i).toNat)
   case atStart=>exact⟨0,Xn _,rfl,lQ,qa,X3⟩
   case round=>
    clear lQ qa X3;obtain⟨t,ht,rfl,HW,HO,HX⟩:=hrel;by_cases htj:t<j+1
    ·have htl:t<L.length:=by rw[Yj.out];exact htj
     have HTB:=zH (qav htl back);have hx:=JF.out _ (Xd htl);have hc:=pU HO.out (mE (l:=L) (j:=t) (v:=L[t]) (Xc htl));generalize L[t]=x at*
     have q3:=HW.out.blk.cells 3 _ rfl;obtain⟨c3,f3⟩:=HW.out.b_at hx;have H4:=zH (HW.out.back (v:=x) (k:=kX));dsimp only at q3 c3 f3 H4;rw[HTB.out]at H4;have HO4:=zH (JK HO.out (qA.cell (ρ:=ρ2) (a:=⟨gb,x,none⟩) HW.out.r2 (.int .i64 kX)) (fun b hb=>by
      have e:gi=b:=by simpa[Value.ownBlock]using hb
      subst e;rw[Gt.out];decide))
     have X4:=zH (HX.out.setCell (p:=⟨gb,x,none⟩) hg2 (.int .i64 kX));clear htl;go_wp2_with fail
     go_roundw;case rel=>exact⟨t+1,by omega,by go_num,H4,HO4,X4⟩
     case measure=>simp[intOf];omega
    ·obtain rfl:t=j+1:=by omega
     rw[<-Yj.out,XL]at HW;have hsort:=qb2 L w.heap.size gi ci wr (by rw[Yj.out];exact HO.out) (by rw[Yj.out];omega);rw[Yj.out]at hsort;have HS:=zH hsort;clear hsort htj;obtain⟨C,hC⟩:=zj ((L.mergeSort fun x y=>decide (x<=y)));have hok:=qj4 L;rw[hC]at hok HS;have HP:=zH hok.1;have Ol:=zH hok.2;have Qe:Hid (C.length=j+1):=zH (by rw[hok.1.length_eq,Yj.out]);clear hok hC;have q31:B<=gi:=Xe HI.out.size GI.out;go_upto_region 11 with(go_at_call 186;go_loud (refine HS.out.mono ?_);rintro e w5 ⟨rfl,hown,hg⟩;have qM:=zH ((HW.out.sorted Gt.out hg).settled Gt.out);have Vk:=zH hown;have X5:=zH (HX.out.grown hg HW.out.size (fun b e=>by injection e with e;subst e;exact q31));clear hown hg)
     have Gy:Hid (mP w5 B (qn ρ2 gi 7) (.slice (some ⟨gi,0,none⟩) (j+1) ci) C):=zH (by
      obtain⟨g',c',rest,e1,_,lD⟩:=TC Vk.out (Nat.succ_pos _);injection e1 with e1 e2 e3;injection e1 with e1;injection e1 with e1;subst e1;obtain⟨_,_,hl1,hl2,_,_⟩:=pR Vk.out (Nat.succ_pos _);exact⟨gi,ci,rest,by rw[Qe.out],q31,Jn _ _ _,by rw[Qe.out];exact hl1,hl2,lD⟩)
     clear HW HO HX HS Vk;have q7:=qM.out.blk.cells 7 _ rfl;dsimp only at q7;have HY:Hid (w5.ownsRow B 27 1 (.slice Ap parts.length cp) parts.length vs):=zH qM.out.prt;have hz5:=qM.out.size;obtain⟨i1,hi1,hy0,hy1,hy2⟩:=info_parts q87;go_wp2_with(at_builtin;go_loud (refine wpList_append_lies _ rfl _ _ 53 rfl B 27 i1 (.slice none 0 0) 1 24 Tryz.underlying53 hi1 hy0 hy1 hy2 rfl (by decide) _ _ _ rfl (HY.out.alloc _) ⟨_,0,none⟩ 1 1 [.slice (some ⟨gi,0,none⟩) (j+1) ci] rfl rfl (LX _ _ _) (bL rfl) (by decide) (by unfold maxLen;omega) (by omega) (by simp;omega) _ rfl ?_);intro g9 c9 w9 hown hgrow hor hlt9;have VV:=Jc qM.out.blk (wE qM.out.r6 hgrow) (by rw[qM.out.r0];decide);have q7':=VV.cells 7 _ rfl;have f7':=VV.free 7;have HA:=zH (qM.out.prt_app Gy.out hown hgrow hor);clear hown hgrow hor hlt9 VV;dsimp only at q7')
     go_end0
     obtain rfl:=HXL.out;exact⟨rfl,⟨C,_,_,HP.out,Ol.out,HA.out.1⟩,X5.out.trans HA.out.2⟩
def jz(l y:List Int):Int×Int:=match l with
 | []=>(0,0)
 |x::r=>if qb y x then(3,x)else jz r y
def qu(sup:List Int)(k n k' n':Int):Int×Int:=
 if zB sup k n k' n' then(k',n')else if zB sup k' n' k n then(k,n)else if k=3/\k'=3 then jz ((zz sup n).drop 1) (zz sup n')else(0,0)
theorem bK{w w1:World}{o1 o2:Obj}{x y:Value}{T:TypeId}(hb:Below (((w.alloc o1).alloc o2).alloc (.cells #[x,y] T)).heap.size (((w.alloc o1).alloc o2).alloc (.cells #[x,y] T)) w1):
  w1.cell? ⟨w.heap.size+1+1,0,none⟩=some x/\w1.cell? ⟨w.heap.size+1+1,1,none⟩=some y/\w1.frozen? ⟨w.heap.size+1+1,0,none⟩=false/\w1.frozen? ⟨w.heap.size+1+1,1,none⟩=false:=by
 have hs:w.heap.size+1+1<(((w.alloc o1).alloc o2).alloc (.cells #[x,y] T)).heap.size:=by simp
 have e:((w.alloc o1).alloc o2).heap.size=w.heap.size+1+1:=by simp
 refine⟨(hb.cell hs).trans ?_,(hb.cell hs).trans ?_,(hb.frozen hs).trans ?_,(hb.frozen hs).trans ?_⟩
 ·rw[World.cell?_alloc_at _ _ _ _ e.symm];rfl
 ·rw[World.cell?_alloc_at _ _ _ _ e.symm];rfl
 ·exact World.frozen?_alloc_at _ _ _ _ e.symm
 ·exact World.frozen?_alloc_at _ _ _ _ e.symm
def Six(w:World)(N:Nat)(a b c d x y:Value):Prop:=
 w.cell? ⟨N,0,none⟩=some a/\w.cell? ⟨N,1,none⟩=some b/\w.cell? ⟨N+1,0,none⟩=some c/\w.cell? ⟨N+1,1,none⟩=some d/\
  w.cell? ⟨N+1+1,0,none⟩=some x/\w.cell? ⟨N+1+1,1,none⟩=some y/\w.frozen? ⟨N+1+1,0,none⟩=false/\w.frozen? ⟨N+1+1,1,none⟩=false
theorem Six.keep{w w':World}{N C:Nat}{a b c d x y:Value}(h:Six w N a b c d x y)(hb:Below C w w')(hC:N+1+1<C):Six w' N a b c d x y:=by
 obtain⟨h0,h1,h2,h3,h4,h5,h6,h7⟩:=h;exact⟨(hb.cell (show N<C by omega)).trans h0,(hb.cell (show N<C by omega)).trans h1,(hb.cell (show N+1<C by omega)).trans h2,(hb.cell (show N+1<C by omega)).trans h3,
  (hb.cell (show N+1+1<C by omega)).trans h4,(hb.cell (show N+1+1<C by omega)).trans h5,(hb.frozen (show N+1+1<C by omega)).trans h6,(hb.frozen (show N+1+1<C by omega)).trans h7⟩
theorem wm{w w1:World}{x y x' y':Value}{T:TypeId}{o:Obj}(hb:Below (((w.alloc (.cells #[x,y] T)).alloc (.cells #[x',y'] T)).alloc o).heap.size (((w.alloc (.cells #[x,y] T)).alloc (.cells #[x',y'] T)).alloc o) w1):
  w1.cell? ⟨w.heap.size,0,none⟩=some x/\w1.cell? ⟨w.heap.size,1,none⟩=some y/\w1.cell? ⟨w.heap.size+1,0,none⟩=some x'/\w1.cell? ⟨w.heap.size+1,1,none⟩=some y':=by
 have h0:w.heap.size<(((w.alloc (.cells #[x,y] T)).alloc (.cells #[x',y'] T)).alloc o).heap.size:=by simp;omega
 have h1:w.heap.size+1<(((w.alloc (.cells #[x,y] T)).alloc (.cells #[x',y'] T)).alloc o).heap.size:=by simp
 have e:(w.alloc (.cells #[x,y] T)).heap.size=w.heap.size+1:=by simp
 refine⟨(hb.cell h0).trans ?_,(hb.cell h0).trans ?_,(hb.cell h1).trans ?_,(hb.cell h1).trans ?_⟩
 ·rw[World.cell?_alloc_past _ _ _ (by simp;omega),World.cell?_alloc_past _ _ _ (by simp),World.cell?_alloc_at _ _ _ _ rfl];rfl
 ·rw[World.cell?_alloc_past _ _ _ (by simp;omega),World.cell?_alloc_past _ _ _ (by simp),World.cell?_alloc_at _ _ _ _ rfl];rfl
 ·rw[World.cell?_alloc_past _ _ _ (by simp),World.cell?_alloc_at _ _ _ _ e.symm];rfl
 ·rw[World.cell?_alloc_past _ _ _ (by simp),World.cell?_alloc_at _ _ _ _ e.symm];rfl
theorem Kr(sup:List Int)(k n k' n':Int)(A:Option Addr)(cap B:Nat)(w:World)(hl:sup.length<=1048576)(hB:B<=w.heap.size)(h:jh w B A sup)(hno:¬(k=3/\k'=3)\/zB sup k n k' n'=true\/zB sup k' n' k n=true):
  Calls Tryz.prog 93 #[.slice A sup.length cap,zF k n,zF k' n'] w fun e w'=>e= .returned (zF (qu sup k n k' n').1 (qu sup k n k' n').2)/\Below w.heap.size w w':=by
 have hW:Below w.heap.size w (((w.alloc (.cells #[.int .i64 k,.int .i64 n] 45)).alloc (.cells #[.int .i64 k',.int .i64 n'] 45)).alloc (.cells #[.int .i64 0,.int .i64 0] 45)):=
  ((zk (w:=w)).alloc (by simp) _).alloc (by simp;omega) _
 have HS:=zH (h.below_to hW hB);have HW:=zH hW;have HB:=zH hB;clear h hW hB;have J:=zH (show qu sup k n k' n'=if zB sup k n k' n' then(k',n')else if zB sup k' n' k n then(k,n)else if k=3/\k'=3 then jz ((zz sup n).drop 1) (zz sup n')else(0,0)from rfl);generalize qu sup k n k' n'=j at J⊢
 have hz1:w.heap.size<w.heap.size+1+1+1:=by omega
 have hz2:w.heap.size+1<w.heap.size+1+1+1:=by omega
 by_cases h1:zB sup k n k' n'=true
 ·have J2:=zH (show j=(k',n')by rw[J.out,Xb h1]);have H1:=zH h1;clear h1 J;go_enter Tryz.func93,Tryz.ntmps93;go_wp2_with(go_at_call 91;(with_reducible refine(gT sup _ _ _ _ A cap B _ hl (by have:=HB.out;simp;omega) HS.out).mono ?_);rintro e w1 ⟨he,hb⟩;rw[H1.out]at he;subst he;obtain⟨hc,hf⟩:=Yo hb;obtain⟨r0,r1,r2,r3⟩:=bK hb)
  rw[J2.out];refine Xk (v:=zF k' n') ?_ rfl ⟨rfl,?_⟩
  ·simp[results,Tryz.results93,go_sem,r0,r1]
  ·exact HW.out.trans (((hb.mono (by simp;omega)).setCell (by simp;omega) _).setCell (by simp;omega) _)
 ·have F1:=zH (show zB sup k n k' n'=false by simpa using h1);have H1:=F1;clear h1;by_cases h2:zB sup k' n' k n=true
  ·have J2:=zH (show j=(k,n)by rw[J.out,F1.out,h2];rfl);have H2:=zH h2;clear h2 J;go_enter Tryz.func93,Tryz.ntmps93;go_wp2_with(first|(go_at_call 91;(with_reducible refine(gT sup _ _ _ _ A cap B _ hl (by have:=HB.out;simp;omega) HS.out).mono ?_);rintro e w1 ⟨he,hb⟩;rw[H1.out]at he;subst he;obtain⟨hc,hf⟩:=Yo hb;obtain⟨r0,r1,r2,r3⟩:=bK hb;obtain⟨q0,q1,q2,q3⟩:=wm hb;have qZ:=zH (HS.out.below_to hb (by have:=HB.out;simp;omega));have HZ:=zH hb.size)|(go_at_call 91;(with_reducible refine(gT sup _ _ _ _ A cap B _ hl (by have:=HB.out;have:=HZ.out;simp at this;omega) qZ.out).mono ?_);rintro e w2 ⟨he,hb2⟩;rw[H2.out]at he;subst he;have hbb:=zH (hb.trans (hb2.mono hb.size));clear hc hf r0 r1 r2 r3 q0 q1 q2 q3;obtain⟨hc,hf⟩:=Yo hbb.out;obtain⟨r0,r1,r2,r3⟩:=bK hbb.out;obtain⟨q0,q1,q2,q3⟩:=wm hbb.out;have HS2:=zH (HS.out.below_to hbb.out (by have:=HB.out;simp;omega));have HZ2:=zH hbb.out.size))
   rw[J2.out];refine Xk (v:=zF k n) ?_ rfl ⟨rfl,?_⟩
   ·simp[results,Tryz.results93,go_sem,r0,r1]
   ·exact HW.out.trans (((hbb.out.mono (by simp;omega)).setCell (by simp;omega) _).setCell (by simp;omega) _)
  ·have H2:=zH (show zB sup k' n' k n=false by simpa using h2);clear h2;by_cases h3:k=3/\k'=3
   ·rcases hno with g|g|g
    ·exact absurd h3 g
    ·rw[H1.out]at g;cases g
    ·rw[H2.out]at g;cases g
   ·have J2:=zH (show j=(0,0)by rw[J.out,H1.out,H2.out,Xa h3];rfl);have h3':¬k=3\/(k=3/\¬k'=3):=by omega
    clear h3 J;rcases h3' with h3|⟨rfl,h3⟩
    all_goals
     go_enter Tryz.func93,Tryz.ntmps93;go_wp2_with(first|(go_at_call 91;(with_reducible refine(gT sup _ _ _ _ A cap B _ hl (by have:=HB.out;simp;omega) HS.out).mono ?_);rintro e w1 ⟨he,hb⟩;rw[H1.out]at he;subst he;obtain⟨hc,hf⟩:=Yo hb;obtain⟨r0,r1,r2,r3⟩:=bK hb;obtain⟨q0,q1,q2,q3⟩:=wm hb;have qZ:=zH (HS.out.below_to hb (by have:=HB.out;simp;omega));have HZ:=zH hb.size)|(go_at_call 91;(with_reducible refine(gT sup _ _ _ _ A cap B _ hl (by have:=HB.out;have:=HZ.out;simp at this;omega) qZ.out).mono ?_);rintro e w2 ⟨he,hb2⟩;rw[H2.out]at he;subst he;have hbb:=zH (hb.trans (hb2.mono hb.size));clear hc hf r0 r1 r2 r3 q0 q1 q2 q3;obtain⟨hc,hf⟩:=Yo hbb.out;obtain⟨r0,r1,r2,r3⟩:=bK hbb.out;obtain⟨q0,q1,q2,q3⟩:=wm hbb.out;have HS2:=zH (HS.out.below_to hbb.out (by have:=HB.out;simp;omega));have HZ2:=zH hbb.out.size))
     rw[J2.out];refine Xk (v:=zF 0 0) ?_ rfl ⟨rfl,?_⟩
     ·simp[results,Tryz.results93,go_sem,r0,r1]
     ·exact HW.out.trans (((hbb.out.mono (by simp;omega)).setCell (by simp;omega) _).setCell (by simp;omega) _)
set_option maxHeartbeats 800000 in
theorem qg7(sup:List Int)(n n':Int)(A:Option Addr)(cap B:Nat)(w:World)(hl:sup.length<=1048576)(hB:B<=w.heap.size)(h:jh w B A sup)
  (h1:zB sup 3 n 3 n'=false) (h2:zB sup 3 n' 3 n=false):
  Calls Tryz.prog 93 #[.slice A sup.length cap,zF 3 n,zF 3 n'] w fun e w'=>e= .returned (zF (jz ((zz sup n).drop 1) (zz sup n')).1 (jz ((zz sup n).drop 1) (zz sup n')).2)/\Below w.heap.size w w':=by
 have hW:Below w.heap.size w (((w.alloc (.cells #[.int .i64 3,.int .i64 n] 45)).alloc (.cells #[.int .i64 3,.int .i64 n'] 45)).alloc (.cells #[.int .i64 0,.int .i64 0] 45)):=
  ((zk (w:=w)).alloc (by simp) _).alloc (by simp;omega) _
 have HS:=zH (h.below_to hW hB);have HW:=zH hW;have HB:=zH hB;clear h hW hB;have H1:=zH h1;have H2:=zH h2;clear h1 h2;generalize hj:jz ((zz sup n).drop 1) (zz sup n')=j;have J2:=zH hj.symm;clear hj;go_enter Tryz.func93,Tryz.ntmps93;go_wp2_with(first|(go_at_call 91;(with_reducible refine(gT sup _ _ _ _ A cap B _ hl (by have:=HB.out;simp;omega) HS.out).mono ?_);rintro e w1 ⟨he,hb⟩;rw[H1.out]at he;subst he;obtain⟨hc,hf⟩:=Yo hb;obtain⟨r0,r1,r2,r3⟩:=bK hb;obtain⟨q0,q1,q2,q3⟩:=wm hb;have qZ:=zH (HS.out.below_to hb (by have:=HB.out;simp;omega));have HZ:=zH hb.size)|(go_at_call 91;(with_reducible refine(gT sup _ _ _ _ A cap B _ hl (by have:=HB.out;have:=HZ.out;simp at this;omega) qZ.out).mono ?_);rintro e w2 ⟨he,hb2⟩;rw[H2.out]at he;subst he;have hbb:=zH (hb.trans (hb2.mono hb.size));clear hc hf r0 r1 r2 r3 q0 q1 q2 q3;obtain⟨hc,hf⟩:=Yo hbb.out;obtain⟨r0,r1,r2,r3⟩:=bK hbb.out;obtain⟨q0,q1,q2,q3⟩:=wm hbb.out;have HS2:=zH (HS.out.below_to hbb.out (by have:=HB.out;simp;omega));have HZ2:=zH hbb.out.size))
 have y2:w.heap.size+1+1<w2.heap.size:=by have:=HZ2.out;simp at this;omega
 have yB:B<=w2.heap.size:=by have:=HB.out;omega
 have X2:Six w2 w.heap.size (.int .i64 3) (.int .i64 n) (.int .i64 3) (.int .i64 n') (.int .i64 0) (.int .i64 0):=⟨q0,q1,q2,q3,r0,r1,r2,r3⟩
 have X2d:Six w2.drew w.heap.size (.int .i64 3) (.int .i64 n) (.int .i64 3) (.int .i64 n') (.int .i64 0) (.int .i64 0):=X2;have NC:B<=w2.drew.heap.size:=yB;have ND:w.heap.size+1+1<w2.drew.heap.size:=y2;have q1l:Hid (jh w2.drew B A sup):=HS2;have XB:=zH X2d;clear hc hf hb hb2 X2 X2d;have Ou:=zH (pz sup n);have hLB:=zH (pz sup n');go_region_held3 (fun w'=>w'.cell? ⟨w.heap.size,0,none⟩=some (.int .i64 3)/\w'.cell? ⟨w.heap.size,1,none⟩=some (.int .i64 n)/\w'.cell? ⟨w.heap.size+1,0,none⟩=some (.int .i64 3)/\w'.cell? ⟨w.heap.size+1,1,none⟩=some (.int .i64 n'))
  (first|go_keep|exact⟨c0,c1,c2,c3⟩|exact⟨d0,d1,d2,d3⟩)
  (first
   |(go_at_call 65;(with_reducible refine(DI sup n A cap B _ hl NC q1l.out).mono ?_);rintro e w3 ⟨v,rfl,ho3,hb3⟩;obtain⟨A3,c3',rfl,hl3⟩:=Ac ho3;have QH:=zH hl3;clear hl3;have X3:=XB.out.keep hb3 ND;obtain⟨c0,c1,c2,c3,_⟩:=X3;have XC:=zH (XB.out.keep hb3 ND);have jM:=zH (q1l.out.below_to hb3 NC);have y3:w2.drew.heap.size<=w3.heap.size:=hb3.size)
   |(go_at_call 65;(with_reducible refine(DI sup n' A cap B _ hl (Xe NC y3) jM.out).mono ?_);rintro e w4 ⟨v,rfl,ho4,hb4⟩;obtain⟨A4,c4',rfl,hl4⟩:=Ac ho4;have JE:=zH hl4;clear hl4;have X4:=XC.out.keep hb4 (Xp ND y3);obtain⟨d0,d1,d2,d3,d4,d5,d6,d7⟩:=X4;have qmm:=zH (QH.out.below hb4);have jw:=zH (hb3.trans (hb4.mono y3))))
 go_wp2_with fail
 have HF:=zH (hbb.out.drew.trans (jw.out.mono HZ2.out));clear d0 d1 d2 d3 c0 c1 c2 c3;generalize hX:zz sup n=X at*
 generalize hY:zz sup n'=Y at*
 clear hX hY;go_loop [9] (fun i=>∃k:Nat,1<=k/\(k:Int)<=1048577/\i= .int .i64 k/\jz (X.drop 1) Y=jz (X.drop k) Y) (fun i=>X.length - (intOf i).toNat)
 case atStart=>exact⟨1,by omega,by omega,rfl,rfl⟩
 case round=>
  obtain⟨k,hk,hk2,rfl,hn⟩:=hrel;have HN:=zH hn;clear hn;by_cases hlt:k<X.length
  ·obtain⟨ad,rfl,_,hcell⟩:=qmm.out.at_ (k:=k) (by simpa using hlt);have E1:=zH (Wq hlt);simp only[List.getElem_map]at hcell;generalize X[k]=x at*
   by_cases hin:qb Y x=true
   ·have R:=zH (show jz (X.drop 1) Y=(3,x)by rw[HN.out,E1.out];simp only[jz];rw[Xb hin]);have HI:=zH hin;clear HN E1 hin;go_wp2_with(go_at_call 43;(with_reducible refine(gY Y x _ _ _ _ (by have:=hLB.out;omega) JE.out).mono ?_);rintro e w5 ⟨he,rfl⟩;rw[HI.out]at he;subst he)
    rw[J2.out,R.out];refine Xk (v:=zF 3 x) ?_ rfl ⟨rfl,?_⟩
    ·simp[results,Tryz.results93,go_sem,d4,d5]
    ·exact HW.out.trans (((HF.out.mono (by simp;omega)).setCell (by simp;omega) _).setCell (by simp;omega) _)
   ·have R:=zH (show jz (X.drop 1) Y=jz (X.drop (k+1)) Y by rw[HN.out,E1.out];simp only[jz];rw[Xa hin]);have HI:=zH (show qb Y x=false by simpa using hin);clear HN E1 hin;go_wp2_with(go_at_call 43;(with_reducible refine(gY Y x _ _ _ _ (by have:=hLB.out;omega) JE.out).mono ?_);rintro e w5 ⟨he,rfl⟩;rw[HI.out]at he;subst he)
    go_round
    case rel=>exact⟨k+1,by omega,by have:=Ou.out;omega,by go_num,R.out⟩
    case measure=>simp[intOf];omega
  ·have R:=zH (show jz (X.drop 1) Y=(0,0)by rw[HN.out,Wm (by omega)];rfl);clear HN;go_wp2_with fail
   rw[J2.out,R.out];refine Xk (v:=zF 0 0) ?_ rfl ⟨rfl,?_⟩
   ·simp[results,Tryz.results93,go_sem,d4,d5]
   ·exact HW.out.trans (((HF.out.mono (by simp;omega)).setCell (by simp;omega) _).setCell (by simp;omega) _)
theorem qbu(sup:List Int)(k n k' n':Int)(A:Option Addr)(cap B:Nat)(w:World)(hl:sup.length<=1048576)(hB:B<=w.heap.size)(h:jh w B A sup):
  Calls Tryz.prog 93 #[.slice A sup.length cap,zF k n,zF k' n'] w fun e w'=>e= .returned (zF (qu sup k n k' n').1 (qu sup k n k' n').2)/\Below w.heap.size w w':=by
 by_cases h1:zB sup k n k' n'=true
 ·exact Kr sup k n k' n' A cap B w hl hB h (.inr (.inl h1))
 ·by_cases h2:zB sup k' n' k n=true
  ·exact Kr sup k n k' n' A cap B w hl hB h (.inr (.inr h2))
  ·by_cases h3:k=3/\k'=3
   ·obtain⟨rfl,rfl⟩:=h3;have e:qu sup 3 n 3 n'=jz ((zz sup n).drop 1) (zz sup n'):=by unfold qu;rw[Xa h1,Xa h2,Xb ⟨rfl,rfl⟩]
    rw[e];exact qg7 sup n n' A cap B w hl hB h (by simpa using h1) (by simpa using h2)
   ·exact Kr sup k n k' n' A cap B w hl hB h (.inl h3)
theorem PI(m:List Int):∀l:List Int,l.Pairwise (· > ·)->(jz l m=(0,0)/\∀x ∈l,x ∉m)\/∃x,jz l m=(3,x)/\x ∈l/\x ∈m/\∀y ∈l,y ∈m->y<=x
 | [],_=> .inl ⟨rfl,by simp⟩
 |x::r,h=>by
  obtain⟨h1,h2⟩:=List.pairwise_cons.mp h;by_cases hx:x ∈m
  ·refine .inr ⟨x,by simp only[jz];rw[Xb (eQ.mpr hx)],XV,hx,fun y hy _=> ?_⟩
   grind
  ·have e:jz (x::r) m=jz r m:=by simp only[jz];rw[Xa (fun g=>hx (eQ.mp g))]
   rw[e];rcases PI m r h2 with⟨h3,h4⟩|⟨z,h3,h4,h5,h6⟩
   all_goals grind
theorem Fb{sup:List Int}{n n':Int}(h1:n' ∉zz sup n)(h2:n ∉zz sup n'):
  (jz ((zz sup n).drop 1) (zz sup n')=(0,0)/\∀x ∈zz sup n,x ∉zz sup n')\/
  ∃x,jz ((zz sup n).drop 1) (zz sup n')=(3,x)/\x ∈zz sup n/\x ∈zz sup n'/\∀y ∈zz sup n,y ∈zz sup n'->y<=x:=by
 by_cases hv:0<=n/\n<sup.length
 ·obtain⟨s,hs⟩:=Ew hv.1 hv.2;have hd:=qa9 sup n;have e:=yR hv.1 hs
  grind [PI,XY]
 ·rw[lV (show n<0\/(sup.length:Int)<=n by omega)];exact .inl ⟨rfl,by simp⟩
theorem Dl{sup:List Int}{k n k' n':Int}(ha:Ba sup k n)(hb:Ba sup k' n'):
  ((qu sup k n k' n').1=0/\∀j m,zB sup k n j m=true->zB sup k' n' j m=true->False)\/
  (¬(qu sup k n k' n').1=0/\zB sup k n (qu sup k n k' n').1 (qu sup k n k' n').2=true/\zB sup k' n' (qu sup k n k' n').1 (qu sup k n k' n').2=true/\
   ∀j m,zB sup k n j m=true->zB sup k' n' j m=true->zB sup (qu sup k n k' n').1 (qu sup k n k' n').2 j m=true):=by
 by_cases h1:zB sup k n k' n'=true
 ·have e:qu sup k n k' n'=(k',n'):=by simp only[qu];grind
  grind [uQ,pF]
 ·by_cases h2:zB sup k' n' k n=true
  ·have e:qu sup k n k' n'=(k,n):=by simp only[qu];grind
   grind [uQ,pF]
  ·by_cases h3:k=3/\k'=3
   ·have e:qu sup k n k' n'=jz ((zz sup n).drop 1) (zz sup n'):=by simp only[qu];grind
    obtain⟨rfl,rfl⟩:=h3;have a1:n' ∉zz sup n:=(by grind [JN])
    have a2:n ∉zz sup n':=(by grind [JN])
    grind [Fb,JN,qa8]
   ·have e:qu sup k n k' n'=(0,0):=by simp only[qu];grind
    grind [JN]
def Bd(sup:List Int)(a b m:Int):Prop:=
 (m= -1/\∀x ∈zz sup a,x ∉zz sup b)\/(0<=m/\m ∈zz sup a/\m ∈zz sup b/\∀y ∈zz sup a,y ∈zz sup b->y<=m)
def wQ(sup:List Int)(a b c d:Int):Prop:=∀x,x ∈zz sup a/\x ∈zz sup b↔x ∈zz sup c/\x ∈zz sup d
theorem q5m{sup:List Int}{a b c d:Int}(h:wQ sup a b c d)(h0:0<=c)(h1:c<sup.length)(Gj:d<c):wQ sup a b (kv sup c) d:=fun x=>by
 rw[h x,Am h0 h1,XZ];constructor
 ·rintro⟨rfl|g,g2⟩
  ·have:=Jb g2;omega
  grind
 grind
theorem q49{sup:List Int}{a b c d:Int}(h:wQ sup a b c d)(h0:0<=d)(h1:d<sup.length)(Gj:c<d):wQ sup a b c (kv sup d):=fun x=>by
 rw[h x,Am h0 h1,XZ];constructor
 ·rintro⟨g2,rfl|g⟩
  ·have:=Jb g2;omega
  grind
 grind
theorem q5l{sup:List Int}{a b c:Int}(h:wQ sup a b c c)(h0: -1<=c)(h1:c<sup.length):Bd sup a b c:=by
 by_cases hc:0<=c
 ·have g:=(h c).mpr (by grind [yX]);exact .inr ⟨hc,g.1,g.2,fun y g1 g2=>(Jb ((h y).mp ⟨g1,g2⟩).1).2.1⟩
 ·exact .inl ⟨by omega,fun x g1 g2=>by have:=Jb ((h x).mp ⟨g1,g2⟩).1;omega⟩
theorem qcx(sup:List Int)(a b:Int)(A:Option Addr)(cap B:Nat)(w:World)(hl:sup.length<=1048576)(hB:B<=w.heap.size)(h:jh w B A sup):
  Calls Tryz.prog 182 #[.slice A sup.length cap,.int .i64 a,.int .i64 b] w fun e w'=>(∃m,e= .returned (.int .i64 m)/\Bd sup a b m)/\w=w':=by
 have HS:=zH h;clear h;by_cases ha:Yw sup a=true
 ·by_cases hb:Yw sup b=true
  ·obtain⟨a0,a1⟩:=DL ha;obtain⟨b0,b1⟩:=DL hb;have HA:=zH ha;have HB:=zH hb;clear ha hb;go_enter Tryz.func182,Tryz.ntmps182;go_wp2_with(first
    |(go_at_call 195;(with_reducible refine(dX sup a A cap w hl).mono ?_);rintro e w' ⟨he,rfl⟩;rw[HA.out]at he;subst he)
    |(go_at_call 195;(with_reducible refine(dX sup b A cap w hl).mono ?_);rintro e w' ⟨he,rfl⟩;rw[HB.out]at he;subst he))
   go_loop [1,2] (fun i j=>∃c d:Int,i= .int .i64 c/\j= .int .i64 d/\ -1<=c/\c<sup.length/\ -1<=d/\d<sup.length/\wQ sup a b c d) (fun i j=>(intOf i+1).toNat+(intOf j+1).toNat)
   case atStart=>exact⟨a,b,rfl,rfl,by omega,a1,by omega,b1,fun _=>Iff.rfl⟩
   case round=>
    obtain⟨c,d,rfl,rfl,c0,c1,d0,d1,hn⟩:=hrel;have HN:=zH hn;clear hn;have hs:=yM sup c;have ht:=yM sup d;by_cases hcd:c=d
    ·subst hcd;have R:=zH (q5l HN.out c0 c1);clear HN hs ht;go_wp2_with fail
     go_ret;exact⟨⟨_,rfl,R.out⟩,rfl⟩
    ·by_cases Gj:d<c
     ·have hc0:0<=c:=by omega
      have R:=zH (q5m HN.out hc0 c1 Gj);have h2:=hs.2 hc0;clear HN ht;go_wp2_with(go_at_call 196;(with_reducible refine(I9 sup c hc0 c1 A cap B w hl HS.out).mono ?_);rintro e w' ⟨rfl,rfl⟩)
      go_round
      case rel=>exact⟨kv sup c,d,rfl,rfl,hs.1,by omega,d0,d1,R.out⟩
      case measure=>simp[intOf];omega
     ·have hd0:0<=d:=by omega
      have R:=zH (q49 HN.out hd0 d1 (by omega));have h2:=ht.2 hd0;clear HN hs;go_wp2_with(go_at_call 196;(with_reducible refine(I9 sup d hd0 d1 A cap B w hl HS.out).mono ?_);rintro e w' ⟨rfl,rfl⟩)
      go_round
      case rel=>exact⟨c,kv sup d,rfl,rfl,c0,c1,ht.1,by omega,R.out⟩
      case measure=>simp[intOf];omega
  ·have HA:=zH ha;have HB:=zH (show Yw sup b=false by simpa using hb);have R:=zH (show Bd sup a b (-1)from .inl ⟨rfl,fun x g g2=>by have:=Jb g2;have:=Dw hb;omega⟩);clear ha hb;go_enter Tryz.func182,Tryz.ntmps182;go_wp2_with(first
    |(go_at_call 195;(with_reducible refine(dX sup a A cap w hl).mono ?_);rintro e w' ⟨he,rfl⟩;rw[HA.out]at he;subst he)
    |(go_at_call 195;(with_reducible refine(dX sup b A cap w hl).mono ?_);rintro e w' ⟨he,rfl⟩;rw[HB.out]at he;subst he))
   go_ret;exact⟨⟨_,rfl,R.out⟩,rfl⟩
 ·have HA:=zH (show Yw sup a=false by simpa using ha);have R:=zH (show Bd sup a b (-1)from .inl ⟨rfl,fun x g g2=>by have:=Jb g;have:=Dw ha;omega⟩);clear ha;go_enter Tryz.func182,Tryz.ntmps182;go_wp2_with(go_at_call 195;(with_reducible refine(dX sup a A cap w hl).mono ?_);rintro e w' ⟨he,rfl⟩;rw[HA.out]at he;subst he)
  go_ret;exact⟨⟨_,rfl,R.out⟩,rfl⟩
theorem KF(sup:List Int)(k n k' n':Int)(A:Option Addr)(cap B:Nat)(w:World)(hl:sup.length<=1048576)(hB:B<=w.heap.size)(h:jh w B A sup)(hno:¬(k=3/\k'=3)\/zB sup k n k' n'=true\/zB sup k' n' k n=true):
  Calls Tryz.prog 149 #[.slice A sup.length cap,zF k n,zF k' n'] w fun e w'=>e= .returned (zF (qu sup k n k' n').1 (qu sup k n k' n').2)/\Below w.heap.size w w':=by
 have hW:Below w.heap.size w (((w.alloc (.cells #[.int .i64 k,.int .i64 n] 45)).alloc (.cells #[.int .i64 k',.int .i64 n'] 45)).alloc (.cells #[.int .i64 0,.int .i64 0] 45)):=
  ((zk (w:=w)).alloc (by simp) _).alloc (by simp;omega) _
 have HS:=zH (h.below_to hW hB);have HW:=zH hW;have HB:=zH hB;clear h hW hB;have J:=zH (show qu sup k n k' n'=if zB sup k n k' n' then(k',n')else if zB sup k' n' k n then(k,n)else if k=3/\k'=3 then jz ((zz sup n).drop 1) (zz sup n')else(0,0)from rfl);generalize qu sup k n k' n'=j at J⊢
 have hz1:w.heap.size<w.heap.size+1+1+1:=by omega
 have hz2:w.heap.size+1<w.heap.size+1+1+1:=by omega
 by_cases h1:zB sup k n k' n'=true
 ·have J2:=zH (show j=(k',n')by rw[J.out,Xb h1]);have H1:=zH h1;clear h1 J;go_enter Tryz.func149,Tryz.ntmps149;go_wp2_with(go_at_call 148;(with_reducible refine(eG sup _ _ _ _ A cap B _ hl (by have:=HB.out;simp;omega) HS.out).mono ?_);rintro e w1 ⟨he,hb⟩;rw[H1.out]at he;subst he;obtain⟨hc,hf⟩:=Yo hb;obtain⟨r0,r1,r2,r3⟩:=bK hb)
  rw[J2.out];refine Xk (v:=zF k' n') ?_ rfl ⟨rfl,?_⟩
  ·simp[results,Tryz.results149,go_sem,r0,r1]
  ·exact HW.out.trans (((hb.mono (by simp;omega)).setCell (by simp;omega) _).setCell (by simp;omega) _)
 ·have F1:=zH (show zB sup k n k' n'=false by simpa using h1);have H1:=F1;clear h1;by_cases h2:zB sup k' n' k n=true
  ·have J2:=zH (show j=(k,n)by rw[J.out,F1.out,h2];rfl);have H2:=zH h2;clear h2 J;go_enter Tryz.func149,Tryz.ntmps149;go_wp2_with(first|(go_at_call 148;(with_reducible refine(eG sup _ _ _ _ A cap B _ hl (by have:=HB.out;simp;omega) HS.out).mono ?_);rintro e w1 ⟨he,hb⟩;rw[H1.out]at he;subst he;obtain⟨hc,hf⟩:=Yo hb;have qZ:=zH (HS.out.below_to hb (by have:=HB.out;simp;omega));have HZ:=zH hb.size)|(go_at_call 148;(with_reducible refine(eG sup _ _ _ _ A cap B _ hl (by have:=HB.out;have:=HZ.out;simp at this;omega) qZ.out).mono ?_);rintro e w2 ⟨he,hb2⟩;rw[H2.out]at he;subst he;have hbb:=zH (hb.trans (hb2.mono hb.size));clear hc hf;obtain⟨hc,hf⟩:=Yo hbb.out;obtain⟨r0,r1,r2,r3⟩:=bK hbb.out;have HZ2:=zH hbb.out.size))
   rw[J2.out];refine Xk (v:=zF k n) ?_ rfl ⟨rfl,?_⟩
   ·simp[results,Tryz.results149,go_sem,r0,r1]
   ·exact HW.out.trans (((hbb.out.mono (by simp;omega)).setCell (by simp;omega) _).setCell (by simp;omega) _)
  ·have H2:=zH (show zB sup k' n' k n=false by simpa using h2);clear h2;by_cases h3:k=3/\k'=3
   ·rcases hno with g|g|g
    ·exact absurd h3 g
    ·rw[H1.out]at g;cases g
    ·rw[H2.out]at g;cases g
   ·have J2:=zH (show j=(0,0)by rw[J.out,H1.out,H2.out,Xa h3];rfl);have h3':¬k=3\/(k=3/\¬k'=3):=by omega
    clear h3 J;rcases h3' with h3|⟨rfl,h3⟩
    all_goals
     go_enter Tryz.func149,Tryz.ntmps149;go_wp2_with(first|(go_at_call 148;(with_reducible refine(eG sup _ _ _ _ A cap B _ hl (by have:=HB.out;simp;omega) HS.out).mono ?_);rintro e w1 ⟨he,hb⟩;rw[H1.out]at he;subst he;obtain⟨hc,hf⟩:=Yo hb;have qZ:=zH (HS.out.below_to hb (by have:=HB.out;simp;omega));have HZ:=zH hb.size)|(go_at_call 148;(with_reducible refine(eG sup _ _ _ _ A cap B _ hl (by have:=HB.out;have:=HZ.out;simp at this;omega) qZ.out).mono ?_);rintro e w2 ⟨he,hb2⟩;rw[H2.out]at he;subst he;have hbb:=zH (hb.trans (hb2.mono hb.size));clear hc hf;obtain⟨hc,hf⟩:=Yo hbb.out;obtain⟨r0,r1,r2,r3⟩:=bK hbb.out;have HZ2:=zH hbb.out.size))
     rw[J2.out];refine Xk (v:=zF 0 0) ?_ rfl ⟨rfl,?_⟩
     ·simp[results,Tryz.results149,go_sem,r0,r1]
     ·exact HW.out.trans (((hbb.out.mono (by simp;omega)).setCell (by simp;omega) _).setCell (by simp;omega) _)
theorem qcq{sup:List Int}{n n' m:Int}(h1:zB sup 3 n 3 n'=false)(h2:zB sup 3 n' 3 n=false)(h:Bd sup n n' m):
  jz ((zz sup n).drop 1) (zz sup n')=if m= -1 then(0,0)else(3,m):=by
 have a1:n' ∉zz sup n:=(by grind [JN])
 have a2:n ∉zz sup n':=(by grind [JN])
 rcases h with⟨rfl,h⟩|⟨g0,g1,g2,g3⟩
 ·rw[Xb rfl]
  grind [Fb]
 ·rw[Xa (by omega)]
  grind [Fb]
theorem qh8(sup:List Int)(n n':Int)(A:Option Addr)(cap B:Nat)(w:World)(hl:sup.length<=1048576)(hB:B<=w.heap.size)(h:jh w B A sup)
  (h1:zB sup 3 n 3 n'=false) (h2:zB sup 3 n' 3 n=false):
  Calls Tryz.prog 149 #[.slice A sup.length cap,zF 3 n,zF 3 n'] w fun e w'=>e= .returned (zF (jz ((zz sup n).drop 1) (zz sup n')).1 (jz ((zz sup n).drop 1) (zz sup n')).2)/\Below w.heap.size w w':=by
 have hW:Below w.heap.size w (((w.alloc (.cells #[.int .i64 3,.int .i64 n] 45)).alloc (.cells #[.int .i64 3,.int .i64 n'] 45)).alloc (.cells #[.int .i64 0,.int .i64 0] 45)):=
  ((zk (w:=w)).alloc (by simp) _).alloc (by simp;omega) _
 have HS:=zH (h.below_to hW hB);have HW:=zH hW;have HB:=zH hB;clear h hW hB;have H1:=zH h1;have H2:=zH h2;clear h1 h2;have J:=zH (fun m=> @qcq sup n n' m H1.out H2.out);generalize jz ((zz sup n).drop 1) (zz sup n')=j at J⊢
 go_enter Tryz.func149,Tryz.ntmps149;go_wp2_with(first|(go_at_call 148;(with_reducible refine(eG sup _ _ _ _ A cap B _ hl (by have:=HB.out;simp;omega) HS.out).mono ?_);rintro e w1 ⟨he,hb⟩;rw[H1.out]at he;subst he;obtain⟨hc,hf⟩:=Yo hb;have qZ:=zH (HS.out.below_to hb (by have:=HB.out;simp;omega));have HZ:=zH hb.size)|(go_at_call 148;(with_reducible refine(eG sup _ _ _ _ A cap B _ hl (by have:=HB.out;have:=HZ.out;simp at this;omega) qZ.out).mono ?_);rintro e w2 ⟨he,hb2⟩;rw[H2.out]at he;subst he;have hbb:=zH (hb.trans (hb2.mono hb.size));clear hc hf;obtain⟨hc,hf⟩:=Yo hbb.out;obtain⟨r0,r1,r2,r3⟩:=bK hbb.out;have HS2:=zH (HS.out.below_to hbb.out (by have:=HB.out;simp;omega));have HZ2:=zH hbb.out.size)|(go_at_call 182;(with_reducible refine(qcx sup _ _ A cap B _ hl (by have:=HB.out;have:=HZ2.out;simp at this;omega) HS2.out).mono ?_);rintro e w3 ⟨⟨m,rfl,hm⟩,rfl⟩;have J2:=zH (J.out m hm);clear J;by_cases hm1:m= -1))
 ·have J3:=zH (show j=(0,0)by rw[J2.out,Xb hm1]);rw[J3.out];refine Xk (v:=zF 0 0) ?_ rfl ⟨rfl,?_⟩
  ·simp[results,Tryz.results149,go_sem,r0,r1]
  ·exact HW.out.trans (((hbb.out.mono (by simp;omega)).setCell (by simp;omega) _).setCell (by simp;omega) _)
 ·have J3:=zH (show j=(3,m)by rw[J2.out,Xa hm1]);rw[J3.out];refine Xk (v:=zF 3 m) ?_ rfl ⟨rfl,?_⟩
  ·simp[results,Tryz.results149,go_sem,r0,r1]
  ·exact HW.out.trans (((hbb.out.mono (by simp;omega)).setCell (by simp;omega) _).setCell (by simp;omega) _)
theorem qcy(sup:List Int)(k n k' n':Int)(A:Option Addr)(cap B:Nat)(w:World)(hl:sup.length<=1048576)(hB:B<=w.heap.size)(h:jh w B A sup):
  Calls Tryz.prog 149 #[.slice A sup.length cap,zF k n,zF k' n'] w fun e w'=>e= .returned (zF (qu sup k n k' n').1 (qu sup k n k' n').2)/\Below w.heap.size w w':=by
 by_cases h1:zB sup k n k' n'=true
 ·grind [KF]
 ·by_cases h2:zB sup k' n' k n=true
  ·grind [KF]
  ·by_cases h3:k=3/\k'=3
   ·obtain⟨rfl,rfl⟩:=h3;have e:qu sup 3 n 3 n'=jz ((zz sup n).drop 1) (zz sup n'):=by unfold qu;grind
    grind [qh8]
   grind [KF]
theorem q91(k n cap:Nat)(ad:Addr)(x y z:Int)(w:World)(hk:k<n)(hn:n<=9223372036854775807)(hab:ad.block<w.heap.size)
  (r0:w.cell? (ad.add (k*3))=some (.int .i64 x)) (r1:w.cell? (zc (ad.add (k*3)) 1)=some (.int .i64 y)) (r2:w.cell? (zc (ad.add (k*3)) 2)=some (.int .i64 z)):
  Calls Tryz.prog 139 #[.slice (some ad) n cap,.int .i64 k] w fun e w'=>e= .returned (.tuple #[qt x y z,.bool true])/\Below w.heap.size w w':=by
 have HW:=zH (zk (w:=w) (o:=(.cells #[.int .i64 0,.int .i64 0,.int .i64 0] 50)));have r0:=(HW.out.cell (p:=ad.add (k*3)) (by exact zZ hab)).trans r0;have r1:=(HW.out.cell (p:=zc (ad.add (k*3)) 1) (by show(ad.add _).block<_;rw[zC];exact hab)).trans r1;have r2:=(HW.out.cell (p:=zc (ad.add (k*3)) 2) (by show(ad.add _).block<_;rw[zC];exact hab)).trans r2;go_enter Tryz.func139,Tryz.ntmps139;go_wp2
 exact Xk (v:= .tuple #[qt x y z,.bool true]) (by simp[results,Tryz.results139,go_sem]) rfl ⟨rfl,zk⟩
theorem RX{P:Prop}(h:P:=by
 go_enter Tryz.func139,Tryz.ntmps139;go_wp2
 exact Xk (v:= .tuple #[qt 0 0 0,.bool false]) (by simp[results,Tryz.results139,go_sem]) rfl ⟨rfl,(zk).alloc (by simp) _⟩):P:=h
theorem Uk(k:Int)(n cap:Nat)(A:Option Addr)(w:World)(hn:n<=9223372036854775807)(hk:k<0\/(n:Int)<=k):
  Calls Tryz.prog 139 #[.slice A n cap,.int .i64 k] w fun e w'=>e= .returned (.tuple #[qt 0 0 0,.bool false])/\Below w.heap.size w w':=by
 by_cases h0:k<0
 ·clear hk;exact RX
 ·have h1:(n:Int)<=k:=by omega
  have h2:0<=k:=by omega
  clear hk h0;exact RX
theorem q8y(k n cap:Nat)(ad:Addr)(x y:Int)(w:World)(hk:k<n)(hn:n<=9223372036854775807)(hab:ad.block<w.heap.size)
  (r0:w.cell? (ad.add (k*2))=some (.int .i64 x)) (r1:w.cell? (zc (ad.add (k*2)) 1)=some (.int .i64 y)):
  Calls Tryz.prog 192 #[.slice (some ad) n cap,.int .i64 k] w fun e w'=>e= .returned (.tuple #[zF x y,.bool true])/\Below w.heap.size w w':=by
 have HW:=zH (zk (w:=w) (o:=(.cells #[.int .i64 0,.int .i64 0] 45)));have r0:=(HW.out.cell (p:=ad.add (k*2)) (by exact zZ hab)).trans r0;have r1:=(HW.out.cell (p:=zc (ad.add (k*2)) 1) (by show(ad.add _).block<_;rw[zC];exact hab)).trans r1;go_enter Tryz.func192,Tryz.ntmps192;go_wp2
 exact Xk (v:= .tuple #[zF x y,.bool true]) (by simp[results,Tryz.results192,go_sem]) rfl ⟨rfl,zk⟩
theorem q5e(k n cap:Nat)(ad:Addr)(A0 A1 A4 A7:Option Addr)(n0 c0 n1 c1 n4 c4 n7 c7:Nat)(u2 u3 u5 u6:Int)(w:World)(hk:k<n)(hn:n<=9223372036854775807)(hab:ad.block<w.heap.size)
  (r0:w.cell? (ad.add (k*8))=some (.slice A0 n0 c0)) (r1:w.cell? (zc (ad.add (k*8)) 1)=some (.slice A1 n1 c1)) (r2:w.cell? (zc (ad.add (k*8)) 2)=some (.int .i64 u2)) (r3:w.cell? (zc (ad.add (k*8)) 3)=some (.int .i64 u3)) (r4:w.cell? (zc (ad.add (k*8)) 4)=some (.slice A4 n4 c4)) (r5:w.cell? (zc (ad.add (k*8)) 5)=some (.int .i64 u5)) (r6:w.cell? (zc (ad.add (k*8)) 6)=some (.int .i64 u6)) (r7:w.cell? (zc (ad.add (k*8)) 7)=some (.slice A7 n7 c7)):
  Calls Tryz.prog 138 #[.slice (some ad) n cap,.int .i64 k] w fun e w'=>e= .returned (.tuple #[.agg #[.slice A0 n0 c0,.slice A1 n1 c1,.int .i64 u2,.int .i64 u3,.slice A4 n4 c4,.int .i64 u5,.int .i64 u6,.slice A7 n7 c7],.bool true])/\Below w.heap.size w w':=by
 have HW:=zH (zk (w:=w) (o:=(.cells #[.slice none 0 0,.slice none 0 0,.int .i64 0,.int .i64 0,.slice none 0 0,.int .i64 0,.int .i64 0,.slice none 0 0] 48)));have r0:=(HW.out.cell (p:=ad.add (k*8)) (by exact zZ hab)).trans r0;have r1:=(HW.out.cell (p:=zc (ad.add (k*8)) 1) (by show(ad.add _).block<_;rw[zC];exact hab)).trans r1;have r2:=(HW.out.cell (p:=zc (ad.add (k*8)) 2) (by show(ad.add _).block<_;rw[zC];exact hab)).trans r2;have r3:=(HW.out.cell (p:=zc (ad.add (k*8)) 3) (by show(ad.add _).block<_;rw[zC];exact hab)).trans r3;have r4:=(HW.out.cell (p:=zc (ad.add (k*8)) 4) (by show(ad.add _).block<_;rw[zC];exact hab)).trans r4;have r5:=(HW.out.cell (p:=zc (ad.add (k*8)) 5) (by show(ad.add _).block<_;rw[zC];exact hab)).trans r5;have r6:=(HW.out.cell (p:=zc (ad.add (k*8)) 6) (by show(ad.add _).block<_;rw[zC];exact hab)).trans r6;have r7:=(HW.out.cell (p:=zc (ad.add (k*8)) 7) (by show(ad.add _).block<_;rw[zC];exact hab)).trans r7;go_enter Tryz.func138,Tryz.ntmps138;go_wp2
 exact Xk (v:= .tuple #[.agg #[.slice A0 n0 c0,.slice A1 n1 c1,.int .i64 u2,.int .i64 u3,.slice A4 n4 c4,.int .i64 u5,.int .i64 u6,.slice A7 n7 c7],.bool true]) (by simp[results,Tryz.results138,go_sem]) rfl ⟨rfl,zk⟩
theorem RY{P:Prop}(h:P:=by
 go_enter Tryz.func138,Tryz.ntmps138;go_wp2
 exact Xk (v:= .tuple #[.agg #[.slice none 0 0,.slice none 0 0,.int .i64 0,.int .i64 0,.slice none 0 0,.int .i64 0,.int .i64 0,.slice none 0 0],.bool false]) (by simp[results,Tryz.results138,go_sem]) rfl ⟨rfl,(zk).alloc (by simp) _⟩):P:=h
theorem q90(k:Int)(n cap:Nat)(A:Option Addr)(w:World)(hn:n<=9223372036854775807)(hk:k<0\/(n:Int)<=k):
  Calls Tryz.prog 138 #[.slice A n cap,.int .i64 k] w fun e w'=>e= .returned (.tuple #[.agg #[.slice none 0 0,.slice none 0 0,.int .i64 0,.int .i64 0,.slice none 0 0,.int .i64 0,.int .i64 0,.slice none 0 0],.bool false])/\Below w.heap.size w w':=by
 by_cases h0:k<0
 ·clear hk;exact RY
 ·have h1:(n:Int)<=k:=by omega
  have h2:0<=k:=by omega
  clear hk h0;exact RY
theorem q8z(k n cap:Nat)(ad:Addr)(hx:qH)(x:zl)(w:World)(hk:k<n)(hn:n<=9223372036854775807)(hab:ad.block<w.heap.size)(hc:rX w (ad.add (k*8)) hx x):
  Calls Tryz.prog 138 #[.slice (some ad) n cap,.int .i64 k] w fun e w'=>e= .returned (.tuple #[ZD hx x,.bool true])/\Below w.heap.size w w':=
 q5e k n cap ad _ _ _ _ _ _ _ _ _ _ _ _ _ _ _ _ w hk hn hab hc.c0 hc.c1 hc.c2 hc.c3 hc.c4 hc.c5 hc.c6 hc.c7
theorem uX{m:za}{h:zh}{w0 w:World}{f:Nat}{x:zl}(HI:Hid (zr w0 w0.heap.size h m))(HX:Hid (Below w0.heap.size w0 w))(hx:m.methods[f]? =some x):
  Calls Tryz.prog 138 #[.slice h.A3 m.methods.length h.c3,.int .i64 f] w fun e w'=>∃hn,e= .returned (.tuple #[ZD hn x,.bool true])/\jR w' w'.heap.size hn x/\Below w.heap.size w w':=by
 have H:=HI.out.now HX.out;have hf:f<m.methods.length:=by
  rcases Xl f m.methods.length with g|g
  ·exact g
  ·rw[XE g]at hx;cases hx
 rw[Xc hf]at hx;injection hx with hx;subst hx;obtain⟨ad,hn,e,hb,hm,hc⟩:=Zx H hf;rw[e];have h1:=H.methods.le;have h2:=H.methods.cap;refine(q8z f _ _ ad hn _ w hf (by omega) hb hc).mono ?_;rintro e w' ⟨rfl,hw⟩;exact⟨hn,rfl,hm.now hw,hw⟩
theorem KM{l:List (Int×Int)}{A:Option Addr}{cap:Nat}{w:World}{k:Nat}{t:Int×Int}(H:zd zf 2 w w.heap.size A cap l)(ht:l[k]? =some t):
  Calls Tryz.prog 192 #[.slice A l.length cap,.int .i64 k] w fun e w'=>e= .returned (.tuple #[zF t.1 t.2,.bool true])/\Below w.heap.size w w':=by
 have hk:k<l.length:=by
  rcases Xl k l.length with g|g
  ·exact g
  ·rw[XE g]at ht;cases ht
 rw[Xc hk]at ht;injection ht with ht;subst ht;obtain⟨ad,rfl,hb,h0,h1⟩:=H.row.at_ hk;have g1:=H.le;have g2:=H.cap;exact q8y k _ _ ad _ _ w hk (by omega) hb h0 h1
theorem qdy{l:List (Int×Int×Int)}{A:Option Addr}{cap:Nat}{w:World}{k:Nat}{t:Int×Int×Int}(H:zd ju 3 w w.heap.size A cap l)(ht:l[k]? =some t):
  Calls Tryz.prog 139 #[.slice A l.length cap,.int .i64 k] w fun e w'=>e= .returned (.tuple #[qt t.1 t.2.1 t.2.2,.bool true])/\Below w.heap.size w w':=by
 have hk:k<l.length:=by
  rcases Xl k l.length with g|g
  ·exact g
  ·rw[XE g]at ht;cases ht
 rw[Xc hk]at ht;injection ht with ht;subst ht;obtain⟨ad,rfl,hb,h0,h1,h2⟩:=H.row.at_ hk;have g1:=H.le;have g2:=H.cap;exact q91 k _ _ ad _ _ _ w hk (by omega) hb h0 h1 h2
abbrev iH(h:zh)(m:za)(op a b:Int)(w:World):World:=(w.alloc (ze h m)).alloc (.cells #[.int .i64 op,.int .i64 a,.int .i64 b] 50)
structure L8(w1:World)(N:Nat)(h:zh)(m:za)(op a b:Int):Prop where
 img:YW w1 N h m
 ins:zQ w1 (N+1) [.int .i64 op,.int .i64 a,.int .i64 b]
 size:w1.heap.size=N+1+1
theorem Kk(h:zh)(m:za)(op a b:Int)(w:World):Below w.heap.size w (iH h m op a b w)/\L8 (iH h m op a b w) w.heap.size h m op a b:=by
 have z0:(w.alloc (ze h m)).heap.size=w.heap.size+1:=by simp
 obtain⟨c1,z1,b1⟩:=Jf z0 [.int .i64 op,.int .i64 a,.int .i64 b] 50;exact⟨(zk (w:=w) (o:=(ze h m))).trans (b1.mono (by omega)),(qd w h m).keep b1 (by omega),c1,z1⟩
theorem L8.keep{w w':World}{N:Nat}{h:zh}{m:za}{op a b:Int}(H:L8 w N h m op a b)(hb:Below w.heap.size w w'):YW w' N h m/\zQ w' (N+1) [.int .i64 op,.int .i64 a,.int .i64 b]:=
 ⟨H.img.keep hb (by have:=H.size;omega),H.ins.keep hb (by have:=H.size;omega)⟩
abbrev mI(h:zh)(m:za)(op a b:Int)(w:World):World:=(iH h m op a b w).alloc (.cells #[.int .i64 0,.int .i64 0] 45)
structure qim(w1:World)(N:Nat)(h:zh)(m:za)(op a b:Int):Prop where
 img:YW w1 N h m
 ins:zQ w1 (N+1) [.int .i64 op,.int .i64 a,.int .i64 b]
 res:zm w1 (N+1+1) [.int .i64 0,.int .i64 0] 45
 size:w1.heap.size=N+1+1+1
theorem Iu(h:zh)(m:za)(op a b:Int)(w:World):Below w.heap.size w (mI h m op a b w)/\qim (mI h m op a b w) w.heap.size h m op a b:=by
 obtain⟨h0,h1⟩:=Kk h m op a b w;obtain⟨c1,z1,b1⟩:=Jf h1.size [.int .i64 0,.int .i64 0] 45;exact⟨h0.trans (b1.mono (by omega)),h1.img.keep b1 (by omega),h1.ins.keep b1 (by omega),zm.at_ h1.size _ _,z1⟩
theorem Lv{w0 w1 w:World}{N:Nat}{x y:Int}(hb0:Below N w0 w1)(hb:Below w1.heap.size w1 w)(hN:N+1+1<w1.heap.size)(hw:zm w1 (N+1+1) [.int .i64 0,.int .i64 0] 45):
  ((w.setCell ⟨N+1+1,0,none⟩ (.int .i64 x)).setCell ⟨N+1+1,1,none⟩ (.int .i64 y)).cell? ⟨N+1+1,0,none⟩=some (.int .i64 x)/\((w.setCell ⟨N+1+1,0,none⟩ (.int .i64 x)).setCell ⟨N+1+1,1,none⟩ (.int .i64 y)).cell? ⟨N+1+1,1,none⟩=some (.int .i64 y)/\
  Below N w0 ((w.setCell ⟨N+1+1,0,none⟩ (.int .i64 x)).setCell ⟨N+1+1,1,none⟩ (.int .i64 y)):=by
 have h:=((hw.keep hb (by omega)).set 0 (.int .i64 x)).set 1 (.int .i64 y);exact⟨h.cells 0 _ rfl,h.cells 1 _ rfl,((hb0.trans (hb.mono (by omega))).setCell (p:=⟨N+1+1,0,none⟩) (by grind) _).setCell (p:=⟨N+1+1,1,none⟩) (by grind) _⟩
theorem qdz(m:za)(f:Nat)(x:zl)(h:zh)(w:World)(H:zr w w.heap.size h m)(hx:m.methods[f]? =some x):
  Calls Tryz.prog 171 #[zv h m,.int .i64 f] w (Ys x.args w):=by
 have HW:=zH (zk (w:=w) (o:=(ze h m)));have HI:=zH (H.now HW.out);have HBX:=zH (qd w h m);clear H;go_enter Tryz.func171,Tryz.ntmps171;go_upto_region 1 with fail
 generalize w.alloc (ze h m)=w1 at*
 obtain⟨q0,q1,q2,q3,q4,q5,q6⟩:=HBX.out;have HX0:=qP w1;go_upto_region 2 with(go_at_call 138;(with_reducible refine(uX HI HX0 hx).mono ?_);rintro e w2 ⟨hn,rfl,hm,hb⟩;have Zl:=zH hm;have HB2:=zH hb;clear hm hb)
 have HC:=zH (qr w2 (qj hn x) 48);have HA:Hid (Below w2.heap.size w2 (w2.alloc (.cells (qj hn x).toArray 48))):=zH (zk);have Vm:=zH (Zl.out.now HA.out);have HW3:=zH (HW.out.trans ((zD HB2 HA).mono HW.out.size));generalize w2.alloc (.cells (qj hn x).toArray 48)=w3 at*
 have c0:=HC.out 0 _ rfl;go_wp2_with fail
 go_ret;exact⟨_,_,rfl,Vm.out.args,HW3.out⟩
theorem WF{m:za}{h:zh}{w0 w:World}{f:Nat}{x:zl}(HI:Hid (zr w0 w0.heap.size h m))(HX:Hid (Below w0.heap.size w0 w))(hx:m.methods[f]? =some x):
  Calls Tryz.prog 171 #[zv h m,.int .i64 f] w (Ys x.args w):=qdz m f x h w (HI.out.now HX.out) hx
theorem q58(m:za)(f:Nat)(x:zl)(h:zh)(w:World)(H:zr w w.heap.size h m)(hx:m.methods[f]? =some x):
  Calls Tryz.prog 174 #[zv h m,.int .i64 f] w (Ys (vb x) w):=by
 have HW:=zH (zk (w:=w) (o:=(ze h m)));have HI:=zH (H.now HW.out);have HBX:=zH (qd w h m);have kL:=zH hx;clear H hx;by_cases h5:x.ret.1=5
 ·have e:vb x=[]:=by unfold vb;grind
  rw[e];have H5:=zH h5;clear e h5;go_enter Tryz.func174,Tryz.ntmps174;go_upto_region 1 with fail
  generalize w.alloc (ze h m)=w1 at*
  obtain⟨q0,q1,q2,q3,q4,q5,q6⟩:=HBX.out;have HX0:=qP w1;go_upto_region 2 with(go_at_call 138;(with_reducible refine(uX HI HX0 kL.out).mono ?_);rintro e w2 ⟨hn,rfl,hm,hb⟩;have HB2:=zH hb;clear hm hb)
  have HC:=zH (qr w2 (qj hn x) 48);have HA:Hid (Below w2.heap.size w2 (w2.alloc (.cells (qj hn x).toArray 48))):=zH (zk);have HZ:Hid (w2.heap.size<(w2.alloc (.cells (qj hn x).toArray 48)).heap.size):=zH (by simp);have HW3:=zH (HW.out.trans ((zD HB2 HA).mono HW.out.size));generalize w2.alloc (.cells (qj hn x).toArray 48)=w3 at*
  have c2:=HC.out 2 _ rfl;rw[H5.out]at c2;go_wp2_with fail
  go_ret;exact⟨none,0,rfl,va,HW3.out⟩
 ·have e:vb x=[x.ret]:=by unfold vb;grind
  rw[e];clear e;go_enter Tryz.func174,Tryz.ntmps174;go_upto_region 1 with fail
  generalize w.alloc (ze h m)=w1 at*
  obtain⟨q0,q1,q2,q3,q4,q5,q6⟩:=HBX.out;have HX0:=qP w1;go_upto_region 2 with(go_at_call 138;(with_reducible refine(uX HI HX0 kL.out).mono ?_);rintro e w2 ⟨hn,rfl,hm,hb⟩;have HB2:=zH hb;clear hm hb)
  have HC:=zH (qr w2 (qj hn x) 48);have HA:Hid (Below w2.heap.size w2 (w2.alloc (.cells (qj hn x).toArray 48))):=zH (zk);have HZ:Hid (w2.heap.size<(w2.alloc (.cells (qj hn x).toArray 48)).heap.size):=zH (by simp);have HW3:=zH (HW.out.trans ((zD HB2 HA).mono HW.out.size));generalize w2.alloc (.cells (qj hn x).toArray 48)=w3 at*
  have c2:=HC.out 2 _ rfl;have c3:=HC.out 3 _ rfl;go_wp2_with fail
  go_ret;refine⟨_,_,rfl,JT (by simp;try omega) (by go_simp) (by go_simp),HW3.out.trans ((zb _ _).alloc (HW3.out.size) _)⟩
theorem J8{m:za}{h:zh}{w0 w:World}{f:Nat}{x:zl}(HI:Hid (zr w0 w0.heap.size h m))(HX:Hid (Below w0.heap.size w0 w))(hx:m.methods[f]? =some x):
  Calls Tryz.prog 174 #[zv h m,.int .i64 f] w (Ys (vb x) w):=q58 m f x h w (HI.out.now HX.out) hx
theorem qdn(m:za)(op a b:Int)(k:Nat)(h:zh)(w:World)(H:zr w w.heap.size h m)(hs:kP m.classes a b=some (k:Int)):
  Calls Tryz.prog 173 #[zv h m,qt op a b] w fun e w'=>e= .returned (.int .i64 k)/\Below w.heap.size w w':=by
 obtain⟨hw,hp⟩:=Kk h m op a b w;have HW:=zH hw;have HP:=zH hp;have HI:=zH (H.now hw);have HS:=zH hs;clear hw hp H hs;go_enter Tryz.func173,Tryz.ntmps173;go_upto_region 1 with fail
 change Code.wp _ _ _ _ (iH h m op a b w);generalize iH h m op a b w=w1 at*
 obtain⟨q0,q1,q2,q3,q4,q5,q6⟩:=HP.out.img;have o1:=HP.out.ins 1 _ rfl;have o2:=HP.out.ins 2 _ rfl;have HX0:=qP w1;go_wp2_with(go_at_call 194;(with_reducible refine(Lh HI HX0 HS).mono ?_);rintro e w2 ⟨rfl,hb⟩;have HB2:=zH hb;clear hb;dsimp only[Option.getD,Option.isSome])
 go_ret;exact⟨rfl,zD HW HB2⟩
theorem Wy{m:za}{h:zh}{w0 w:World}{op a b:Int}{k:Nat}(HI:Hid (zr w0 w0.heap.size h m))(HX:Hid (Below w0.heap.size w0 w))(HS:Hid (kP m.classes a b=some (k:Int))):
  Calls Tryz.prog 173 #[zv h m,qt op a b] w fun e w'=>e= .returned (.int .i64 k)/\Below w.heap.size w w':=qdn m op a b k h w (HI.out.now HX.out) HS.out
theorem q57(m:za)(op b:Int)(j:Nat)(t:Int×Int)(h:zh)(w:World)(H:zr w w.heap.size h m)(hs:m.statics[j]? =some t):
  Calls Tryz.prog 170 #[zv h m,qt op j b] w fun e w'=>e= .returned (zF t.1 t.2)/\Below w.heap.size w w':=by
 obtain⟨hw,hp⟩:=Iu h m op j b w;have HW:=zH hw;have HP:=zH hp;have HI:=zH (H.now hw);have HS:=zH hs;clear hw hp H hs;go_enter Tryz.func170,Tryz.ntmps170;go_upto_region 1 with fail
 change Code.wp _ _ _ _ (mI h m op j b w);generalize mI h m op j b w=w1 at*
 obtain⟨q0,q1,q2,q3,q4,q5,q6⟩:=HP.out.img;have o1:=HP.out.ins 1 _ rfl;go_upto_region 2 with(go_at_call 192;(with_reducible refine(KM HI.out.statics HS.out).mono ?_);rintro e w2 ⟨rfl,hb⟩;have HB2:=zH hb;clear hb)
 have hA:Below w2.heap.size w2 (w2.alloc (.cells #[.int .i64 t.1,.int .i64 t.2] 45)):=zk;have HC:=zH (qr w2 [.int .i64 t.1,.int .i64 t.2] 45);have HB3:=zi HB2 hA;clear hA;generalize w2.alloc (.cells #[.int .i64 t.1,.int .i64 t.2] 45)=w3 at*
 have c0:=HC.out 0 _ rfl;have c1:=HC.out 1 _ rfl;have hq:=HP.out.res.keep HB3.out HP.out.res.lt;have f0:=hq.free 0;have f1:=hq.free 1;have r0:=hq.cells 0 _ rfl;have r1:=hq.cells 1 _ rfl;clear hq;go_wp2_with fail
 obtain⟨d0,d1,db⟩:=Lv (x:=t.1) (y:=t.2) HW.out HB3.out HP.out.res.lt HP.out.res;exact Xk (v:=zF t.1 t.2) (by simp[results,Tryz.results170,go_sem,d0,d1]) rfl ⟨rfl,db⟩
theorem Sc{m:za}{h:zh}{w0 w:World}{op b:Int}{j:Nat}{t:Int×Int}(HI:Hid (zr w0 w0.heap.size h m))(HX:Hid (Below w0.heap.size w0 w))(HS:Hid (m.statics[j]? =some t)):
  Calls Tryz.prog 170 #[zv h m,qt op j b] w fun e w'=>e= .returned (zF t.1 t.2)/\Below w.heap.size w w':=q57 m op b j t h w (HI.out.now HX.out) HS.out
theorem q8o(m:za)(op a b:Int)(f:Nat)(x:zl)(t:Int×Int)(h:zh)(w:World)(H:zr w w.heap.size h m)(hx:m.methods[f]? =some x)(hs:a<=9223372036854775807)(ht:vB x a=t):
  Calls Tryz.prog 168 #[zv h m,qt op a b,.int .i64 f] w fun e w'=>e= .returned (zF t.1 t.2)/\Below w.heap.size w w':=by
 subst ht;obtain⟨hw,hp⟩:=Iu h m op a b w;have HW:=zH hw;have HP:=zH hp;have HI:=zH (H.now hw);have kL:=zH hx;clear hw hp H hx;go_enter Tryz.func168,Tryz.ntmps168;go_upto_region 1 with fail
 change Code.wp _ _ _ _ (mI h m op a b w);generalize mI h m op a b w=w1 at*
 obtain⟨q0,q1,q2,q3,q4,q5,q6⟩:=HP.out.img;have HX0:=qP w1;go_upto_region 2 with(go_at_call 138;(with_reducible refine(uX HI HX0 kL.out).mono ?_);rintro e w2 ⟨hn,rfl,hm,hb⟩;have Zl:=zH hm;have HB2:=zH hb;clear hm hb)
 have HC:=zH (qr w2 (qj hn x) 48);have HA:Hid (Below w2.heap.size w2 (w2.alloc (.cells (qj hn x).toArray 48))):=zH (zk);have Vm:=zH (Zl.out.now HA.out);have HB3:=zH (zD HB2 HA);generalize w2.alloc (.cells (qj hn x).toArray 48)=w3 at*
 obtain⟨c0,c1,c2,c3,c4,c5,c6,c7⟩:=qp HC.out;have o1:=(HP.out.ins.keep HB3.out (by have:=HP.out.size;omega)) 1 _ rfl;clear HC;go_wp2_with(go_at_call 191;(with_reducible refine(q9n x a hs hn w3 Vm.out).mono ?_);rintro e w4 ⟨rfl,hb⟩;have jw:=zi HB3 hb;have hq:=HP.out.res.keep jw.out HP.out.res.lt;have f0:=hq.free 0;have f1:=hq.free 1;have r0:=hq.cells 0 _ rfl;have r1:=hq.cells 1 _ rfl;clear hq hb)
 generalize vB x a=t at*
 obtain⟨d0,d1,db⟩:=Lv (x:=t.1) (y:=t.2) HW.out jw.out HP.out.res.lt HP.out.res;exact Xk (v:=zF t.1 t.2) (by simp[results,Tryz.results168,go_sem,d0,d1]) rfl ⟨rfl,db⟩
theorem Ui{m:za}{h:zh}{w0 w:World}{op a b:Int}{f:Nat}{x:zl}{t:Int×Int}(HI:Hid (zr w0 w0.heap.size h m))(HX:Hid (Below w0.heap.size w0 w))(hx:m.methods[f]? =some x)(hs:a<=9223372036854775807)(HT:Hid (vB x a=t)):
  Calls Tryz.prog 168 #[zv h m,qt op a b,.int .i64 f] w fun e w'=>e= .returned (zF t.1 t.2)/\Below w.heap.size w w':=q8o m op a b f x t h w (HI.out.now HX.out) hx hs HT.out
def rP(a k:Int):Int×Int:=(k,if k=3 then a else 0)
def ZY(a:Int)(ks:List Int):List (Int×Int):=ks.map (rP a)
abbrev mkF(N:Nat):Value:= .func (.func 190) #[] #[.pointer (some ⟨N,0,none⟩)]
theorem q8n(op a b:Int)(w:World):
  Calls Tryz.prog 167 #[qt op a b] w fun e w'=>e= .returned (mkF w.heap.size)/\w'=w.alloc (.cells #[.int .i64 op,.int .i64 a,.int .i64 b] 50):=by
 go_enter Tryz.func167,Tryz.ntmps167;go_wp2
 go_ret;exact⟨rfl,rfl⟩
theorem LC{w:World}{g:Nat}{x y:Int}(hg:g<w.heap.size)(h0:w.cell? ⟨g,0,none⟩=some (.int .i64 x))(h1:w.cell? ⟨g,1,none⟩=some (.int .i64 y)):zw w w.heap.size (some ⟨g,0,none⟩) (zN [(x,y)]):=YQ (JT hg h0 h1).row
theorem qk0(ks:List Int)(op a b:Int)(N:Nat)(A:Option Addr)(c:Nat)(w:World)(hN:N<w.heap.size)(hc:zQ w N [.int .i64 op,.int .i64 a,.int .i64 b])(h:zd zu 1 w w.heap.size A c ks)(hl:ks.length<=1000):
  Calls Tryz.prog 190 #[.slice A ks.length c,.pointer (some ⟨N,0,none⟩)] w (eO (ZY a ks) w):=by
 obtain⟨i0,hi,hz0,hz1,hz2⟩:=jJ bM;have HN:=zH hN;have HC:=zH hc;have HS:=zH h;have hle:=h.le;have hcap:=h.cap;clear hN hc h;go_enter Tryz.func190,Tryz.ntmps190;go_wp2_with fail
 go_loopw [4,10] (fun v i wr=>∃k:Nat,k<=ks.length/\i= .int .i64 k/\Hid (wr.ownsRow w.heap.size 45 2 v k (zN (ZY a (ks.take k))))/\Hid (Below w.heap.size w wr)) (fun _ i _=>ks.length - (intOf i).toNat)
 case atStart=>exact⟨0,by omega,rfl,zH (XM _ _ _ _),zH (zb _ _)⟩
 case round=>
  obtain⟨k,hk,rfl,HO,HX⟩:=hrel;by_cases hlt:k<ks.length
  ·obtain⟨ad,rfl,hab,hcz⟩:=(HS.out.below_to zu.keeps HX.out (zn _)).row.at_ hlt;have HT:Hid (ZY a (ks.take (k+1))=ZY a (ks.take k)++[rP a ks[k]]):=zH (by unfold ZY;rw[List.take_succ_eq_append_getElem hlt,Wc];rfl);obtain⟨L,hL⟩:=zj (ZY a (ks.take k));have Qx:L.length=k:=by rw[<-hL];unfold ZY;rw[Xm,XW];omega
   rw[hL]at HT HO;generalize ks[k]=z at*
   have hcz:wr.cell? (ad.add k)=some (.int .i64 z):=by have:=hcz;rw[Xq]at this;exact this
   have o1:=(HC.out.keep HX.out HN.out) 1 _ rfl;have hsz:=HX.out.size;have hNw:N<wr.heap.size:=Xp HN.out hsz;clear hL;by_cases hz3:z=3
   ·subst hz3;go_wp2_with(at_builtin;refine Zv rfl _ _ 24 rfl w.heap.size 45 i0 (.agg #[.int .i64 0,.int .i64 0]) 2 16 Tryz.underlying24 hi hz0 hz1 hz2 rfl (by decide) _ k (zN L) rfl ((HO.out.alloc _).alloc _) (some ⟨wr.heap.size+1,0,none⟩) 1 1 _ (zN [(3,a)]) rfl rfl (LC (by simp) (by go_simp) (by go_simp)) (QM _) (by unfold maxLen;omega) (by omega) (by simp;omega) ?_;intro v6 w6 hown hgrow;have HX6:=zH (jx ((HX.out.alloc hsz _).alloc (by simp;omega) _) ((HO.out.alloc _).alloc _) (by simp;omega) hgrow);have HO6:=zH hown;clear hown hgrow)
    go_roundw;case rel=>exact⟨k+1,by omega,by go_num,zH (by rw[HT.out];show World.ownsRow _ _ _ _ _ _ ((L++[(3,a)]).flatMap tyC);rw[Wa];exact HO6.out),HX6⟩
    case measure=>simp[intOf];omega
   ·have HM:Hid (rP a z=(z,0)):=zH (by unfold rP;rw[Xa hz3]);go_wp2_with(at_builtin;refine Zv rfl _ _ 24 rfl w.heap.size 45 i0 (.agg #[.int .i64 0,.int .i64 0]) 2 16 Tryz.underlying24 hi hz0 hz1 hz2 rfl (by decide) _ k (zN L) rfl ((HO.out.alloc _).alloc _) (some ⟨wr.heap.size+1,0,none⟩) 1 1 _ (zN [(z,0)]) rfl rfl (LC (by simp) (by go_simp) (by go_simp)) (QM _) (by unfold maxLen;omega) (by omega) (by simp;omega) ?_;intro v6 w6 hown hgrow;have HX6:=zH (jx ((HX.out.alloc hsz _).alloc (by simp;omega) _) ((HO.out.alloc _).alloc _) (by simp;omega) hgrow);have HO6:=zH hown;clear hown hgrow)
    go_roundw;case rel=>exact⟨k+1,by omega,by go_num,zH (by rw[HT.out,HM.out];show World.ownsRow _ _ _ _ _ _ ((L++[(z,0)]).flatMap tyC);rw[Wa];exact HO6.out),HX6⟩
    case measure=>simp[intOf];omega
  ·obtain rfl:k=ks.length:=by omega
   have HT:Hid (ZY a (ks.take ks.length)=ZY a ks):=zH (by rw[XL]);have Zj:Hid ((ZY a ks).length=ks.length):=zH (by unfold ZY;rw[Xm]);go_wp2_with fail
   go_ret;refine⟨_,rfl,?_,HX.out⟩;rw[Zj.out,<-HT.out];exact HO.out
theorem Fe{ks:List Int}{op a b:Int}{N:Nat}{A:Option Addr}{c:Nat}{w:World}{L:List (Int×Int)}(HL:Hid (ZY a ks=L))(HN:N<w.heap.size)(HC:zQ w N [.int .i64 op,.int .i64 a,.int .i64 b])(HS:zd zu 1 w w.heap.size A c ks)(hl:ks.length<=1000):
  Calls Tryz.prog 190 #[.slice A ks.length c,.pointer (some ⟨N,0,none⟩)] w (eO L w):=by
 have H:=qk0 ks op a b N A c w HN HC HS hl;rw[HL.out]at H;exact H
theorem qds(n:Nat)(hn:n<=1000000)(w:World):
  Calls Tryz.prog 179 #[.slice none 0 0,.int .i64 n] w fun e w'=>∃v,e= .returned v/\w'.ownsRow w.heap.size 45 2 v 0 []/\Below w.heap.size w w':=by
 obtain⟨i0,hi,hz0,hz1,hz2⟩:=jJ bM;rcases Nat.eq_zero_or_pos n with rfl|hp
 ·go_enter Tryz.func179,Tryz.ntmps179;go_wp2
  go_ret;exact⟨_,rfl,XM _ _ _ _,zb _ _⟩
 ·have hw1:IntKind.i64.wrap ((n:Int) - 0)=(n:Int):=by rw[Int.sub_zero];exact IntWalk.i64_in _ (by omega)
  have h1:¬((n:Int)<0):=by omega
  have h4:(n:Int)>0:=by omega
  have hrz:∀ty,(Builtin.append_ #[24,3] ty #[.slice none 0 0,.int .i64 n]).run Tryz.prog w=_:=fun ty=>
   Lib.run_append_nil_zeros w 24 3 ty 45 i0 _ .i64 .i64 Tryz.underlying24 Tryz.underlying3 hi hz0 n hp (by omega) (by omega) (by rw[hz2];omega)
  have hg1:=grownCap_ge w n 0 45;have hg2:=grownCap_le_maxLen w n 0 45 (by unfold maxLen;omega);obtain⟨G,hG⟩:∃G,G=grownCap w n 0 45:=⟨_,rfl⟩
  rw[<-hG]at hrz hg1 hg2;have hG63:G<=9223372036854775807:=by unfold maxLen at hg2;omega
  have HO:Hid (∀w1,w1=w.drew.alloc (.cells (Builtin.zeroCells (Value.agg #[.int .i64 0,.int .i64 0]).cells n++Builtin.zeroCells (Value.agg #[.int .i64 0,.int .i64 0]).cells (G - n)) 45)->w1.ownsRow w.heap.size 45 2 (.slice (some ⟨w.heap.size,0,none⟩) 0 G) 0 []/\Below w.heap.size w w1):=zH (fun w1 h=>by
   subst h;refine⟨⟨rfl,.inr ⟨w.heap.size,G,_,rfl,zn _,Xz _ _,Xn _,hg2,?_,by simp⟩⟩,((zb _ _).drew).alloc (zn _) _⟩;rw[Array.size_append,size_zeroCells,size_zeroCells];show n*2+(G - n)*2=G*2;omega)
  clear hG hi hz0 hz1 hz2;go_enter Tryz.func179,Tryz.ntmps179;go_wp2_with(at_builtin;refine Lib.wpList_append_run _ rfl _ _ _ _ rfl _ _ rfl rfl _ _ (hrz _) ?_)
  go_ret;obtain⟨o1,o2⟩:=HO.out _ rfl;exact⟨_,rfl,o1,o2⟩
theorem qhp{n:Nat}{w:World}{z:Int}(HZ:Hid (z=(n:Int)))(hn:n<=1000000):
  Calls Tryz.prog 179 #[.slice none 0 0,.int .i64 z] w fun e w'=>∃v,e= .returned v/\w'.ownsRow w.heap.size 45 2 v 0 []/\Below w.heap.size w w':=by
 rw[HZ.out];exact qds n hn w
set_option maxHeartbeats 1600000 in
theorem Q6(L M:List (Int×Int))(A B:Option Addr)(c d g:Nat)(w:World)(h:zd zf 2 w w.heap.size A c L)(h':zd zf 2 w w.heap.size B d M)(hg:g<w.heap.size)(hc:zQ w g [.slice A L.length c,.slice B M.length d])(hL:L.length<=4000)(hM:M.length<=1000):
  Calls Tryz.prog 145 #[.slice (some ⟨g,0,none⟩) 2 2] w (eO (L++M) w):=by
 obtain⟨i0,hi,hz0,hz1,hz2⟩:=jJ bM;have HL:=zH h;have HM:=zH h';have HC:=zH hc;have HG:=zH hg;have HZ2:Hid ((((L.length+M.length:Nat):Int))=((L.length+M.length:Nat):Int)):=zH rfl;have c0:=hc 0 _ rfl;have c1:=hc 1 _ rfl;have fG:Hid ((L++M).length=L.length+M.length):=zH Xh;clear h h' hc;go_enter Tryz.func145,Tryz.ntmps145;go_wp2_with fail
 go_loopw [3,11] (fun z i wr=>wr=w/\((i= .int .i64 0/\z= .int .i64 0)\/(i= .int .i64 1/\z= .int .i64 (L.length:Int))\/(i= .int .i64 2/\z= .int .i64 ((L.length+M.length:Nat):Int)))) (fun _ i _=>2 - (intOf i).toNat)
 case atStart=>exact⟨rfl,.inl ⟨rfl,rfl⟩⟩
 case round=>
  obtain⟨hwr,h⟩:=hrel;have hwr:=hwr.symm;subst hwr;rcases h with⟨rfl,rfl⟩|⟨rfl,rfl⟩|⟨rfl,rfl⟩
  ·have hw1:IntKind.i64.wrap (0+(L.length:Int))=(L.length:Int):=by rw[Int.zero_add];exact IntWalk.i64_in _ (by omega)
   have hw2:IntKind.i64.wrap (L.length:Int)=(L.length:Int):=IntWalk.i64_in _ (by omega);have hnn:¬(L.length:Int)<0:=by omega
   go_wp2_with fail
   go_roundw;case rel=>exact⟨Xs,.inr (.inl ⟨by go_num,rfl⟩)⟩
   case measure=>simp[intOf]
  ·have hw1:IntKind.i64.wrap ((L.length:Int)+(M.length:Int))=((L.length+M.length:Nat):Int):=by rw[<-Int.natCast_add];exact IntWalk.i64_in _ (by omega)
   have hnn:¬((L.length+M.length:Nat):Int)<0:=by omega
   go_wp2_with fail
   go_roundw;case rel=>exact⟨Xs,.inr (.inr ⟨by go_num,by go_num⟩)⟩
   case measure=>simp[intOf]
  ·go_wp2_with(go_at_call 179;(with_reducible refine(qhp (n:=L.length+M.length) (zH (by omega)) (by omega)).mono ?_);rintro e w2 ⟨v2,rfl,ho,hb⟩;have qm:=zH ho;have HB2:=zH hb;clear ho hb)
   go_loopw [6,27] (fun v i w3=>((i= .int .i64 0/\Hid (w3.ownsRow w.heap.size 45 2 v 0 []))\/(i= .int .i64 1/\Hid (w3.ownsRow w.heap.size 45 2 v L.length (zN L)))\/(i= .int .i64 2/\Hid (w3.ownsRow w.heap.size 45 2 v (L.length+M.length) (zN L++zN M))))/\Hid (Below w.heap.size w w3)) (fun _ i _=>2 - (intOf i).toNat)
   case atStart=>exact⟨.inl ⟨rfl,qm⟩,HB2⟩
   case round=>
    obtain⟨h,HX⟩:=hrel;rcases h with⟨rfl,HO⟩|⟨rfl,HO⟩|⟨rfl,HO⟩
    ·have c0:=(HX.out.cell (p:=⟨g,0,none⟩) HG.out).trans (HC.out 0 _ rfl);have HT:=zH (YQ (HL.out.below_to zf.keeps HX.out (zn _)).row);have hsz:=HX.out.size;go_wp2_with(at_builtin;refine Zv rfl _ _ 24 rfl w.heap.size 45 i0 (.agg #[.int .i64 0,.int .i64 0]) 2 16 Tryz.underlying24 hi hz0 hz1 hz2 rfl (by decide) _ 0 [] rfl HO.out A L.length c _ (zN L) (Yt _) rfl HT.out (QM _) (by unfold maxLen;omega) (by omega) hsz ?_;intro v6 w6 hown hgrow;have HX6:=zH (jx HX.out HO.out hsz hgrow);have HO6:=zH hown;clear hown hgrow)
     go_roundw;case rel=>exact⟨.inr (.inl ⟨by go_num,zH (by simpa using HO6.out)⟩),HX6⟩
     case measure=>simp[intOf]
    ·have c1:=(HX.out.cell (p:=⟨g,1,none⟩) HG.out).trans (HC.out 1 _ rfl);have HT:=zH (YQ (HM.out.below_to zf.keeps HX.out (zn _)).row);have hsz:=HX.out.size;go_wp2_with(at_builtin;refine Zv rfl _ _ 24 rfl w.heap.size 45 i0 (.agg #[.int .i64 0,.int .i64 0]) 2 16 Tryz.underlying24 hi hz0 hz1 hz2 rfl (by decide) _ L.length (zN L) rfl HO.out B M.length d _ (zN M) (Yt _) rfl HT.out (QM _) (by unfold maxLen;omega) (by omega) hsz ?_;intro v6 w6 hown hgrow;have HX6:=zH (jx HX.out HO.out hsz hgrow);have HO6:=zH hown;clear hown hgrow)
     go_roundw;case rel=>exact⟨.inr (.inr ⟨by go_num,HO6⟩),HX6⟩
     case measure=>simp[intOf]
    ·go_wp2_with fail
     go_ret;refine⟨_,rfl,?_,HX.out⟩;rw[fG.out];show World.ownsRow _ _ _ _ _ _ ((L++M).flatMap tyC);rw[Wa];exact HO.out
theorem q48{L M N:List (Int×Int)}{A B:Option Addr}{c d g:Nat}{w:World}(HN:Hid (L++M=N))(h:zd zf 2 w w.heap.size A c L)(h':zd zf 2 w w.heap.size B d M)(hg:g<w.heap.size)(hc:zQ w g [.slice A L.length c,.slice B M.length d])(hL:L.length<=4000)(hM:M.length<=1000):
  Calls Tryz.prog 145 #[.slice (some ⟨g,0,none⟩) 2 2] w (eO N w):=by
 have H:=Q6 L M A B c d g w h h' hg hc hL hM;rw[HN.out]at H;exact H
theorem q8x{L M N:List (Int×Int)}{A B:Option Addr}{c d g:Nat}{w:World}(HN:Hid (L++M=N))(h:zd zf 2 w w.heap.size A c L)(h':zd zf 2 w w.heap.size B d M)(hg:g<w.heap.size)(hc:zQ w g [.slice A L.length c,.slice B M.length d])(hL:L.length<=1000)(hM:M.length<=1000):
  Calls Tryz.prog 145 #[.slice (some ⟨g,0,none⟩) 2 2] w (eO N w):=by
 have H:=Q6 L M A B c d g w h h' hg hc (Xe hL (by decide)) hM;rw[HN.out]at H;exact H
def kZ(sup:List Int)(t u:Int×Int):Bool:=if u.1=6 then true else if u.1=7 then kS t.1 else if u.1=8 then kS t.1&& !(decide (t.1=2))else zB sup t.1 t.2 u.1 u.2
def eX(sup:List Int)(L U:List (Int×Int)):Bool:=decide (L.length=U.length)&& (L.zip U).all (fun p=>kZ sup p.1 p.2)
theorem KG{t0 t1:Int}{w:World}{r:Bool}(HR:Hid (kS t0=r)):Calls Tryz.prog 180 #[zF t0 t1] w fun e w'=>e= .returned (.bool r)/\Below w.heap.size w w':=by
 have H:=RZ t0 t1 w;rw[HR.out]at H;exact H
theorem LV(w:World)(x y z u:Int):zQ ((w.alloc (.cells #[.int .i64 x,.int .i64 y] 45)).alloc (.cells #[.int .i64 z,.int .i64 u] 45)) w.heap.size [.int .i64 x,.int .i64 y]/\zQ ((w.alloc (.cells #[.int .i64 x,.int .i64 y] 45)).alloc (.cells #[.int .i64 z,.int .i64 u] 45)) (w.heap.size+1) [.int .i64 z,.int .i64 u]/\
  Below w.heap.size w ((w.alloc (.cells #[.int .i64 x,.int .i64 y] 45)).alloc (.cells #[.int .i64 z,.int .i64 u] 45))/\((w.alloc (.cells #[.int .i64 x,.int .i64 y] 45)).alloc (.cells #[.int .i64 z,.int .i64 u] 45)).heap.size=w.heap.size+2:=by
 obtain⟨c1,z1,b1⟩:=Jf (w:=w) rfl [.int .i64 x,.int .i64 y] 45;obtain⟨c2,z2,b2⟩:=Jf z1 [.int .i64 z,.int .i64 u] 45;exact⟨c1.keep b2 (by omega),c2,b1.trans (b2.mono (by omega)),z2⟩
theorem qdw(sup:List Int)(t0 t1 u0 u1:Int)(A:Option Addr)(c:Nat)(w:World)(hl:sup.length<=1048576)(h:jh w w.heap.size A sup):
  Calls Tryz.prog 178 #[.slice A sup.length c,zF t0 t1,zF u0 u1] w fun e w'=>e= .returned (.bool (kZ sup (t0,t1) (u0,u1)))/\Below w.heap.size w w':=by
 obtain⟨c1,c2,hb,hz⟩:=LV w t0 t1 u0 u1;have Zn:=zH c1;have kB:=zH c2;have HW:=zH hb;have HZ:=zH hz;have HS:=zH (h.below_to hb (zn _));clear c1 c2 hb hz h;by_cases h6:u0=6
 ·subst h6;have e:kZ sup (t0,t1) (6,u1)=true:=rfl;rw[e];clear e;go_enter Tryz.func178,Tryz.ntmps178;go_upto_region 1 with fail
  generalize(w.alloc (.cells #[.int .i64 t0,.int .i64 t1] 45)).alloc (.cells #[.int .i64 6,.int .i64 u1] 45)=w1 at*
  have d0:=kB.out 0 _ rfl;go_wp2_with fail
  go_ret;exact⟨rfl,HW.out⟩
 ·by_cases h7:u0=7
  ·subst h7;obtain⟨r,hr⟩:=zj (kS t0);have HR:=zH hr;have e:kZ sup (t0,t1) (7,u1)=r:=hr;rw[e];clear e hr h6;go_enter Tryz.func178,Tryz.ntmps178;go_upto_region 1 with fail
   generalize(w.alloc (.cells #[.int .i64 t0,.int .i64 t1] 45)).alloc (.cells #[.int .i64 7,.int .i64 u1] 45)=w1 at*
   have d0:=kB.out 0 _ rfl;have e0:=Zn.out 0 _ rfl;have e1:=Zn.out 1 _ rfl;go_wp2_with(go_at_call 180;(with_reducible refine(KG HR).mono ?_);rintro e w2 ⟨rfl,hb⟩;have HB2:=zH hb;clear hb)
   go_ret;exact⟨rfl,zD HW HB2⟩
  ·by_cases h8:u0=8
   ·subst h8;obtain⟨r,hr⟩:=zj (kS t0);have HR:=zH hr;have e:kZ sup (t0,t1) (8,u1)=(r&& !(decide (t0=2))):=by rw[<-hr];rfl
    rw[e];clear e hr h6 h7;cases r
    ·go_enter Tryz.func178,Tryz.ntmps178;go_upto_region 1 with fail
     generalize(w.alloc (.cells #[.int .i64 t0,.int .i64 t1] 45)).alloc (.cells #[.int .i64 8,.int .i64 u1] 45)=w1 at*
     have d0:=kB.out 0 _ rfl;have e0:=Zn.out 0 _ rfl;have e1:=Zn.out 1 _ rfl;go_wp2_with(go_at_call 180;(with_reducible refine(KG HR).mono ?_);rintro e w2 ⟨rfl,hb⟩;have HB2:=zH hb;have e0:=(Zn.out.keep hb (by have:=HZ.out;omega)) 0 _ rfl;clear hb)
     go_ret;exact⟨rfl,zD HW HB2⟩
    ·go_enter Tryz.func178,Tryz.ntmps178;go_upto_region 1 with fail
     generalize(w.alloc (.cells #[.int .i64 t0,.int .i64 t1] 45)).alloc (.cells #[.int .i64 8,.int .i64 u1] 45)=w1 at*
     have d0:=kB.out 0 _ rfl;have e0:=Zn.out 0 _ rfl;have e1:=Zn.out 1 _ rfl;go_wp2_with(go_at_call 180;(with_reducible refine(KG HR).mono ?_);rintro e w2 ⟨rfl,hb⟩;have HB2:=zH hb;have e0:=(Zn.out.keep hb (by have:=HZ.out;omega)) 0 _ rfl;clear hb)
     go_ret;refine⟨?_,zD HW HB2⟩;by_cases h2:t0=2<;>simp[h2]
   ·have e:kZ sup (t0,t1) (u0,u1)=zB sup t0 t1 u0 u1:=by unfold kZ;rw[Xa h6,Xa h7,Xa h8]
    rw[e];clear e;go_enter Tryz.func178,Tryz.ntmps178;go_upto_region 1 with fail
    generalize(w.alloc (.cells #[.int .i64 t0,.int .i64 t1] 45)).alloc (.cells #[.int .i64 u0,.int .i64 u1] 45)=w1 at*
    have d0:=kB.out 0 _ rfl;have d1:=kB.out 1 _ rfl;have e0:=Zn.out 0 _ rfl;have e1:=Zn.out 1 _ rfl;go_wp2_with(go_at_call 148;(with_reducible refine(eG sup t0 t1 u0 u1 A c w.heap.size w1 hl HW.out.size HS.out).mono ?_);rintro e w2 ⟨rfl,hb⟩;have HB2:=zH hb;clear hb)
    go_ret;exact⟨rfl,zD HW HB2⟩
abbrev fitF(N:Nat):Value:= .func (.func 177) #[] #[.pointer (some ⟨N,0,none⟩)]
theorem qdx(sup:List Int)(t0 t1 u0 u1:Int)(A:Option Addr)(c N:Nat)(w:World)(hl:sup.length<=1048576)(h:jh w w.heap.size A sup)(hN:N<w.heap.size)(hc:w.cell? ⟨N,0,none⟩=some (.slice A sup.length c)):
  Calls Tryz.prog 177 #[zF t0 t1,zF u0 u1,.pointer (some ⟨N,0,none⟩)] w fun e w'=>e= .returned (.bool (kZ sup (t0,t1) (u0,u1)))/\Below w.heap.size w w':=by
 obtain⟨c1,c2,hb,hz⟩:=LV w t0 t1 u0 u1;have Zn:=zH c1;have kB:=zH c2;have HW:=zH hb;have HS:Hid (jh _ _ A sup):=zH (jh.below_to h hb (zn _));have HC:=zH ((hb.cell (p:=⟨N,0,none⟩) hN).trans hc);clear c1 c2 hb hz h hc;go_enter Tryz.func177,Tryz.ntmps177;go_upto_region 1 with fail
 generalize(w.alloc (.cells #[.int .i64 t0,.int .i64 t1] 45)).alloc (.cells #[.int .i64 u0,.int .i64 u1] 45)=w1 at*
 have d0:=kB.out 0 _ rfl;have d1:=kB.out 1 _ rfl;have e0:=Zn.out 0 _ rfl;have e1:=Zn.out 1 _ rfl;have c0:=HC.out;have qZ:Hid (jh w1 w1.heap.size A sup):=zH (fun i s hs=>by
  obtain⟨ad,e,hb,hc⟩:=HS.out i s hs;exact⟨ad,e,Xp hb HW.out.size,hc⟩)
 go_wp2_with(go_at_call 178;(with_reducible refine(qdw sup t0 t1 u0 u1 A c w1 hl qZ.out).mono ?_);rintro e w2 ⟨rfl,hb⟩;have HB2:=zH hb;clear hb)
 go_ret;exact⟨rfl,zD HW HB2⟩
theorem TV{P:Prop}(h:P:=by
 have e:ofO n=none:=by unfold ofO;rw[Xa];intro g;have:=mo.mp g;omega
 rw[e];clear e;go_enter Tryz.func110,Tryz.ntmps110;go_wp2_with fail
 have hz:=zm.new w [.int .i64 0,.bool true] 168;have k0:=hz.cells 0 _ rfl;have k1:=hz.cells 1 _ rfl;refine Xk (v:=vx none) (by simp[results,Tryz.results110,go_sem,k0,k1]) rfl ⟨rfl,?_⟩;exact zk (w:=w)):P:=h
theorem of_any(n:Int)(w:World):Calls Tryz.prog 110 #[.int .i64 n] w fun e w'=>e= .returned (vx (ofO n))/\Below w.heap.size w w':=by
 by_cases h1:n<= -4611686018427387904
 ·exact TV
 by_cases h2:n >= 4611686018427387904
 ·exact TV
 ·have e:ofO n=some n:=by unfold ofO;rw[Xb];exact mo.mpr (by omega)
  rw[e];clear e;go_enter Tryz.func110,Tryz.ntmps110;go_wp2_with fail
  have hz:=zm.new w [.int .i64 n,.bool false] 168;have k0:=hz.cells 0 _ rfl;have k1:=hz.cells 1 _ rfl;refine Xk (v:=vx (some n)) (by simp[results,Tryz.results110,go_sem,k0,k1]) rfl ⟨rfl,?_⟩;exact zk (w:=w)
theorem mY{n:Int}{r:Option Int}{w:World}(HR:Hid (ofO n=r)):Calls Tryz.prog 110 #[.int .i64 n] w fun e w'=>e= .returned (vx r)/\Below w.heap.size w w':=by
 have H:=of_any n w;rw[HR.out]at H;exact H
set_option maxHeartbeats 800000 in
theorem qgd(a b:Option Int)(ha:ZW a)(hb:ZW b)(w:World):Calls Tryz.prog 109 #[vx a,vx b] w fun e w'=>e= .returned (vx (dn a b))/\Below w.heap.size w w':=by
 cases a with
 |none=>
  have e:dn none b=none:=by cases b<;>rfl
  rw[e];show Calls Tryz.prog 109 #[.agg #[.int .i64 0,.bool true],.agg #[.int .i64 (b.getD 0),.bool b.isNone]] w _;generalize b.getD 0=y;generalize b.isNone=yb;go_enter Tryz.func109,Tryz.ntmps109;go_wp2_with fail
  have hz:=zm.at_ (w:=(w.alloc (.cells #[.int .i64 0,.bool true] 168)).alloc (.cells #[.int .i64 y,.bool yb] 168)) (N:=w.heap.size+1+1) (by simp) [.int .i64 0,.bool true] 168;have k0:=hz.cells 0 _ rfl;have k1:=hz.cells 1 _ rfl;refine Xk (v:=vx none) (by simp[results,Tryz.results109,go_sem,k0,k1]) rfl ⟨rfl,?_⟩;exact((zk (w:=w)).alloc (by simp) _).alloc (by simp;omega) _
 |some x=>cases b with
  |none=>
   show Calls Tryz.prog 109 #[.agg #[.int .i64 x,.bool false],.agg #[.int .i64 0,.bool true]] w (fun e w'=>e= .returned (vx none)/\Below w.heap.size w w');go_enter Tryz.func109,Tryz.ntmps109;go_wp2_with fail
   have hz:=zm.at_ (w:=(w.alloc (.cells #[.int .i64 x,.bool false] 168)).alloc (.cells #[.int .i64 0,.bool true] 168)) (N:=w.heap.size+1+1) (by simp) [.int .i64 0,.bool true] 168;have k0:=hz.cells 0 _ rfl;have k1:=hz.cells 1 _ rfl;refine Xk (v:=vx none) (by simp[results,Tryz.results109,go_sem,k0,k1]) rfl ⟨rfl,?_⟩;exact((zk (w:=w)).alloc (by simp) _).alloc (by simp;omega) _
  |some y=>
   have h1:=mo.mp (ha x rfl);have h2:=mo.mp (hb y rfl);have hw:IntKind.i64.wrap (x+y)=x+y:=IntWalk.i64_in _ (by omega);show Calls Tryz.prog 109 #[.agg #[.int .i64 x,.bool false],.agg #[.int .i64 y,.bool false]] w (fun e w'=>e= .returned (vx (ofO (x+y)))/\Below w.heap.size w w');obtain⟨r,hr⟩:=zj (ofO (x+y));have HR:=zH hr;rw[hr];clear hr ha hb;go_enter Tryz.func109,Tryz.ntmps109;go_wp2_with(first|(go_at_call 110;(with_reducible refine(mY HR).mono ?_);rintro e w9 ⟨rfl,hb⟩;have hW:=(zm.at_ (w:=_) (N:=w.heap.size+1+1) (by simp) [.int .i64 0,.bool false] 168).keep hb (by simp);have HW:=zH hW;have z0:=hW.cells 0 _ rfl;have z1:=hW.cells 1 _ rfl;have f0:=hW.free 0;have f1:=hW.free 1;have HB:=zH (((((zk (w:=w)).alloc (by simp) _).alloc (by simp;omega) _).trans (hb.mono (by simp;omega))));clear hb hW))
   have hz:=(HW.out.set 0 (.int .i64 (r.getD 0))).set 1 (.bool r.isNone);have k0:=hz.cells 0 _ rfl;have k1:=hz.cells 1 _ rfl;refine Xk (v:=vx r) (by simp[results,Tryz.results109,go_sem,k0,k1]) rfl ⟨rfl,?_⟩;exact(HB.out.setCell (p:=⟨w.heap.size+1+1,0,none⟩) (by simp;omega) _).setCell (p:=⟨w.heap.size+1+1,1,none⟩) (by simp;omega) _
theorem qjh{a b r:Option Int}{w:World}(HA:Hid (ZW a))(HB:Hid (ZW b))(HR:Hid (dn a b=r)):Calls Tryz.prog 109 #[vx a,vx b] w fun e w'=>e= .returned (vx r)/\Below w.heap.size w w':=by
 have H:=qgd a b HA.out HB.out w;rw[HR.out]at H;exact H
set_option maxHeartbeats 800000 in
theorem qao(a b:Option Int)(ha:ZW a)(hb:ZW b)(w:World):Calls Tryz.prog 111 #[vx a,vx b] w fun e w'=>e= .returned (vx (Vf a b))/\Below w.heap.size w w':=by
 cases a with
 |none=>
  have e:Vf none b=none:=by cases b<;>rfl
  rw[e];show Calls Tryz.prog 111 #[.agg #[.int .i64 0,.bool true],.agg #[.int .i64 (b.getD 0),.bool b.isNone]] w _;generalize b.getD 0=y;generalize b.isNone=yb;go_enter Tryz.func111,Tryz.ntmps111;go_wp2_with fail
  have hz:=zm.at_ (w:=(w.alloc (.cells #[.int .i64 0,.bool true] 168)).alloc (.cells #[.int .i64 y,.bool yb] 168)) (N:=w.heap.size+1+1) (by simp) [.int .i64 0,.bool true] 168;have k0:=hz.cells 0 _ rfl;have k1:=hz.cells 1 _ rfl;refine Xk (v:=vx none) (by simp[results,Tryz.results111,go_sem,k0,k1]) rfl ⟨rfl,?_⟩;exact((zk (w:=w)).alloc (by simp) _).alloc (by simp;omega) _
 |some x=>cases b with
  |none=>
   show Calls Tryz.prog 111 #[.agg #[.int .i64 x,.bool false],.agg #[.int .i64 0,.bool true]] w (fun e w'=>e= .returned (vx none)/\Below w.heap.size w w');go_enter Tryz.func111,Tryz.ntmps111;go_wp2_with fail
   have hz:=zm.at_ (w:=(w.alloc (.cells #[.int .i64 x,.bool false] 168)).alloc (.cells #[.int .i64 0,.bool true] 168)) (N:=w.heap.size+1+1) (by simp) [.int .i64 0,.bool true] 168;have k0:=hz.cells 0 _ rfl;have k1:=hz.cells 1 _ rfl;refine Xk (v:=vx none) (by simp[results,Tryz.results111,go_sem,k0,k1]) rfl ⟨rfl,?_⟩;exact((zk (w:=w)).alloc (by simp) _).alloc (by simp;omega) _
  |some y=>
   have HX:=zH (ha x rfl);have HY:=zH (hb y rfl);show Calls Tryz.prog 111 #[.agg #[.int .i64 x,.bool false],.agg #[.int .i64 y,.bool false]] w (fun e w'=>e= .returned (vx (ofO (x*y)))/\Below w.heap.size w w');obtain⟨n,hn⟩:=zj (IntKind.i64.wrap (x*y));clear ha hb;by_cases h0:y=0
   ·have hd:(y !=0)=false:=by simp[h0]
    have hr:ofO (x*y)=some 0:=by rw[h0,Int.mul_zero];rfl
    have hn0:n=0:=by rw[<-hn,h0,Int.mul_zero];rfl
    have HR:Hid (ofO n=some 0):=zH (by rw[hn0];rfl);rw[hr];clear hr hn0 h0;go_enter Tryz.func111,Tryz.ntmps111;go_upto_region 4 with fail
    go_quiet (fail)
    go_wp2_with(first|(go_at_call 110;(with_reducible refine(mY HR).mono ?_);rintro e w9 ⟨rfl,hb⟩;have hW:=((zm.at_ (w:=_) (N:=w.heap.size+1+1) (by simp) [.int .i64 0,.bool false] 168).keep (jf (zb (w.heap.size+1+1+1) _) _) (by simp)).keep hb (by simp);have HW:=zH hW;have z0:=hW.cells 0 _ rfl;have z1:=hW.cells 1 _ rfl;have f0:=hW.free 0;have f1:=hW.free 1;have HB:=zH ((jf ((((zk (w:=w)).alloc (by simp) _).alloc (by simp;omega) _)) _).trans (hb.mono (by simp;omega)));clear hb hW))
    have hz:=(HW.out.set 0 (.int .i64 0)).set 1 (.bool false);have k0:=hz.cells 0 _ rfl;have k1:=hz.cells 1 _ rfl;refine Xk (v:=vx (some 0)) (by simp[results,Tryz.results111,go_sem,k0,k1]) rfl ⟨rfl,?_⟩;exact(HB.out.setCell (p:=⟨w.heap.size+1+1,0,none⟩) (by simp;omega) _).setCell (p:=⟨w.heap.size+1+1,1,none⟩) (by simp;omega) _
   ·have hd:(y !=0)=true:=by simp[h0]
    have⟨hq,_⟩:=UC HX.out HY.out h0 hn;have⟨hp1,hp2⟩:=qgx HX.out HY.out h0 hn;obtain⟨q,hqv⟩:=zj (Int.tdiv n y);rw[hqv]at hq hp1 hp2;have hwq:IntKind.i64.wrap q=q:=IntWalk.i64_in _ (by omega);by_cases sW:q=x
    ·have hb:(q !=x)=false:=by simp[sW]
     have hnx:ofO (x*y)=ofO n:=by rw[hp2 sW]
     obtain⟨r,hr⟩:=zj (ofO n);rw[hnx,hr];have HR:=zH hr;have HQ:=zH sW;clear hr hnx hp1 hp2 sW;go_enter Tryz.func111,Tryz.ntmps111;go_upto_region 4 with fail
     go_quiet (fail)
     go_wp2_with(first|(go_at_call 110;(with_reducible refine(mY HR).mono ?_);rintro e w9 ⟨rfl,hb⟩;have hW:=((zm.at_ (w:=_) (N:=w.heap.size+1+1) (by simp) [.int .i64 0,.bool false] 168).keep (jf (zb (w.heap.size+1+1+1) _) _) (by simp)).keep hb (by simp);have HW:=zH hW;have z0:=hW.cells 0 _ rfl;have z1:=hW.cells 1 _ rfl;have f0:=hW.free 0;have f1:=hW.free 1;have HB:=zH ((jf ((((zk (w:=w)).alloc (by simp) _).alloc (by simp;omega) _)) _).trans (hb.mono (by simp;omega)));clear hb hW))
     have hz:=(HW.out.set 0 (.int .i64 (r.getD 0))).set 1 (.bool r.isNone);have k0:=hz.cells 0 _ rfl;have k1:=hz.cells 1 _ rfl;refine Xk (v:=vx r) (by simp[results,Tryz.results111,go_sem,k0,k1]) rfl ⟨rfl,?_⟩;exact(HB.out.setCell (p:=⟨w.heap.size+1+1,0,none⟩) (by simp;omega) _).setCell (p:=⟨w.heap.size+1+1,1,none⟩) (by simp;omega) _
    ·have hb:(q !=x)=true:=by simp[sW]
     have hr:ofO (x*y)=none:=by unfold ofO;rw[hp1 sW];rfl
     rw[hr];clear hr hp1 hp2 sW;go_enter Tryz.func111,Tryz.ntmps111;go_upto_region 4 with fail
     go_quiet (fail)
     go_wp2_with fail
     have hz:=(((zm.at_ (w:=(w.alloc (.cells #[.int .i64 x,.bool false] 168)).alloc (.cells #[.int .i64 y,.bool false] 168)) (N:=w.heap.size+1+1) (by simp) [.int .i64 0,.bool false] 168).keep (jf (zb (w.heap.size+1+1+1) _) nq) (by simp)).set 0 (.int .i64 0)).set 1 (.bool true);have k0:=hz.cells 0 _ rfl;have k1:=hz.cells 1 _ rfl;refine Xk (v:=vx none) (by simp[results,Tryz.results111,go_sem,k0,k1]) rfl ⟨rfl,?_⟩;exact((jf ((((zk (w:=w)).alloc (by simp) _).alloc (by simp;omega) _)) _).setCell (p:=⟨w.heap.size+1+1,0,none⟩) (by simp;omega) _).setCell (p:=⟨w.heap.size+1+1,1,none⟩) (by simp;omega) _
theorem Ev{a b r:Option Int}{w:World}(HA:Hid (ZW a))(HB:Hid (ZW b))(HR:Hid (Vf a b=r)):Calls Tryz.prog 111 #[vx a,vx b] w fun e w'=>e= .returned (vx r)/\Below w.heap.size w w':=by
 have H:=qao a b HA.out HB.out w;rw[HR.out]at H;exact H
def QR(op a b:Int):List Int:=zG op.toNat++((if 0<zX op then zG a.toNat else [])++(if 1<zX op then zG b.toNat else []))
def Qw(rest:List Int)(bad:Bool):(Int×Int×Int)×List Int×Bool:=
 let g:=ql rest bad 34
 let h:=if 0<zX g.1 then ql g.2.1 g.2.2 255 else(0,g.2)
 let k:=if 1<zX g.1 then ql h.2.1 h.2.2 255 else(0,h.2)
 ((g.1,h.1,k.1),k.2)
theorem EQ{n most:Int}(r:List Int)(h0:0<=n)(h1:n<=most)(h2:most<=34359738367):ql (zG n.toNat++r) false most=(n,r,false):=by
 have e:=q7p (n:=n.toNat) r (by omega);have hp:=lT n.toNat
 unfold ql
 grind
theorem EG(rest:List Int)(most:Int):ql rest true most=(0,rest,true):=qjy (.inl rfl)
theorem EH{l r:List Int}{n most:Int}(hl:∀b ∈l,0<=b/\b<=255)(h:ql l false most=(n,r,false)):l=zG n.toNat++r/\0<=n/\n<=most:=by
 unfold ql at h;split at h;all_goals grind [TH,Prod.mk.injEq,Xo,List.take_append_drop]
theorem Wx{op a b:Int}(r:List Int)(h:qs op a b=true):Qw (QR op a b++r) false=((op,a,b),r,false):=by
 obtain⟨o0,o1,a0,a1,b0,b1⟩:=YN h;have h:=uU.mp h;have e0:QR op a b++r=zG op.toNat++((if 0<zX op then zG a.toNat else [])++((if 1<zX op then zG b.toNat else [])++r)):=by simp[QR]
 have g0:=EQ ((if 0<zX op then zG a.toNat else [])++((if 1<zX op then zG b.toNat else [])++r)) (n:=op) (most:=34) (by omega) o1 (by omega);rw[<-e0]at g0;unfold Qw;simp only[g0];by_cases c1:0<zX op
 ·have g1:=EQ ((if 1<zX op then zG b.toNat else [])++r) (n:=a) (most:=255) a0 a1 (by omega);simp only[Xb c1,g1];by_cases c2:1<zX op
  ·have g2:=EQ r (n:=b) (most:=255) b0 b1 (by omega)
   grind
  grind
 grind
theorem qdj{l r:List Int}{op a b:Int}(hl:∀b ∈l,0<=b/\b<=255)(h:Qw l false=((op,a,b),r,false)):l=QR op a b++r/\0<=op/\op<=34/\0<=a/\a<=255/\0<=b/\b<=255/\(op=0\/qs op a b=true):=by
 unfold Qw at h;obtain⟨g,hg⟩:=zj (ql l false 34);rw[hg]at h;obtain⟨n0,r0,b0⟩:=g;dsimp only at h;obtain⟨g1,hg1⟩:=zj ((if 0<zX n0 then ql r0 b0 255 else(0,r0,b0)));rw[hg1]at h;obtain⟨n1,r1,b1⟩:=g1;dsimp only at h;obtain⟨g2,hg2⟩:=zj ((if 1<zX n0 then ql r1 b1 255 else(0,r1,b1)));rw[hg2]at h;obtain⟨n2,r2,b2⟩:=g2;simp only[Prod.mk.injEq]at h;obtain⟨⟨rfl,rfl,rfl⟩,rfl,rfl⟩:=h;have hb1:b1=false:=by
  grind [EG]
 subst hb1;have hb0:b0=false:=by
  grind [EG]
 subst hb0;obtain⟨e0,o0,o1⟩:=EH hl hg;have hl0:∀b ∈r0,0<=b/\b<=255:=(by simp_all)
 have hop:n0=0\/0<=zX n0:=by
  rcases Int.lt_or_le 0 n0 with g|g
  ·exact .inr ((q0d n0).mpr ⟨g,o1⟩)
  omega
 by_cases c1:0<zX n0
 ·rw[Xb c1]at hg1;obtain⟨e1,a0,a1⟩:=EH hl0 hg1;have hl1:∀b ∈r1,0<=b/\b<=255:=(by simp_all)
  by_cases c2:1<zX n0
  ·rw[Xb c2]at hg2;obtain⟨e2,q0,q1⟩:=EH hl1 hg2;refine⟨?_,o0,o1,a0,a1,q0,q1,.inr (uU.mpr (by omega))⟩;unfold QR
   grind
  ·rw[Xa c2]at hg2;simp only[Prod.mk.injEq]at hg2;refine⟨?_,o0,o1,a0,a1,by omega,by omega,.inr (uU.mpr (by omega))⟩;unfold QR
   grind
 ·have c2:¬1<zX n0:=by omega
  rw[Xa c1]at hg1;simp only[Prod.mk.injEq]at hg1;obtain⟨rfl,rfl,_⟩:=hg1;rw[Xa c2]at hg2;simp only[Prod.mk.injEq]at hg2;refine⟨?_,o0,o1,by omega,by omega,by omega,by omega,?_⟩
  ·unfold QR
   grind
  ·rcases hop with g|g
   ·exact .inl g
   ·exact .inr (uU.mpr (by omega))
theorem q74(op a b:Int):∀c ∈QR op a b,0<=c/\c<=255:=by
 intro c hc;unfold QR at hc;rcases Xu.mp hc with h|h
 ·exact QL _ c h
 ·rcases Xu.mp h with h|h
  ·split at h
   ·exact QL _ c h
   ·simp at h
  ·split at h
   ·exact QL _ c h
   ·simp at h
theorem qga{op a b:Int}(h:qs op a b=true):1<=(QR op a b).length/\(QR op a b).length<=5:=by
 obtain⟨o0,o1,a0,a1,b0,b1⟩:=YN h;have l0:=Dx 0 op.toNat (by omega)
 have l1:=Dx 1 a.toNat (by omega)
 have l2:=Dx 1 b.toNat (by omega)
 have p0:=lT op.toNat
 unfold QR
 grind
def Rd(w:World)(N:Nat)(rest:List Int)(bad:Bool):Prop:=
 ∃(A:Option Addr) (cap:Nat) (xs:List Int),w.heap[N]? =some (.cells #[.slice A xs.length cap,.bool bad] 127 (0,0))/\zw w N A (xs.map (Value.int .u8))/\xs.length<=cap/\cap<=9223372036854775807/\(bad=false->xs=rest)
theorem Rd.lt{w:World}{N:Nat}{rest:List Int}{bad:Bool}(h:Rd w N rest bad):N<w.heap.size:=by
 obtain⟨A,cap,xs,hh,_⟩:=h
 grind
theorem Rd.keep{w w':World}{N:Nat}{rest:List Int}{bad:Bool}(h:Rd w N rest bad)(hb:Below w.heap.size w w'):Rd w' N rest bad:=by
 have hlt:=h.lt;obtain⟨A,cap,xs,hh,hl,h1,h2,h3⟩:=h;exact⟨A,cap,xs,by rw[hb.block N hlt];exact hh,hl.below_to hb (by omega),h1,h2,h3⟩
theorem Rd.more{w:World}{N:Nat}{rest rest':List Int}(h:Rd w N rest true):Rd w N rest' true:=by
 obtain⟨A,cap,xs,hh,hl,h1,h2,h3⟩:=h;exact⟨A,cap,xs,hh,hl,h1,h2,fun h=>by cases h⟩
theorem En{w:World}{b:Nat}{u v:Value}{t:TypeId}(h:w.heap[b]? =some (.cells #[u,v] t (0,0))):w.cell? ⟨b,0,none⟩=some u:=by simp[World.cell?,h]
theorem Em{w:World}{b:Nat}{u v:Value}{t:TypeId}(h:w.heap[b]? =some (.cells #[u,v] t (0,0))):w.cell? ⟨b,1,none⟩=some v:=by simp[World.cell?,h]
theorem EI{w:World}{b i:Nat}{u v:Value}{t:TypeId}(h:w.heap[b]? =some (.cells #[u,v] t (0,0))):w.frozen? ⟨b,i,none⟩=false:=by simp[World.frozen?,h]
theorem KY{w:World}{b:Nat}{u v x:Value}{t:TypeId}(h:w.heap[b]? =some (.cells #[u,v] t (0,0))):(w.setCell ⟨b,0,none⟩ x).heap[b]? =some (.cells #[x,v] t (0,0)):=by
 have hlt:=lt_of_block h;have h':w.heap[b]= .cells #[u,v] t (0,0):=by simpa[Array.getElem?_eq_getElem hlt]using h
 show(w.heap.modify b _)[b]? =_;rw[Array.getElem?_eq_getElem (by simpa using hlt),Array.getElem_modify_self,h'];rfl
theorem UI{w:World}{b:Nat}{u v x:Value}{t:TypeId}(h:w.heap[b]? =some (.cells #[u,v] t (0,0))):(w.setCell ⟨b,1,none⟩ x).heap[b]? =some (.cells #[u,x] t (0,0)):=by
 have hlt:=lt_of_block h;have h':w.heap[b]= .cells #[u,v] t (0,0):=by simpa[Array.getElem?_eq_getElem hlt]using h
 show(w.heap.modify b _)[b]? =_;rw[Array.getElem?_eq_getElem (by simpa using hlt),Array.getElem_modify_self,h'];rfl
theorem q3i{w:World}{base e n:Nat}{v:Value}{xs:List Value}(h:w.ownsRow base e 1 v n xs):∃A c,v= .slice A n c/\zw w w.heap.size A xs/\n<=c/\c<=9223372036854775807:=by
 rcases h.2 with⟨rfl,rfl⟩|⟨g,cap,cur,rfl,hb,hh,h1,h2,_⟩
 ·exact⟨none,0,rfl,zw.of_own h,zn _,by omega⟩
 ·exact⟨_,cap,rfl,zw.of_own h,h1,by unfold maxLen at h2;omega⟩
def NewOut(l:List Int)(w:World)(e:Ending)(w':World):Prop:=
 ∃N,e= .returned (.pointer (some ⟨N,0,none⟩))/\w.heap.size<=N/\Rd w' N l false/\Below w.heap.size w w'
theorem qia(l:List Int)(A:Option Addr)(cap B:Nat)(w:World)(hl:l.length<=1048576)(hr:∀b ∈l,0<=b/\b<=255)(hA:A=none->cap=0)(hB:B<=w.heap.size)(h:zw w B A (l.map (Value.int .u8))):
  Calls Tryz.prog 45 #[.slice A l.length cap] w (NewOut l w):=by
 obtain⟨i0,hi,hz0,hz1,hz2⟩:=info_parts mF;have HL:=zH h;have HA:=zH hA;clear h hr hA;go_enter Tryz.func45,Tryz.ntmps45;go_wp2_with(at_builtin;refine IR rfl _ _ 22 rfl w.heap.size 5 i0 (.int .u8 0) 1 Tryz.underlying22 hi hz0 hz1 hz2 rfl _ _ _ rfl (XM _ _ _ _) A l.length cap _ (l.map (Value.int .u8)) (by simp) rfl HA.out HL.out (rC _) (by unfold maxLen;omega) (by omega) (zn _) ?_;intro v2 w2 hown2 hgrow2;obtain⟨A2,c2,rfl,hl2,hc2,hm2⟩:=q3i (qgn hown2);have HL2:=zH hl2;have HB:=zH ((zb w.heap.size w).grown hgrow2 (zn _) (fun k hk=>by cases hk));clear hown2 hgrow2 hl2)
 go_ret;exact⟨w2.heap.size,rfl,HB.out.size,⟨A2,c2,l,Xz _ _,HL2.out.below_to (zk (w:=w2)) (zn _),hc2,hm2,fun _=>rfl⟩,HB.out.alloc HB.out.size _⟩
def Fj(k:IntKind)(N B:Nat)(n:Int)(rest:List Int)(bad:Bool)(w:World)(e:Ending)(w':World):Prop:=
 e= .returned (.int k n)/\Rd w' N rest bad/\Below B w w'
theorem pK(N:Nat)(rest:List Int)(bad:Bool)(w:World)(h:Rd w N rest bad):
  Calls Tryz.prog 80 #[.pointer (some ⟨N,0,none⟩)] w fun e w'=>e= .returned (.bool bad)/\w=w':=by
 obtain⟨A,cap,xs,hh,_⟩:=h;have c1:=Em hh;clear hh;cases bad;all_goals
  go_enter Tryz.func80,Tryz.ntmps80;go_wp2
  go_ret;simp_all
theorem qic(N:Nat)(rest:List Int)(bad:Bool)(w:World)(h:Rd w N rest bad):
  Calls Tryz.prog 47 #[.pointer (some ⟨N,0,none⟩)] w fun e w'=>e= .returned (.bool (!bad&& rest.isEmpty))/\Below w.heap.size w w':=by
 have HR:=zH h;obtain⟨A,cap,xs,hh,hl,h1,h2,h3⟩:=h;have c0:=En hh;clear hh hl;cases bad
 ·obtain rfl:=h3 rfl;clear h3;by_cases hx:xs.length=0
  ·have E:=zH (show xs.isEmpty=true by simpa using hx);have qkz:((xs.length:Int)==0)=true:=by grind
   clear hx;go_enter Tryz.func47,Tryz.ntmps47;go_wp2_with(go_at_call 80;(with_reducible refine(pK _ _ _ _ HR.out).mono ?_);rintro e w' ⟨rfl,rfl⟩)
   go_ret;exact⟨by rw[E.out];rfl,zb _ _⟩
  ·have E:=zH (show xs.isEmpty=false by cases xs with
    |nil=>exact absurd rfl hx
    |cons _ _=>rfl)
   have qkz:((xs.length:Int)==0)=false:=by grind
   clear hx;go_enter Tryz.func47,Tryz.ntmps47;go_wp2_with(go_at_call 80;(with_reducible refine(pK _ _ _ _ HR.out).mono ?_);rintro e w' ⟨rfl,rfl⟩)
   go_ret;exact⟨by rw[E.out];rfl,zb _ _⟩
 ·clear h3;go_enter Tryz.func47,Tryz.ntmps47;go_wp2_with(go_at_call 80;(with_reducible refine(pK _ _ _ _ HR.out).mono ?_);rintro e w' ⟨rfl,rfl⟩)
  go_ret;exact⟨rfl,zb _ _⟩
theorem q0o{w:World}{N n c s:Nat}{A A':Option Addr}{cap:Nat}{xs:List Int}(h:w.heap[N]? =some (.cells #[.slice A xs.length cap,.bool false] 127 (0,0)))(hl:zw w N A (xs.map (Value.int .u8)))
  (hn:n=(xs.drop s).length) (hc:n<=c) (hm:c<=9223372036854775807) (hl':zw w N A' ((xs.drop s).map (Value.int .u8))):Rd (w.setCell ⟨N,0,none⟩ (.slice A' n c)) N (xs.drop s) false:=by
 subst hn;exact⟨A',c,xs.drop s,KY h,hl'.below ((zb N w).setCell (zn _) _),hc,hm,fun _=>rfl⟩
theorem rd_bad{w:World}{N:Nat}{u v:Value}{l:List Int}(h:w.heap[N]? =some (.cells #[u,v] 127 (0,0))):Rd ((w.setCell ⟨N,0,none⟩ (.slice none 0 0)).setCell ⟨N,1,none⟩ (.bool true)) N l true:=
 ⟨none,0,[],UI (KY h),zw.nil,zn _,by omega,fun h=>by cases h⟩
def vO(N:Nat)(w w':World):Prop:=w'.heap.size=w.heap.size/\∀b,b≠N->w'.heap[b]? =w.heap[b]?
theorem vO.refl(N:Nat)(w:World):vO N w w:=⟨rfl,fun _ _=>rfl⟩
theorem vO.trans{N:Nat}{w w1 w2:World}(h:vO N w w1)(g:vO N w1 w2):vO N w w2:=⟨g.1.trans h.1,fun b hb=>(g.2 b hb).trans (h.2 b hb)⟩
theorem vO.setCell{N:Nat}{w w1:World}(h:vO N w w1)(i:Nat)(v:Value):vO N w (w1.setCell ⟨N,i,none⟩ v):=by
 refine⟨by simpa using h.1,fun b hb=>Eq.trans ?_ (h.2 b hb)⟩;show(w1.heap.modify N _)[b]? =_;rw[Array.getElem?_modify,Xa (fun g=>hb g.symm)]
theorem vO.cell{N:Nat}{w w':World}(h:vO N w w'){p:Addr}(hp:p.block≠N):w'.cell? p=w.cell? p:=by
 have e:=h.2 p.block hp;simp[World.cell?,e]
theorem vO.frozen{N:Nat}{w w':World}(h:vO N w w'){p:Addr}(hp:p.block≠N):w'.frozen? p=w.frozen? p:=by
 have e:=h.2 p.block hp;simp[World.frozen?,e]
theorem V9{P:Prop}(h:P:=by
 rw[E.out];go_enter Tryz.func79,Tryz.ntmps79;go_wp2_with(first
  |(go_at_call 80;(with_reducible refine(pK _ _ _ _ HR.out).mono ?_);rintro e w' ⟨rfl,rfl⟩)
  |(go_at_call 124;(with_reducible refine(Kg xs _ _ _ _ h1 h2 HX.out HL.out).mono ?_);rintro e w' ⟨he,rfl⟩;rw[HP.out]at he;subst he))
 go_ret;exact⟨⟨rfl,rd_bad HH.out,((zb B w).setCell HB.out _).setCell HB.out _⟩,((vO.refl N w).setCell _ _).setCell _ _⟩):P:=h
theorem KT(N B:Nat)(rest:List Int)(bad:Bool)(most:Int)(w:World)(hl:rest.length<=1048576)(hr:∀b ∈rest,0<=b/\b<=255)(hBN:B<=N)(h:Rd w N rest bad):
  Calls Tryz.prog 79 #[.pointer (some ⟨N,0,none⟩),.int .i64 most] w fun e w'=>Fj .i64 N B (ql rest bad most).1 (ql rest bad most).2.1 (ql rest bad most).2.2 w e w'/\vO N w w':=by
 have HR:=zH h;have HB:=zH hBN;obtain⟨A,cap,xs,hh,hla,h1,h2,h3⟩:=h;have c0:=En hh;have c1:=Em hh;have f0:w.frozen? ⟨N,0,none⟩=false:=EI hh;have f1:w.frozen? ⟨N,1,none⟩=false:=EI hh;have HH:=zH hh;have HL:=zH hla;clear hh hla hBN;cases bad
 ·obtain rfl:=h3 rfl;have HX:=zH hr;clear h3 hr;obtain⟨p,hp⟩:=zj (vt xs);obtain⟨n,s⟩:=p;have HP:=zH hp;have kh:Hid (0<s->n<34359738368/\s<=xs.length):=(by grind [zH,TH])
  have HZ:Hid (s=0->n=0):=(by grind [zH,qcl])
  clear hp;by_cases h0:s=0
  ·obtain rfl:=HZ.out h0;subst h0;have E:=zH (show ql xs false most=(0,xs,true)by unfold ql;rw[HP.out];simp);exact V9
  ·obtain⟨g1,g2⟩:=kh.out (by omega);have hs1:((s:Int)==0)=false:=by grind
   by_cases hm:(n:Int)<=most
   ·have E:=zH (show ql xs false most=((n:Int),xs.drop s,false)by unfold ql;rw[HP.out];grind);rw[E.out];clear h0;by_cases hcs:cap=s
    ·subst hcs;go_enter Tryz.func79,Tryz.ntmps79;go_wp2_with(first
      |(go_at_call 80;(with_reducible refine(pK _ _ _ _ HR.out).mono ?_);rintro e w' ⟨rfl,rfl⟩)
      |(go_at_call 124;(with_reducible refine(Kg xs _ _ _ _ h1 h2 HX.out HL.out).mono ?_);rintro e w' ⟨he,rfl⟩;rw[HP.out]at he;subst he))
     go_ret;exact⟨⟨rfl,q0o HH.out HL.out (by simp;omega) (zn _) (by omega) (by grind [Wm,zw.nil]),(zb B w).setCell HB.out _⟩,(vO.refl N w).setCell _ _⟩
    ·go_enter Tryz.func79,Tryz.ntmps79;go_wp2_with(first
      |(go_at_call 80;(with_reducible refine(pK _ _ _ _ HR.out).mono ?_);rintro e w' ⟨rfl,rfl⟩)
      |(go_at_call 124;(with_reducible refine(Kg xs _ _ _ _ h1 h2 HX.out HL.out).mono ?_);rintro e w' ⟨he,rfl⟩;rw[HP.out]at he;subst he))
     go_ret;exact⟨⟨rfl,q0o HH.out HL.out (by simp) (by omega) (by omega) (by have:=HL.out.drop_ s;rwa [<-List.map_drop]at this),(zb B w).setCell HB.out _⟩,(vO.refl N w).setCell _ _⟩
   ·have E:=zH (show ql xs false most=(0,xs,true)by unfold ql;rw[HP.out];simp[hm]);exact V9
 ·have E:=zH (show ql rest true most=(0,rest,true)by unfold ql;rw[Xa (by simp)]);rw[E.out];clear h3 hr;go_enter Tryz.func79,Tryz.ntmps79;go_wp2_with(go_at_call 80;(with_reducible refine(pK _ _ _ _ HR.out).mono ?_);rintro e w' ⟨rfl,rfl⟩)
  go_ret;exact⟨⟨rfl,HR.out,zb _ _⟩,vO.refl _ _⟩
section
variable{w:World}{N B:Nat}{rest rest':List Int}{bad bad':Bool}{n most:Int}
theorem LF(HR:Hid (Rd w N rest bad))(E:Hid ((!bad&& rest.isEmpty)=bad')):Calls Tryz.prog 47 #[.pointer (some ⟨N,0,none⟩)] w fun e w'=>e= .returned (.bool bad')/\Below w.heap.size w w':=by
 have h:=qic N rest bad w HR.out;rw[E.out]at h;exact h
end
theorem Sa(rest:List Int)(bad:Bool)(most:Int)(hm:0<=most):0<=(ql rest bad most).1/\(ql rest bad most).1<=most:=by
 unfold ql;split
 ·rename_i h;exact⟨by omega,h.2.2⟩
 ·exact⟨Int.le_refl 0,hm⟩
theorem q39(N B:Nat)(rest:List Int)(bad:Bool)(w:World)(hl:rest.length<=1048576)(hr:∀b ∈rest,0<=b/\b<=255)(hBN:B<=N)(h:Rd w N rest bad):
  Calls Tryz.prog 120 #[.pointer (some ⟨N,0,none⟩)] w fun e w'=>Fj .i32 N B (zag (ql rest bad 4294967295).1) (ql rest bad 4294967295).2.1 (ql rest bad 4294967295).2.2 w e w'/\vO N w w':=by
 obtain⟨r0,r1⟩:=Sa rest bad 4294967295 (by decide);obtain⟨g,hg⟩:=zj (ql rest bad 4294967295);obtain⟨n,rest',bad'⟩:=g;have HC:=zH (KT N B rest bad 4294967295 w hl hr hBN h);rw[hg]at HC r0 r1;rw[hg];dsimp only at HC r0 r1⊢
 clear h hr hg;by_cases hn:n % 2=0
 ·have Z:=zH (show zag n=n / 2 by unfold zag;rw[Xb hn]);have hn':¬n % 2=1:=by omega
  clear hn;go_enter Tryz.func120,Tryz.ntmps120;go_wp2_with(go_at_call 79;(with_reducible refine HC.out.mono ?_);rintro e w' ⟨⟨rfl,hrd,hb⟩,hs⟩;have H1:=zH hrd;have H2:=zH hb;have H3:=zH hs;clear hrd hb hs)
  go_ret;exact⟨⟨Lu (by rw[Z.out]),H1.out,H2.out⟩,H3.out⟩
 ·have Z:=zH (show zag n= -((n+1) / 2)by unfold zag;rw[Xa hn]);have hn':n % 2=1:=by omega
  have hn'':(n % 2==1)=true:=by rw[hn'];rfl
  clear hn hn';go_enter Tryz.func120,Tryz.ntmps120;go_wp2_with(go_at_call 79;(with_reducible refine HC.out.mono ?_);rintro e w' ⟨⟨rfl,hrd,hb⟩,hs⟩;have H1:=zH hrd;have H2:=zH hb;have H3:=zH hs;clear hrd hb hs)
  go_ret;exact⟨⟨Lu (by rw[Z.out];have e:=Int.tdiv_eq_ediv_of_nonneg (a:=n+1) (b:=2) (by omega);rw[e];unfold wrap64 wrap32;omega),H1.out,H2.out⟩,H3.out⟩
