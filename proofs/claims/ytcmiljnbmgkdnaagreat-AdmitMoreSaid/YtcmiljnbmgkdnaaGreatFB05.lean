import Derived.Test.YtcmiljnbmgkdnaaGreatFB04
import Derived.Lib.AppendZeros
namespace Go.Proofs.YtcmiljnbmgkdnaaGreat
set_option maxRecDepth 100000
set_option linter.unusedVariables false
set_option linter.unusedSimpArgs false
open Go.ChangeShapes Go.WideShapes Go.ChangeAt Go.RowKit
set_option maxHeartbeats 1600000 in
theorem q9g(op a b:Int)(w:World):Calls Tryz.prog 36 #[zF op a b] w fun e w'=>e= .returned (.bool (qf op a b))∧Below w.heap.size w w':=by
 obtain⟨n,hn⟩:∃n,zM op=n:=⟨_,rfl⟩
 have hr:=YI op;rw[hn]at hr;have E:=zH (show qf op a b=decide (0≤n∧(1≤n∨a=0)∧(2≤n∨b=0)∧0≤a∧a≤255∧0≤b∧b≤255)by unfold qf;rw[hn]);generalize qf op a b=r at E⊢
 have HN:=zH hn;clear hn;have HBo:=zH ((zb w.heap.size w).alloc (zn _) (.cells #[.int .i64 op,.int .i64 a,.int .i64 b] 55));go_enter Tryz.func36,Tryz.ntmps36;go_wp2_with(go_at_call 42;(with_reducible refine(qb6 _ _).mono ?_);rintro e w1 ⟨rfl,hb⟩;rw[HN.out];obtain⟨c0,c1,c2⟩:=qp6 hb)
 all_goals
  go_ret;refine⟨q6b ?_,HBo.out.trans (hb.mono (by simp))⟩;rw[E.out];rw[XV];simp;try simp only[XC,bne_eq_false_iff_eq,ne_eq]at*
  omega
def qm(L:List (Int×Int))(w:World)(e:Ending)(w':World):Prop:=∃A c,e= .returned (.slice A L.length c)∧ze zc 2 w' w'.heap.size A c L∧Below w.heap.size w w'
def jX(l y:List Int):Int×Int:=match l with
 | []=>(0,0)
 |x::r=>if zX y x then(3,x)else jX r y
def qB(sup:List Int)(k n k' n':Int):Int×Int:=
 if zA sup k n k' n' then(k',n')else if zA sup k' n' k n then(k,n)else if k=3∧k'=3 then jX ((zv sup n).drop 1) (zv sup n')else(0,0)
theorem YM{w w1:World}{o1 o2:Obj}{x y:Value}{T:TypeId}(hb:Below (((w.alloc o1).alloc o2).alloc (.cells #[x,y] T)).heap.size (((w.alloc o1).alloc o2).alloc (.cells #[x,y] T)) w1):
  w1.cell? ⟨w.heap.size+1+1,0,none⟩=some x∧w1.cell? ⟨w.heap.size+1+1,1,none⟩=some y∧w1.frozen? ⟨w.heap.size+1+1,0,none⟩=false∧w1.frozen? ⟨w.heap.size+1+1,1,none⟩=false:=by
 have hs:w.heap.size+1+1<(((w.alloc o1).alloc o2).alloc (.cells #[x,y] T)).heap.size:=by simp
 have e:((w.alloc o1).alloc o2).heap.size=w.heap.size+1+1:=by simp
 refine⟨(hb.cell hs).trans ?_,(hb.cell hs).trans ?_,(hb.frozen hs).trans ?_,(hb.frozen hs).trans ?_⟩
 ·rw[World.cell?_alloc_at _ _ _ _ e.symm];rfl
 ·rw[World.cell?_alloc_at _ _ _ _ e.symm];rfl
 ·exact World.frozen?_alloc_at _ _ _ _ e.symm
 ·exact World.frozen?_alloc_at _ _ _ _ e.symm
def Six(w:World)(N:Nat)(a b c d x y:Value):Prop:=
 w.cell? ⟨N,0,none⟩=some a∧w.cell? ⟨N,1,none⟩=some b∧w.cell? ⟨N+1,0,none⟩=some c∧w.cell? ⟨N+1,1,none⟩=some d∧
  w.cell? ⟨N+1+1,0,none⟩=some x∧w.cell? ⟨N+1+1,1,none⟩=some y∧w.frozen? ⟨N+1+1,0,none⟩=false∧w.frozen? ⟨N+1+1,1,none⟩=false
theorem Six.keep{w w':World}{N C:Nat}{a b c d x y:Value}(h:Six w N a b c d x y)(hb:Below C w w')(hC:N+1+1<C):Six w' N a b c d x y:=by
 obtain⟨h0,h1,h2,h3,h4,h5,h6,h7⟩:=h;exact⟨(hb.cell (show N<C by omega)).trans h0,(hb.cell (show N<C by omega)).trans h1,(hb.cell (show N+1<C by omega)).trans h2,(hb.cell (show N+1<C by omega)).trans h3,
  (hb.cell (show N+1+1<C by omega)).trans h4,(hb.cell (show N+1+1<C by omega)).trans h5,(hb.frozen (show N+1+1<C by omega)).trans h6,(hb.frozen (show N+1+1<C by omega)).trans h7⟩
theorem VV{w w1:World}{x y x' y':Value}{T:TypeId}{o:Obj}(hb:Below (((w.alloc (.cells #[x,y] T)).alloc (.cells #[x',y'] T)).alloc o).heap.size (((w.alloc (.cells #[x,y] T)).alloc (.cells #[x',y'] T)).alloc o) w1):
  w1.cell? ⟨w.heap.size,0,none⟩=some x∧w1.cell? ⟨w.heap.size,1,none⟩=some y∧w1.cell? ⟨w.heap.size+1,0,none⟩=some x'∧w1.cell? ⟨w.heap.size+1,1,none⟩=some y':=by
 have h0:w.heap.size<(((w.alloc (.cells #[x,y] T)).alloc (.cells #[x',y'] T)).alloc o).heap.size:=by simp;omega
 have h1:w.heap.size+1<(((w.alloc (.cells #[x,y] T)).alloc (.cells #[x',y'] T)).alloc o).heap.size:=by simp
 have e:(w.alloc (.cells #[x,y] T)).heap.size=w.heap.size+1:=by simp
 refine⟨(hb.cell h0).trans ?_,(hb.cell h0).trans ?_,(hb.cell h1).trans ?_,(hb.cell h1).trans ?_⟩
 ·rw[World.cell?_alloc_past _ _ _ (by simp;omega),World.cell?_alloc_past _ _ _ (by simp),World.cell?_alloc_at _ _ _ _ rfl];rfl
 ·rw[World.cell?_alloc_past _ _ _ (by simp;omega),World.cell?_alloc_past _ _ _ (by simp),World.cell?_alloc_at _ _ _ _ rfl];rfl
 ·rw[World.cell?_alloc_past _ _ _ (by simp),World.cell?_alloc_at _ _ _ _ e.symm];rfl
 ·rw[World.cell?_alloc_past _ _ _ (by simp),World.cell?_alloc_at _ _ _ _ e.symm];rfl
theorem q8f(m:List Int):∀l:List Int,l.Pairwise (· > ·)→(jX l m=(0,0)∧∀x ∈l,x ∉m)∨∃x,jX l m=(3,x)∧x ∈l∧x ∈m∧∀y ∈l,y ∈m→y≤x
 | [],_=> .inl ⟨rfl,by simp⟩
 |x::r,h=>by
  obtain⟨h1,h2⟩:=List.pairwise_cons.mp h;by_cases hx:x ∈m
  ·refine .inr ⟨x,by simp only[jX];rw[Xb (QV.mpr hx)],XD,hx,fun y hy _=> ?_⟩;rcases XA.mp hy with rfl|hy
   ·omega
   ·have:=h1 y hy;omega
  ·have e:jX (x::r) m=jX r m:=by simp only[jX];rw[Xa (fun g=>hx (QV.mp g))]
   rw[e];rcases q8f m r h2 with⟨h3,h4⟩|⟨z,h3,h4,h5,h6⟩
   ·refine .inl ⟨h3,fun y hy=> ?_⟩;rcases XA.mp hy with rfl|hy
    ·exact hx
    ·exact h4 y hy
   ·refine .inr ⟨z,h3,XF _ h4,h5,fun y hy hm=> ?_⟩;rcases XA.mp hy with rfl|hy
    ·exact absurd hm hx
    ·exact h6 y hy hm
theorem q3s{sup:List Int}{n n':Int}(h1:n' ∉zv sup n)(h2:n ∉zv sup n'):
  (jX ((zv sup n).drop 1) (zv sup n')=(0,0)∧∀x ∈zv sup n,x ∉zv sup n')∨
  ∃x,jX ((zv sup n).drop 1) (zv sup n')=(3,x)∧x ∈zv sup n∧x ∈zv sup n'∧∀y ∈zv sup n,y ∈zv sup n'→y≤x:=by
 by_cases hv:0≤n∧n<sup.length
 ·obtain⟨s,hs⟩:=q3a hv.1 hv.2;have hd:=qml sup n;have e:=q0w hv.1 hs;generalize zv sup n=L at*
  subst e;simp only[List.drop_succ_cons,List.drop_zero];obtain⟨g1,g2⟩:=List.pairwise_cons.mp hd;rcases q8f (zv sup n') _ g2 with⟨h3,h4⟩|⟨z,h3,h4,h5,h6⟩
  ·refine .inl ⟨h3,fun y hy=> ?_⟩;rcases XA.mp hy with rfl|hy
   ·exact h2
   ·exact h4 y hy
  ·refine .inr ⟨z,h3,XF _ h4,h5,fun y hy hm=> ?_⟩;rcases XA.mp hy with rfl|hy
   ·exact absurd hm h2
   ·exact h6 y hy hm
 ·rw[JO (show n<0∨(sup.length:Int)≤n by omega)];exact .inl ⟨rfl,by simp⟩
theorem q8c{sup:List Int}{k n k' n':Int}(ha:q1o sup k n)(hb:q1o sup k' n'):
  ((qB sup k n k' n').1=0∧∀j m,zA sup k n j m=true→zA sup k' n' j m=true→False)∨
  (¬(qB sup k n k' n').1=0∧zA sup k n (qB sup k n k' n').1 (qB sup k n k' n').2=true∧zA sup k' n' (qB sup k n k' n').1 (qB sup k n k' n').2=true∧
   ∀j m,zA sup k n j m=true→zA sup k' n' j m=true→zA sup (qB sup k n k' n').1 (qB sup k n k' n').2 j m=true):=by
 by_cases h1:zA sup k n k' n'=true
 ·have e:qB sup k n k' n'=(k',n'):=by simp only[qB];rw[Xb h1]
  rw[e];have hk:=(VL h1).2;exact .inr ⟨by show ¬k'=0;omega,h1,YK hk hb,fun j m _ g=>g⟩
 ·by_cases h2:zA sup k' n' k n=true
  ·have e:qB sup k n k' n'=(k,n):=by simp only[qB];rw[Xa h1,Xb h2]
   rw[e];have hk:=(VL h2).2;exact .inr ⟨by show ¬k=0;omega,YK hk ha,h2,fun j m g _=>g⟩
  ·by_cases h3:k=3∧k'=3
   ·have e:qB sup k n k' n'=jX ((zv sup n).drop 1) (zv sup n'):=by simp only[qB];rw[Xa h1,Xa h2,Xb h3]
    obtain⟨rfl,rfl⟩:=h3;have a1:n' ∉zv sup n:=fun h=>h1 ((jW ..).mpr (.inr (.inl ⟨rfl,rfl,h⟩)));have a2:n ∉zv sup n':=fun h=>h2 ((jW ..).mpr (.inr (.inl ⟨rfl,rfl,h⟩)));rw[e];rcases q3s a1 a2 with⟨e1,g1⟩|⟨x,e1,g1,g2,g3⟩
    ·rw[e1];refine .inl ⟨rfl,fun j m f g=> ?_⟩;rw[jW]at f g;rcases f with⟨f,_⟩|⟨_,rfl,f⟩|⟨f,_,_⟩
     ·omega
     ·rcases g with⟨g,_⟩|⟨_,_,g⟩|⟨g,_,_⟩
      ·omega
      ·exact g1 m f g
      ·omega
     ·omega
    ·rw[e1];refine .inr ⟨by show ¬(3:Int)=0;decide,(jW ..).mpr (.inr (.inl ⟨rfl,rfl,g1⟩)),(jW ..).mpr (.inr (.inl ⟨rfl,rfl,g2⟩)),fun j m f g=> ?_⟩;rw[jW]at f g;rcases f with⟨f,_⟩|⟨_,rfl,f⟩|⟨f,_,_⟩
     ·omega
     ·rcases g with⟨g,_⟩|⟨_,_,g⟩|⟨g,_,_⟩
      ·omega
      ·exact(jW ..).mpr (.inr (.inl ⟨rfl,rfl,qmk g1 f (g3 m f g)⟩))
      ·omega
     ·omega
   ·have e:qB sup k n k' n'=(0,0):=by simp only[qB];rw[Xa h1,Xa h2,Xa h3]
    rw[e];refine .inl ⟨rfl,fun j m f g=> ?_⟩;rw[jW]at f g h1 h2;rcases f with⟨rfl,f⟩|⟨rfl,rfl,f⟩|⟨f,rfl,rfl⟩
    ·rcases g with⟨rfl,g⟩|⟨rfl,rfl,g⟩|⟨g,rfl,rfl⟩
     ·exact h1 (.inl ⟨rfl,by omega⟩)
     ·exact h1 (.inl ⟨rfl,by omega⟩)
     ·exact h1 (.inl ⟨rfl,f⟩)
    ·rcases g with⟨rfl,g⟩|⟨rfl,_,g⟩|⟨g,rfl,rfl⟩
     ·exact h2 (.inl ⟨rfl,by omega⟩)
     ·exact h3 ⟨rfl,rfl⟩
     ·omega
    ·exact h2 (g)
theorem qle(k n cap:Nat)(ad:Addr)(x y z:Int)(w:World)(hk:k<n)(hn:n≤9223372036854775807)(hab:ad.block<w.heap.size)
  (r0:w.cell? (ad.add (k*3))=some (.int .i64 x)) (r1:w.cell? (zf (ad.add (k*3)) 1)=some (.int .i64 y)) (r2:w.cell? (zf (ad.add (k*3)) 2)=some (.int .i64 z)):
  Calls Tryz.prog 135 #[.slice (some ad) n cap,.int .i64 k] w fun e w'=>e= .returned (.tuple #[zF x y z,.bool true])∧Below w.heap.size w w':=by
 have HW:=zH ((zb w.heap.size w).alloc (zn _) (.cells #[.int .i64 0,.int .i64 0,.int .i64 0] 55));have r0:=(HW.out.cell (p:=ad.add (k*3)) (by rw[zu];exact hab)).trans r0;have r1:=(HW.out.cell (p:=zf (ad.add (k*3)) 1) (by show(ad.add _).block<_;rw[zu];exact hab)).trans r1;have r2:=(HW.out.cell (p:=zf (ad.add (k*3)) 2) (by show(ad.add _).block<_;rw[zu];exact hab)).trans r2;go_enter Tryz.func135,Tryz.ntmps135;go_wp2
 exact Xl (v:= .tuple #[zF x y z,.bool true]) (by simp[results,Tryz.results135,go_sem]) rfl ⟨rfl,(zb _ _).alloc (zn _) _⟩
theorem q9s{P:Prop}(h:P:=by
 go_enter Tryz.func135,Tryz.ntmps135;go_wp2
 exact Xl (v:= .tuple #[zF 0 0 0,.bool false]) (by simp[results,Tryz.results135,go_sem]) rfl ⟨rfl,((zb _ _).alloc (zn _) _).alloc (by simp) _⟩):P:=h
theorem qc3(k:Int)(n cap:Nat)(A:Option Addr)(w:World)(hn:n≤9223372036854775807)(hk:k<0∨(n:Int)≤k):
  Calls Tryz.prog 135 #[.slice A n cap,.int .i64 k] w fun e w'=>e= .returned (.tuple #[zF 0 0 0,.bool false])∧Below w.heap.size w w':=by
 by_cases h0:k<0
 ·clear hk;exact q9s
 ·have h1:(n:Int)≤k:=by omega
  have h2:0≤k:=by omega
  clear hk h0;exact q9s
theorem qlb(k n cap:Nat)(ad:Addr)(x y:Int)(w:World)(hk:k<n)(hn:n≤9223372036854775807)(hab:ad.block<w.heap.size)
  (r0:w.cell? (ad.add (k*2))=some (.int .i64 x)) (r1:w.cell? (zf (ad.add (k*2)) 1)=some (.int .i64 y)):
  Calls Tryz.prog 196 #[.slice (some ad) n cap,.int .i64 k] w fun e w'=>e= .returned (.tuple #[zU x y,.bool true])∧Below w.heap.size w w':=by
 have HW:=zH ((zb w.heap.size w).alloc (zn _) (.cells #[.int .i64 0,.int .i64 0] 50));have r0:=(HW.out.cell (p:=ad.add (k*2)) (by rw[zu];exact hab)).trans r0;have r1:=(HW.out.cell (p:=zf (ad.add (k*2)) 1) (by show(ad.add _).block<_;rw[zu];exact hab)).trans r1;go_enter Tryz.func196,Tryz.ntmps196;go_wp2
 exact Xl (v:= .tuple #[zU x y,.bool true]) (by simp[results,Tryz.results196,go_sem]) rfl ⟨rfl,(zb _ _).alloc (zn _) _⟩
theorem qi2(k n cap:Nat)(ad:Addr)(A0 A1 A4 A7:Option Addr)(n0 c0 n1 c1 n4 c4 n7 c7:Nat)(u2 u3 u5 u6:Int)(w:World)(hk:k<n)(hn:n≤9223372036854775807)(hab:ad.block<w.heap.size)
  (r0:w.cell? (ad.add (k*8))=some (.slice A0 n0 c0)) (r1:w.cell? (zf (ad.add (k*8)) 1)=some (.slice A1 n1 c1)) (r2:w.cell? (zf (ad.add (k*8)) 2)=some (.int .i64 u2)) (r3:w.cell? (zf (ad.add (k*8)) 3)=some (.int .i64 u3)) (r4:w.cell? (zf (ad.add (k*8)) 4)=some (.slice A4 n4 c4)) (r5:w.cell? (zf (ad.add (k*8)) 5)=some (.int .i64 u5)) (r6:w.cell? (zf (ad.add (k*8)) 6)=some (.int .i64 u6)) (r7:w.cell? (zf (ad.add (k*8)) 7)=some (.slice A7 n7 c7)):
  Calls Tryz.prog 134 #[.slice (some ad) n cap,.int .i64 k] w fun e w'=>e= .returned (.tuple #[.agg #[.slice A0 n0 c0,.slice A1 n1 c1,.int .i64 u2,.int .i64 u3,.slice A4 n4 c4,.int .i64 u5,.int .i64 u6,.slice A7 n7 c7],.bool true])∧Below w.heap.size w w':=by
 have HW:=zH ((zb w.heap.size w).alloc (zn _) (.cells #[.slice none 0 0,.slice none 0 0,.int .i64 0,.int .i64 0,.slice none 0 0,.int .i64 0,.int .i64 0,.slice none 0 0] 53));have r0:=(HW.out.cell (p:=ad.add (k*8)) (by rw[zu];exact hab)).trans r0;have r1:=(HW.out.cell (p:=zf (ad.add (k*8)) 1) (by show(ad.add _).block<_;rw[zu];exact hab)).trans r1;have r2:=(HW.out.cell (p:=zf (ad.add (k*8)) 2) (by show(ad.add _).block<_;rw[zu];exact hab)).trans r2;have r3:=(HW.out.cell (p:=zf (ad.add (k*8)) 3) (by show(ad.add _).block<_;rw[zu];exact hab)).trans r3;have r4:=(HW.out.cell (p:=zf (ad.add (k*8)) 4) (by show(ad.add _).block<_;rw[zu];exact hab)).trans r4;have r5:=(HW.out.cell (p:=zf (ad.add (k*8)) 5) (by show(ad.add _).block<_;rw[zu];exact hab)).trans r5;have r6:=(HW.out.cell (p:=zf (ad.add (k*8)) 6) (by show(ad.add _).block<_;rw[zu];exact hab)).trans r6;have r7:=(HW.out.cell (p:=zf (ad.add (k*8)) 7) (by show(ad.add _).block<_;rw[zu];exact hab)).trans r7;go_enter Tryz.func134,Tryz.ntmps134;go_wp2
 exact Xl (v:= .tuple #[.agg #[.slice A0 n0 c0,.slice A1 n1 c1,.int .i64 u2,.int .i64 u3,.slice A4 n4 c4,.int .i64 u5,.int .i64 u6,.slice A7 n7 c7],.bool true]) (by simp[results,Tryz.results134,go_sem]) rfl ⟨rfl,(zb _ _).alloc (zn _) _⟩
theorem q9t{P:Prop}(h:P:=by
 go_enter Tryz.func134,Tryz.ntmps134;go_wp2
 exact Xl (v:= .tuple #[.agg #[.slice none 0 0,.slice none 0 0,.int .i64 0,.int .i64 0,.slice none 0 0,.int .i64 0,.int .i64 0,.slice none 0 0],.bool false]) (by simp[results,Tryz.results134,go_sem]) rfl ⟨rfl,((zb _ _).alloc (zn _) _).alloc (by simp) _⟩):P:=h
theorem qld(k:Int)(n cap:Nat)(A:Option Addr)(w:World)(hn:n≤9223372036854775807)(hk:k<0∨(n:Int)≤k):
  Calls Tryz.prog 134 #[.slice A n cap,.int .i64 k] w fun e w'=>e= .returned (.tuple #[.agg #[.slice none 0 0,.slice none 0 0,.int .i64 0,.int .i64 0,.slice none 0 0,.int .i64 0,.int .i64 0,.slice none 0 0],.bool false])∧Below w.heap.size w w':=by
 by_cases h0:k<0
 ·clear hk;exact q9t
 ·have h1:(n:Int)≤k:=by omega
  have h2:0≤k:=by omega
  clear hk h0;exact q9t
theorem qlc(k n cap:Nat)(ad:Addr)(hx:qx)(x:zh)(w:World)(hk:k<n)(hn:n≤9223372036854775807)(hab:ad.block<w.heap.size)(hc:Vt w (ad.add (k*8)) hx x):
  Calls Tryz.prog 134 #[.slice (some ad) n cap,.int .i64 k] w fun e w'=>e= .returned (.tuple #[kn hx x,.bool true])∧Below w.heap.size w w':=
 qi2 k n cap ad _ _ _ _ _ _ _ _ _ _ _ _ _ _ _ _ w hk hn hab hc.c0 hc.c1 hc.c2 hc.c3 hc.c4 hc.c5 hc.c6 hc.c7
theorem VR{m:za}{h:zi}{w0 w:World}{f:Nat}{x:zh}(HI:Hid (zm w0 w0.heap.size h m))(HX:Hid (Below w0.heap.size w0 w))(hx:m.methods[f]? =some x):
  Calls Tryz.prog 134 #[.slice h.A3 m.methods.length h.c3,.int .i64 f] w fun e w'=>∃hn,e= .returned (.tuple #[kn hn x,.bool true])∧jt w' w'.heap.size hn x∧Below w.heap.size w w':=by
 have H:=HI.out.now HX.out;have hf:f<m.methods.length:=by
  rcases Xk f m.methods.length with g|g
  ·exact g
  ·rw[Xv g]at hx;cases hx
 rw[Xc hf]at hx;injection hx with hx;subst hx;obtain⟨ad,hn,e,hb,hm,hc⟩:=Qe H hf;rw[e];have h1:=H.methods.le;have h2:=H.methods.cap;refine(qlc f _ _ ad hn _ w hf (by omega) hb hc).mono ?_;rintro e w' ⟨rfl,hw⟩;exact⟨hn,rfl,hm.now hw,hw⟩
theorem q5s{l:List (Int×Int)}{A:Option Addr}{cap:Nat}{w:World}{k:Nat}{t:Int×Int}(H:ze zc 2 w w.heap.size A cap l)(ht:l[k]? =some t):
  Calls Tryz.prog 196 #[.slice A l.length cap,.int .i64 k] w fun e w'=>e= .returned (.tuple #[zU t.1 t.2,.bool true])∧Below w.heap.size w w':=by
 have hk:k<l.length:=by
  rcases Xk k l.length with g|g
  ·exact g
  ·rw[Xv g]at ht;cases ht
 rw[Xc hk]at ht;injection ht with ht;subst ht;obtain⟨ad,rfl,hb,h0,h1⟩:=H.row.at_ hk;have g1:=H.le;have g2:=H.cap;exact qlb k _ _ ad _ _ w hk (by omega) hb h0 h1
theorem qpv{l:List (Int×Int×Int)}{A:Option Addr}{cap:Nat}{w:World}{k:Nat}{t:Int×Int×Int}(H:ze qi 3 w w.heap.size A cap l)(ht:l[k]? =some t):
  Calls Tryz.prog 135 #[.slice A l.length cap,.int .i64 k] w fun e w'=>e= .returned (.tuple #[zF t.1 t.2.1 t.2.2,.bool true])∧Below w.heap.size w w':=by
 have hk:k<l.length:=by
  rcases Xk k l.length with g|g
  ·exact g
  ·rw[Xv g]at ht;cases ht
 rw[Xc hk]at ht;injection ht with ht;subst ht;obtain⟨ad,rfl,hb,h0,h1,h2⟩:=H.row.at_ hk;have g1:=H.le;have g2:=H.cap;exact qle k _ _ ad _ _ _ w hk (by omega) hb h0 h1 h2
abbrev qu(h:zi)(m:za)(op a b:Int)(w:World):World:=(w.alloc (zg h m)).alloc (.cells #[.int .i64 op,.int .i64 a,.int .i64 b] 55)
structure q7n(w1:World)(N:Nat)(h:zi)(m:za)(op a b:Int):Prop where
 img:Zy w1 N h m
 ins:zW w1 (N+1) [.int .i64 op,.int .i64 a,.int .i64 b]
 size:w1.heap.size=N+1+1
theorem q59(h:zi)(m:za)(op a b:Int)(w:World):Below w.heap.size w (qu h m op a b w)∧q7n (qu h m op a b w) w.heap.size h m op a b:=by
 have z0:(w.alloc (zg h m)).heap.size=w.heap.size+1:=by simp
 obtain⟨c1,z1,b1⟩:=Qs z0 [.int .i64 op,.int .i64 a,.int .i64 b] 55;exact⟨((zb w.heap.size w).alloc (zn _) (zg h m)).trans (b1.mono (by omega)),(ql w h m).keep b1 (by omega),c1,z1⟩
theorem q7n.keep{w w':World}{N:Nat}{h:zi}{m:za}{op a b:Int}(H:q7n w N h m op a b)(hb:Below w.heap.size w w'):Zy w' N h m∧zW w' (N+1) [.int .i64 op,.int .i64 a,.int .i64 b]:=
 ⟨H.img.keep hb (by have:=H.size;omega),H.ins.keep hb (by have:=H.size;omega)⟩
abbrev Yc(h:zi)(m:za)(op a b:Int)(w:World):World:=(qu h m op a b w).alloc (.cells #[.int .i64 0,.int .i64 0] 50)
structure qu6(w1:World)(N:Nat)(h:zi)(m:za)(op a b:Int):Prop where
 img:Zy w1 N h m
 ins:zW w1 (N+1) [.int .i64 op,.int .i64 a,.int .i64 b]
 res:zd w1 (N+1+1) [.int .i64 0,.int .i64 0] 50
 size:w1.heap.size=N+1+1+1
theorem q4c(h:zi)(m:za)(op a b:Int)(w:World):Below w.heap.size w (Yc h m op a b w)∧qu6 (Yc h m op a b w) w.heap.size h m op a b:=by
 obtain⟨h0,h1⟩:=q59 h m op a b w;obtain⟨c1,z1,b1⟩:=Qs h1.size [.int .i64 0,.int .i64 0] 50;exact⟨h0.trans (b1.mono (by omega)),h1.img.keep b1 (by omega),h1.ins.keep b1 (by omega),zd.at_ h1.size _ _,z1⟩
theorem q6v{w0 w1 w:World}{N:Nat}{x y:Int}(hb0:Below N w0 w1)(hb:Below w1.heap.size w1 w)(hN:N+1+1<w1.heap.size)(hw:zd w1 (N+1+1) [.int .i64 0,.int .i64 0] 50):
  ((w.setCell ⟨N+1+1,0,none⟩ (.int .i64 x)).setCell ⟨N+1+1,1,none⟩ (.int .i64 y)).cell? ⟨N+1+1,0,none⟩=some (.int .i64 x)∧((w.setCell ⟨N+1+1,0,none⟩ (.int .i64 x)).setCell ⟨N+1+1,1,none⟩ (.int .i64 y)).cell? ⟨N+1+1,1,none⟩=some (.int .i64 y)∧
  Below N w0 ((w.setCell ⟨N+1+1,0,none⟩ (.int .i64 x)).setCell ⟨N+1+1,1,none⟩ (.int .i64 y)):=by
 have h:=((hw.keep hb (by omega)).set 0 (.int .i64 x)).set 1 (.int .i64 y);exact⟨h.cells 0 _ rfl,h.cells 1 _ rfl,((hb0.trans (hb.mono (by omega))).setCell (p:=⟨N+1+1,0,none⟩) (by show N≤N+1+1;omega) _).setCell (p:=⟨N+1+1,1,none⟩) (by show N≤N+1+1;omega) _⟩
theorem qpw(m:za)(f:Nat)(x:zh)(h:zi)(w:World)(H:zm w w.heap.size h m)(hx:m.methods[f]? =some x):
  Calls Tryz.prog 175 #[zp h m,.int .i64 f] w (qm x.args w):=by
 have HW:=zH ((zb w.heap.size w).alloc (zn _) (zg h m));have HI:=zH (H.now HW.out);have HBX:=zH (ql w h m);clear H;go_enter Tryz.func175,Tryz.ntmps175;go_upto_region 1 with fail
 generalize w.alloc (zg h m)=w1 at*
 obtain⟨q0,q1,q2,q3,q4,q5,q6⟩:=HBX.out;have HX0:Hid (Below w1.heap.size w1 w1):=zH (zb _ _);go_upto_region 2 with(go_at_call 134;(with_reducible refine(VR HI HX0 hx).mono ?_);rintro e w2 ⟨hn,rfl,hm,hb⟩;have HM2:=zH hm;have HB2:=zH hb;clear hm hb)
 have HC:=zH (qr w2 (qb hn x) 53);have HA:Hid (Below w2.heap.size w2 (w2.alloc (.cells (qb hn x).toArray 53))):=zH ((zb _ _).alloc (zn _) _);have HM3:=zH (HM2.out.now HA.out);have HW3:=zH (HW.out.trans ((HB2.out.trans (HA.out.mono HB2.out.size)).mono HW.out.size));generalize w2.alloc (.cells (qb hn x).toArray 53)=w3 at*
 have c0:=HC.out 0 _ rfl;go_wp2_with fail
 go_ret;exact⟨_,_,rfl,HM3.out.args,HW3.out⟩
theorem qdm{m:za}{h:zi}{w0 w:World}{f:Nat}{x:zh}(HI:Hid (zm w0 w0.heap.size h m))(HX:Hid (Below w0.heap.size w0 w))(hx:m.methods[f]? =some x):
  Calls Tryz.prog 175 #[zp h m,.int .i64 f] w (qm x.args w):=qpw m f x h w (HI.out.now HX.out) hx
theorem qhw(m:za)(f:Nat)(x:zh)(h:zi)(w:World)(H:zm w w.heap.size h m)(hx:m.methods[f]? =some x):
  Calls Tryz.prog 178 #[zp h m,.int .i64 f] w (qm (jO x) w):=by
 have HW:=zH ((zb w.heap.size w).alloc (zn _) (zg h m));have HI:=zH (H.now HW.out);have HBX:=zH (ql w h m);have HLE:=zH hx;clear H hx;by_cases h5:x.ret.1=5
 ·have e:jO x=[]:=by unfold jO;rw[Xb h5]
  rw[e];have H5:=zH h5;clear e h5;go_enter Tryz.func178,Tryz.ntmps178;go_upto_region 1 with fail
  generalize w.alloc (zg h m)=w1 at*
  obtain⟨q0,q1,q2,q3,q4,q5,q6⟩:=HBX.out;have HX0:Hid (Below w1.heap.size w1 w1):=zH (zb _ _);go_upto_region 2 with(go_at_call 134;(with_reducible refine(VR HI HX0 HLE.out).mono ?_);rintro e w2 ⟨hn,rfl,hm,hb⟩;have HM2:=zH hm;have HB2:=zH hb;clear hm hb)
  have HC:=zH (qr w2 (qb hn x) 53);have HA:Hid (Below w2.heap.size w2 (w2.alloc (.cells (qb hn x).toArray 53))):=zH ((zb _ _).alloc (zn _) _);have HZ:Hid (w2.heap.size<(w2.alloc (.cells (qb hn x).toArray 53)).heap.size):=zH (by simp);have HW3:=zH (HW.out.trans ((HB2.out.trans (HA.out.mono HB2.out.size)).mono HW.out.size));generalize w2.alloc (.cells (qb hn x).toArray 53)=w3 at*
  have c2:=HC.out 2 _ rfl;have c3:=HC.out 3 _ rfl;have hz:=HZ.out;rw[H5.out]at c2;go_wp2_with fail
  go_ret;exact⟨none,0,rfl,kv,HW3.out⟩
 ·have e:jO x=[x.ret]:=by unfold jO;rw[Xa h5]
  rw[e];clear e;go_enter Tryz.func178,Tryz.ntmps178;go_upto_region 1 with fail
  generalize w.alloc (zg h m)=w1 at*
  obtain⟨q0,q1,q2,q3,q4,q5,q6⟩:=HBX.out;have HX0:Hid (Below w1.heap.size w1 w1):=zH (zb _ _);go_upto_region 2 with(go_at_call 134;(with_reducible refine(VR HI HX0 HLE.out).mono ?_);rintro e w2 ⟨hn,rfl,hm,hb⟩;have HM2:=zH hm;have HB2:=zH hb;clear hm hb)
  have HC:=zH (qr w2 (qb hn x) 53);have HA:Hid (Below w2.heap.size w2 (w2.alloc (.cells (qb hn x).toArray 53))):=zH ((zb _ _).alloc (zn _) _);have HZ:Hid (w2.heap.size<(w2.alloc (.cells (qb hn x).toArray 53)).heap.size):=zH (by simp);have HW3:=zH (HW.out.trans ((HB2.out.trans (HA.out.mono HB2.out.size)).mono HW.out.size));generalize w2.alloc (.cells (qb hn x).toArray 53)=w3 at*
  have c2:=HC.out 2 _ rfl;have c3:=HC.out 3 _ rfl;have hz:=HZ.out;go_wp2_with fail
  go_ret;refine⟨_,_,rfl,Vk (by simp;try omega) (by go_simp) (by go_simp),HW3.out.trans ((zb _ _).alloc (HW3.out.size) _)⟩
theorem q52{m:za}{h:zi}{w0 w:World}{f:Nat}{x:zh}(HI:Hid (zm w0 w0.heap.size h m))(HX:Hid (Below w0.heap.size w0 w))(hx:m.methods[f]? =some x):
  Calls Tryz.prog 178 #[zp h m,.int .i64 f] w (qm (jO x) w):=qhw m f x h w (HI.out.now HX.out) hx
theorem qpk(m:za)(op a b:Int)(k:Nat)(h:zi)(w:World)(H:zm w w.heap.size h m)(hs:jP m.classes a b=some (k:Int)):
  Calls Tryz.prog 177 #[zp h m,zF op a b] w fun e w'=>e= .returned (.int .i64 k)∧Below w.heap.size w w':=by
 obtain⟨hw,hp⟩:=q59 h m op a b w;have HW:=zH hw;have HP:=zH hp;have HI:=zH (H.now hw);have HS:=zH hs;clear hw hp H hs;go_enter Tryz.func177,Tryz.ntmps177;go_upto_region 1 with fail
 change Code.wp _ _ _ _ (qu h m op a b w);generalize qu h m op a b w=w1 at*
 obtain⟨q0,q1,q2,q3,q4,q5,q6⟩:=HP.out.img;have o1:=HP.out.ins 1 _ rfl;have o2:=HP.out.ins 2 _ rfl;have HX0:Hid (Below w1.heap.size w1 w1):=zH (zb _ _);go_wp2_with(go_at_call 198;(with_reducible refine(q6j HI HX0 HS).mono ?_);rintro e w2 ⟨rfl,hb⟩;have HB2:=zH hb;clear hb;dsimp only[Option.getD,Option.isSome])
 go_ret;exact⟨rfl,HW.out.trans (HB2.out.mono HW.out.size)⟩
theorem qdh{m:za}{h:zi}{w0 w:World}{op a b:Int}{k:Nat}(HI:Hid (zm w0 w0.heap.size h m))(HX:Hid (Below w0.heap.size w0 w))(HS:Hid (jP m.classes a b=some (k:Int))):
  Calls Tryz.prog 177 #[zp h m,zF op a b] w fun e w'=>e= .returned (.int .i64 k)∧Below w.heap.size w w':=qpk m op a b k h w (HI.out.now HX.out) HS.out
theorem qhv(m:za)(op b:Int)(j:Nat)(t:Int×Int)(h:zi)(w:World)(H:zm w w.heap.size h m)(hs:m.statics[j]? =some t):
  Calls Tryz.prog 174 #[zp h m,zF op j b] w fun e w'=>e= .returned (zU t.1 t.2)∧Below w.heap.size w w':=by
 obtain⟨hw,hp⟩:=q4c h m op j b w;have HW:=zH hw;have HP:=zH hp;have HI:=zH (H.now hw);have HS:=zH hs;clear hw hp H hs;go_enter Tryz.func174,Tryz.ntmps174;go_upto_region 1 with fail
 change Code.wp _ _ _ _ (Yc h m op j b w);generalize Yc h m op j b w=w1 at*
 obtain⟨q0,q1,q2,q3,q4,q5,q6⟩:=HP.out.img;have o1:=HP.out.ins 1 _ rfl;go_upto_region 2 with(go_at_call 196;(with_reducible refine(q5s HI.out.statics HS.out).mono ?_);rintro e w2 ⟨rfl,hb⟩;have HB2:=zH hb;clear hb)
 have hA:Below w2.heap.size w2 (w2.alloc (.cells #[.int .i64 t.1,.int .i64 t.2] 50)):=(zb _ _).alloc (zn _) _;have HC:=zH (qr w2 [.int .i64 t.1,.int .i64 t.2] 50);have HB3:=zj HB2 hA;clear hA;generalize w2.alloc (.cells #[.int .i64 t.1,.int .i64 t.2] 50)=w3 at*
 have c0:=HC.out 0 _ rfl;have c1:=HC.out 1 _ rfl;have hq:=HP.out.res.keep HB3.out HP.out.res.lt;have f0:=hq.free 0;have f1:=hq.free 1;have r0:=hq.cells 0 _ rfl;have r1:=hq.cells 1 _ rfl;clear hq;go_wp2_with fail
 obtain⟨d0,d1,db⟩:=q6v (x:=t.1) (y:=t.2) HW.out HB3.out HP.out.res.lt HP.out.res;exact Xl (v:=zU t.1 t.2) (by simp[results,Tryz.results174,go_sem,d0,d1]) rfl ⟨rfl,db⟩
theorem qa0{m:za}{h:zi}{w0 w:World}{op b:Int}{j:Nat}{t:Int×Int}(HI:Hid (zm w0 w0.heap.size h m))(HX:Hid (Below w0.heap.size w0 w))(HS:Hid (m.statics[j]? =some t)):
  Calls Tryz.prog 174 #[zp h m,zF op j b] w fun e w'=>e= .returned (zU t.1 t.2)∧Below w.heap.size w w':=qhv m op b j t h w (HI.out.now HX.out) HS.out
theorem ql1(m:za)(op a b:Int)(f:Nat)(x:zh)(t:Int×Int)(h:zi)(w:World)(H:zm w w.heap.size h m)(hx:m.methods[f]? =some x)(hs:a≤9223372036854775807)(ht:qM x a=t):
  Calls Tryz.prog 172 #[zp h m,zF op a b,.int .i64 f] w fun e w'=>e= .returned (zU t.1 t.2)∧Below w.heap.size w w':=by
 subst ht;obtain⟨hw,hp⟩:=q4c h m op a b w;have HW:=zH hw;have HP:=zH hp;have HI:=zH (H.now hw);have HLE:=zH hx;clear hw hp H hx;go_enter Tryz.func172,Tryz.ntmps172;go_upto_region 1 with fail
 change Code.wp _ _ _ _ (Yc h m op a b w);generalize Yc h m op a b w=w1 at*
 obtain⟨q0,q1,q2,q3,q4,q5,q6⟩:=HP.out.img;have HX0:Hid (Below w1.heap.size w1 w1):=zH (zb _ _);go_upto_region 2 with(go_at_call 134;(with_reducible refine(VR HI HX0 HLE.out).mono ?_);rintro e w2 ⟨hn,rfl,hm,hb⟩;have HM2:=zH hm;have HB2:=zH hb;clear hm hb)
 have HC:=zH (qr w2 (qb hn x) 53);have HA:Hid (Below w2.heap.size w2 (w2.alloc (.cells (qb hn x).toArray 53))):=zH ((zb _ _).alloc (zn _) _);have HM3:=zH (HM2.out.now HA.out);have HB3:=zH (HB2.out.trans (HA.out.mono HB2.out.size));generalize w2.alloc (.cells (qb hn x).toArray 53)=w3 at*
 obtain⟨c0,c1,c2,c3,c4,c5,c6,c7⟩:=zY HC.out;have o1:=(HP.out.ins.keep HB3.out (by have:=HP.out.size;omega)) 1 _ rfl;clear HC;go_wp2_with(go_at_call 195;(with_reducible refine(qm0 x a hs hn w3 HM3.out).mono ?_);rintro e w4 ⟨rfl,hb⟩;have HB4:=zj HB3 hb;have hq:=HP.out.res.keep HB4.out HP.out.res.lt;have f0:=hq.free 0;have f1:=hq.free 1;have r0:=hq.cells 0 _ rfl;have r1:=hq.cells 1 _ rfl;clear hq hb)
 generalize qM x a=t at*
 obtain⟨d0,d1,db⟩:=q6v (x:=t.1) (y:=t.2) HW.out HB4.out HP.out.res.lt HP.out.res;exact Xl (v:=zU t.1 t.2) (by simp[results,Tryz.results172,go_sem,d0,d1]) rfl ⟨rfl,db⟩
theorem qc1{m:za}{h:zi}{w0 w:World}{op a b:Int}{f:Nat}{x:zh}{t:Int×Int}(HI:Hid (zm w0 w0.heap.size h m))(HX:Hid (Below w0.heap.size w0 w))(hx:m.methods[f]? =some x)(hs:a≤9223372036854775807)(HT:Hid (qM x a=t)):
  Calls Tryz.prog 172 #[zp h m,zF op a b,.int .i64 f] w fun e w'=>e= .returned (zU t.1 t.2)∧Below w.heap.size w w':=ql1 m op a b f x t h w (HI.out.now HX.out) hx hs HT.out
def jm(a k:Int):Int×Int:=(k,if k=3 then a else 0)
def zS(a:Int)(ks:List Int):List (Int×Int):=ks.map (jm a)
abbrev mkF(N:Nat):Value:= .func (.func 194) #[] #[.pointer (some ⟨N,0,none⟩)]
theorem ql0(op a b:Int)(w:World):
  Calls Tryz.prog 171 #[zF op a b] w fun e w'=>e= .returned (mkF w.heap.size)∧w'=w.alloc (.cells #[.int .i64 op,.int .i64 a,.int .i64 b] 55):=by
 go_enter Tryz.func171,Tryz.ntmps171;go_wp2
 go_ret;exact⟨rfl,rfl⟩
theorem q6z{w:World}{g:Nat}{x y:Int}(hg:g<w.heap.size)(h0:w.cell? ⟨g,0,none⟩=some (.int .i64 x))(h1:w.cell? ⟨g,1,none⟩=some (.int .i64 y)):zq w w.heap.size (some ⟨g,0,none⟩) (qk [(x,y)]):=YZ (Vk hg h0 h1).row
theorem qv7(ks:List Int)(op a b:Int)(N:Nat)(A:Option Addr)(c:Nat)(w:World)(hN:N<w.heap.size)(hc:zW w N [.int .i64 op,.int .i64 a,.int .i64 b])(h:ze zl 1 w w.heap.size A c ks)(hl:ks.length≤1000):
  Calls Tryz.prog 194 #[.slice A ks.length c,.pointer (some ⟨N,0,none⟩)] w (QT (zS a ks) w):=by
 obtain⟨i0,hi,hz0,hz1,hz2⟩:=jU JS;have HN:=zH hN;have HC:=zH hc;have HS:=zH h;have hle:=h.le;have hcap:=h.cap;clear hN hc h;go_enter Tryz.func194,Tryz.ntmps194;go_wp2_with fail
 go_loopw [4,10] (fun v i wr=>∃k:Nat,k≤ks.length∧i= .int .i64 k∧Hid (wr.ownsRow w.heap.size 50 2 v k (qk (zS a (ks.take k))))∧Hid (Below w.heap.size w wr)) (fun _ i _=>ks.length - (intOf i).toNat)
 case atStart=>exact⟨0,by omega,rfl,zH (XQ _ _ _ _),zH (zb _ _)⟩
 case round=>
  obtain⟨k,hk,rfl,HO,HX⟩:=hrel;by_cases hlt:k<ks.length
  ·obtain⟨ad,rfl,hab,hcz⟩:=(HS.out.below_to zl.keeps HX.out (zn _)).row.at_ hlt;have HT:Hid (zS a (ks.take (k+1))=zS a (ks.take k)++[jm a ks[k]]):=zH (by unfold zS;rw[List.take_succ_eq_append_getElem hlt,XY];rfl);obtain⟨L,hL⟩:∃L,zS a (ks.take k)=L:=⟨_,rfl⟩
   have hLl:L.length=k:=by rw[←hL];unfold zS;rw[Xo,XO];omega
   rw[hL]at HT HO;generalize ks[k]=z at*
   have hcz:wr.cell? (ad.add k)=some (.int .i64 z):=by have:=hcz;rw[Xz]at this;exact this
   have o1:=(HC.out.keep HX.out HN.out) 1 _ rfl;have hsz:=HX.out.size;have hNw:N<wr.heap.size:=Xj HN.out hsz;clear hL;by_cases hz3:z=3
   ·subst hz3;go_wp2_with(at_builtin;refine Zj rfl _ _ 23 rfl w.heap.size 50 i0 (.agg #[.int .i64 0,.int .i64 0]) 2 16 Tryz.underlying23 hi hz0 hz1 hz2 rfl (by decide) _ k (qk L) rfl ((HO.out.alloc _).alloc _) (some ⟨wr.heap.size+1,0,none⟩) 1 1 _ (qk [(3,a)]) rfl rfl (q6z (by simp) (by go_simp) (by go_simp)) (Jn _) (by unfold maxLen;omega) (by omega) (by simp;omega) ?_;intro v6 w6 hown hgrow;have HX6:=zH (jV ((HX.out.alloc hsz _).alloc (by simp;omega) _) ((HO.out.alloc _).alloc _) (by simp;omega) hgrow);have HO6:=zH hown;clear hown hgrow)
    go_roundw;case rel=>exact⟨k+1,by omega,by go_num,zH (by rw[HT.out];show World.ownsRow _ _ _ _ _ _ ((L++[(3,a)]).flatMap tyC);rw[Wd];exact HO6.out),HX6⟩
    case measure=>simp[intOf];omega
   ·have HM:Hid (jm a z=(z,0)):=zH (by unfold jm;rw[Xa hz3]);go_wp2_with(at_builtin;refine Zj rfl _ _ 23 rfl w.heap.size 50 i0 (.agg #[.int .i64 0,.int .i64 0]) 2 16 Tryz.underlying23 hi hz0 hz1 hz2 rfl (by decide) _ k (qk L) rfl ((HO.out.alloc _).alloc _) (some ⟨wr.heap.size+1,0,none⟩) 1 1 _ (qk [(z,0)]) rfl rfl (q6z (by simp) (by go_simp) (by go_simp)) (Jn _) (by unfold maxLen;omega) (by omega) (by simp;omega) ?_;intro v6 w6 hown hgrow;have HX6:=zH (jV ((HX.out.alloc hsz _).alloc (by simp;omega) _) ((HO.out.alloc _).alloc _) (by simp;omega) hgrow);have HO6:=zH hown;clear hown hgrow)
    go_roundw;case rel=>exact⟨k+1,by omega,by go_num,zH (by rw[HT.out,HM.out];show World.ownsRow _ _ _ _ _ _ ((L++[(z,0)]).flatMap tyC);rw[Wd];exact HO6.out),HX6⟩
    case measure=>simp[intOf];omega
  ·obtain rfl:k=ks.length:=by omega
   have HT:Hid (zS a (ks.take ks.length)=zS a ks):=zH (by rw[XU]);have HLN:Hid ((zS a ks).length=ks.length):=zH (by unfold zS;rw[Xo]);go_wp2_with fail
   go_ret;refine⟨_,rfl,?_,HX.out⟩;rw[HLN.out,←HT.out];exact HO.out
theorem q3t{ks:List Int}{op a b:Int}{N:Nat}{A:Option Addr}{c:Nat}{w:World}{L:List (Int×Int)}(HL:Hid (zS a ks=L))(HN:N<w.heap.size)(HC:zW w N [.int .i64 op,.int .i64 a,.int .i64 b])(HS:ze zl 1 w w.heap.size A c ks)(hl:ks.length≤1000):
  Calls Tryz.prog 194 #[.slice A ks.length c,.pointer (some ⟨N,0,none⟩)] w (QT L w):=by
 have H:=qv7 ks op a b N A c w HN HC HS hl;rw[HL.out]at H;exact H
theorem qpp(n:Nat)(hn:n≤1000000)(w:World):
  Calls Tryz.prog 183 #[.slice none 0 0,.int .i64 n] w fun e w'=>∃v,e= .returned v∧w'.ownsRow w.heap.size 50 2 v 0 []∧Below w.heap.size w w':=by
 obtain⟨i0,hi,hz0,hz1,hz2⟩:=jU JS;rcases Wo n with rfl|hp
 ·go_enter Tryz.func183,Tryz.ntmps183;go_wp2
  go_ret;exact⟨_,rfl,XQ _ _ _ _,zb _ _⟩
 ·have hw1:IntKind.i64.wrap ((n:Int) - 0)=(n:Int):=by rw[Int.sub_zero];exact IntWalk.i64_in _ (by omega)
  have h1:¬((n:Int)<0):=by omega
  have h4:(n:Int)>0:=by omega
  have hrz:∀ty,(Builtin.append_ #[23,3] ty #[.slice none 0 0,.int .i64 n]).run Tryz.prog w=_:=fun ty=>
   Lib.run_append_nil_zeros w 23 3 ty 50 i0 _ .i64 .i64 Tryz.underlying23 Tryz.underlying3 hi hz0 n hp (by omega) (by omega) (by rw[hz2];omega)
  have hg1:=grownCap_ge w n 0 50;have hg2:=grownCap_le_maxLen w n 0 50 (by unfold maxLen;omega);obtain⟨G,hG⟩:∃G,G=grownCap w n 0 50:=⟨_,rfl⟩
  rw[←hG]at hrz hg1 hg2;have hG63:G≤9223372036854775807:=by unfold maxLen at hg2;omega
  have HO:Hid (∀w1,w1=w.drew.alloc (.cells (Builtin.zeroCells (Value.agg #[.int .i64 0,.int .i64 0]).cells n++Builtin.zeroCells (Value.agg #[.int .i64 0,.int .i64 0]).cells (G - n)) 50)→w1.ownsRow w.heap.size 50 2 (.slice (some ⟨w.heap.size,0,none⟩) 0 G) 0 []∧Below w.heap.size w w1):=zH (fun w1 h=>by
   subst h;refine⟨⟨rfl,.inr ⟨w.heap.size,G,_,rfl,zn _,Xw _ _,Xp _,hg2,?_,by simp⟩⟩,((zb _ _).drew).alloc (zn _) _⟩;rw[Array.size_append,size_zeroCells,size_zeroCells];show n*2+(G - n)*2=G*2;omega)
  clear hG hi hz0 hz1 hz2;go_enter Tryz.func183,Tryz.ntmps183;go_wp2_with(at_builtin;refine Lib.wpList_append_run _ rfl _ _ _ _ rfl _ _ rfl rfl _ _ (hrz _) ?_)
  go_ret;obtain⟨o1,o2⟩:=HO.out _ rfl;exact⟨_,rfl,o1,o2⟩
theorem qtd{n:Nat}{w:World}{z:Int}(HZ:Hid (z=(n:Int)))(hn:n≤1000000):
  Calls Tryz.prog 183 #[.slice none 0 0,.int .i64 z] w fun e w'=>∃v,e= .returned v∧w'.ownsRow w.heap.size 50 2 v 0 []∧Below w.heap.size w w':=by
 rw[HZ.out];exact qpp n hn w
set_option maxHeartbeats 1600000 in
theorem q8u(L M:List (Int×Int))(A B:Option Addr)(c d g:Nat)(w:World)(h:ze zc 2 w w.heap.size A c L)(h':ze zc 2 w w.heap.size B d M)(hg:g<w.heap.size)(hc:zW w g [.slice A L.length c,.slice B M.length d])(hL:L.length≤4000)(hM:M.length≤1000):
  Calls Tryz.prog 141 #[.slice (some ⟨g,0,none⟩) 2 2] w (QT (L++M) w):=by
 obtain⟨i0,hi,hz0,hz1,hz2⟩:=jU JS;have HL:=zH h;have HM:=zH h';have HC:=zH hc;have HG:=zH hg;have HZ2:Hid ((((L.length+M.length:Nat):Int))=((L.length+M.length:Nat):Int)):=zH rfl;have c0:=hc 0 _ rfl;have c1:=hc 1 _ rfl;have HLM:Hid ((L++M).length=L.length+M.length):=zH Xe;clear h h' hc;go_enter Tryz.func141,Tryz.ntmps141;go_wp2_with fail
 go_loopw [3,11] (fun z i wr=>wr=w∧((i= .int .i64 0∧z= .int .i64 0)∨(i= .int .i64 1∧z= .int .i64 (L.length:Int))∨(i= .int .i64 2∧z= .int .i64 ((L.length+M.length:Nat):Int)))) (fun _ i _=>2 - (intOf i).toNat)
 case atStart=>exact⟨rfl,.inl ⟨rfl,rfl⟩⟩
 case round=>
  obtain⟨hwr,h⟩:=hrel;have hwr:=hwr.symm;subst hwr;rcases h with⟨rfl,rfl⟩|⟨rfl,rfl⟩|⟨rfl,rfl⟩
  ·have hw1:IntKind.i64.wrap (0+(L.length:Int))=(L.length:Int):=by rw[Int.zero_add];exact IntWalk.i64_in _ (by omega)
   have hw2:IntKind.i64.wrap (L.length:Int)=(L.length:Int):=IntWalk.i64_in _ (by omega);have hnn:¬(L.length:Int)<0:=by omega
   go_wp2_with fail
   go_roundw;case rel=>exact⟨trivial,.inr (.inl ⟨by go_num,rfl⟩)⟩
   case measure=>simp[intOf]
  ·have hw1:IntKind.i64.wrap ((L.length:Int)+(M.length:Int))=((L.length+M.length:Nat):Int):=by rw[←Int.natCast_add];exact IntWalk.i64_in _ (by omega)
   have hnn:¬((L.length+M.length:Nat):Int)<0:=by omega
   go_wp2_with fail
   go_roundw;case rel=>exact⟨trivial,.inr (.inr ⟨by go_num,by go_num⟩)⟩
   case measure=>simp[intOf]
  ·go_wp2_with(go_at_call 183;(with_reducible refine(qtd (n:=L.length+M.length) (zH (by omega)) (by omega)).mono ?_);rintro e w2 ⟨v2,rfl,ho,hb⟩;have HO2:=zH ho;have HB2:=zH hb;clear ho hb)
   go_loopw [6,27] (fun v i w3=>((i= .int .i64 0∧Hid (w3.ownsRow w.heap.size 50 2 v 0 []))∨(i= .int .i64 1∧Hid (w3.ownsRow w.heap.size 50 2 v L.length (qk L)))∨(i= .int .i64 2∧Hid (w3.ownsRow w.heap.size 50 2 v (L.length+M.length) (qk L++qk M))))∧Hid (Below w.heap.size w w3)) (fun _ i _=>2 - (intOf i).toNat)
   case atStart=>exact⟨.inl ⟨rfl,HO2⟩,HB2⟩
   case round=>
    obtain⟨h,HX⟩:=hrel;rcases h with⟨rfl,HO⟩|⟨rfl,HO⟩|⟨rfl,HO⟩
    ·have c0:=(HX.out.cell (p:=⟨g,0,none⟩) HG.out).trans (HC.out 0 _ rfl);have HT:=zH (YZ (HL.out.below_to zc.keeps HX.out (zn _)).row);have hsz:=HX.out.size;go_wp2_with(at_builtin;refine Zj rfl _ _ 23 rfl w.heap.size 50 i0 (.agg #[.int .i64 0,.int .i64 0]) 2 16 Tryz.underlying23 hi hz0 hz1 hz2 rfl (by decide) _ 0 [] rfl HO.out A L.length c _ (qk L) (JU _) rfl HT.out (Jn _) (by unfold maxLen;omega) (by omega) hsz ?_;intro v6 w6 hown hgrow;have HX6:=zH (jV HX.out HO.out hsz hgrow);have HO6:=zH hown;clear hown hgrow)
     go_roundw;case rel=>exact⟨.inr (.inl ⟨by go_num,zH (by simpa using HO6.out)⟩),HX6⟩
     case measure=>simp[intOf]
    ·have c1:=(HX.out.cell (p:=⟨g,1,none⟩) HG.out).trans (HC.out 1 _ rfl);have HT:=zH (YZ (HM.out.below_to zc.keeps HX.out (zn _)).row);have hsz:=HX.out.size;go_wp2_with(at_builtin;refine Zj rfl _ _ 23 rfl w.heap.size 50 i0 (.agg #[.int .i64 0,.int .i64 0]) 2 16 Tryz.underlying23 hi hz0 hz1 hz2 rfl (by decide) _ L.length (qk L) rfl HO.out B M.length d _ (qk M) (JU _) rfl HT.out (Jn _) (by unfold maxLen;omega) (by omega) hsz ?_;intro v6 w6 hown hgrow;have HX6:=zH (jV HX.out HO.out hsz hgrow);have HO6:=zH hown;clear hown hgrow)
     go_roundw;case rel=>exact⟨.inr (.inr ⟨by go_num,HO6⟩),HX6⟩
     case measure=>simp[intOf]
    ·go_wp2_with fail
     go_ret;refine⟨_,rfl,?_,HX.out⟩;rw[HLM.out];show World.ownsRow _ _ _ _ _ _ ((L++M).flatMap tyC);rw[Wd];exact HO.out
theorem qgo{L M N:List (Int×Int)}{A B:Option Addr}{c d g:Nat}{w:World}(HN:Hid (L++M=N))(h:ze zc 2 w w.heap.size A c L)(h':ze zc 2 w w.heap.size B d M)(hg:g<w.heap.size)(hc:zW w g [.slice A L.length c,.slice B M.length d])(hL:L.length≤4000)(hM:M.length≤1000):
  Calls Tryz.prog 141 #[.slice (some ⟨g,0,none⟩) 2 2] w (QT N w):=by
 have H:=q8u L M A B c d g w h h' hg hc hL hM;rw[HN.out]at H;exact H
theorem qla{L M N:List (Int×Int)}{A B:Option Addr}{c d g:Nat}{w:World}(HN:Hid (L++M=N))(h:ze zc 2 w w.heap.size A c L)(h':ze zc 2 w w.heap.size B d M)(hg:g<w.heap.size)(hc:zW w g [.slice A L.length c,.slice B M.length d])(hL:L.length≤1000)(hM:M.length≤1000):
  Calls Tryz.prog 141 #[.slice (some ⟨g,0,none⟩) 2 2] w (QT N w):=by
 have H:=q8u L M A B c d g w h h' hg hc (Xd hL (by decide)) hM;rw[HN.out]at H;exact H
def jS(sup:List Int)(t u:Int×Int):Bool:=if u.1=6 then true else if u.1=7 then kT t.1 else if u.1=8 then kT t.1&& !(decide (t.1=2))else zA sup t.1 t.2 u.1 u.2
def QX(sup:List Int)(L U:List (Int×Int)):Bool:=decide (L.length=U.length)&& (L.zip U).all (fun p=>jS sup p.1 p.2)
theorem q5m{t0 t1:Int}{w:World}{r:Bool}(HR:Hid (kT t0=r)):Calls Tryz.prog 184 #[zU t0 t1] w fun e w'=>e= .returned (.bool r)∧Below w.heap.size w w':=by
 have H:=q9u t0 t1 w;rw[HR.out]at H;exact H
theorem q7f(w:World)(x y z u:Int):zW ((w.alloc (.cells #[.int .i64 x,.int .i64 y] 50)).alloc (.cells #[.int .i64 z,.int .i64 u] 50)) w.heap.size [.int .i64 x,.int .i64 y]∧zW ((w.alloc (.cells #[.int .i64 x,.int .i64 y] 50)).alloc (.cells #[.int .i64 z,.int .i64 u] 50)) (w.heap.size+1) [.int .i64 z,.int .i64 u]∧
  Below w.heap.size w ((w.alloc (.cells #[.int .i64 x,.int .i64 y] 50)).alloc (.cells #[.int .i64 z,.int .i64 u] 50))∧((w.alloc (.cells #[.int .i64 x,.int .i64 y] 50)).alloc (.cells #[.int .i64 z,.int .i64 u] 50)).heap.size=w.heap.size+2:=by
 obtain⟨c1,z1,b1⟩:=Qs (w:=w) rfl [.int .i64 x,.int .i64 y] 50;obtain⟨c2,z2,b2⟩:=Qs z1 [.int .i64 z,.int .i64 u] 50;exact⟨c1.keep b2 (by omega),c2,b1.trans (b2.mono (by omega)),z2⟩
theorem qpt(sup:List Int)(t0 t1 u0 u1:Int)(A:Option Addr)(c:Nat)(w:World)(hl:sup.length≤1048576)(h:qY w w.heap.size A sup):
  Calls Tryz.prog 182 #[.slice A sup.length c,zU t0 t1,zU u0 u1] w fun e w'=>e= .returned (.bool (jS sup (t0,t1) (u0,u1)))∧Below w.heap.size w w':=by
 obtain⟨c1,c2,hb,hz⟩:=q7f w t0 t1 u0 u1;have HC1:=zH c1;have HC2:=zH c2;have HW:=zH hb;have HZ:=zH hz;have HS:=zH (h.below_to hb (zn _));clear c1 c2 hb hz h;by_cases h6:u0=6
 ·subst h6;have e:jS sup (t0,t1) (6,u1)=true:=rfl;rw[e];clear e;go_enter Tryz.func182,Tryz.ntmps182;go_upto_region 1 with fail
  generalize(w.alloc (.cells #[.int .i64 t0,.int .i64 t1] 50)).alloc (.cells #[.int .i64 6,.int .i64 u1] 50)=w1 at*
  have d0:=HC2.out 0 _ rfl;go_wp2_with fail
  go_ret;exact⟨rfl,HW.out⟩
 ·by_cases h7:u0=7
  ·subst h7;obtain⟨r,hr⟩:∃r,kT t0=r:=⟨_,rfl⟩
   have HR:=zH hr;have e:jS sup (t0,t1) (7,u1)=r:=hr;rw[e];clear e hr h6;go_enter Tryz.func182,Tryz.ntmps182;go_upto_region 1 with fail
   generalize(w.alloc (.cells #[.int .i64 t0,.int .i64 t1] 50)).alloc (.cells #[.int .i64 7,.int .i64 u1] 50)=w1 at*
   have d0:=HC2.out 0 _ rfl;have e0:=HC1.out 0 _ rfl;have e1:=HC1.out 1 _ rfl;go_wp2_with(go_at_call 184;(with_reducible refine(q5m HR).mono ?_);rintro e w2 ⟨rfl,hb⟩;have HB2:=zH hb;clear hb)
   go_ret;exact⟨rfl,HW.out.trans (HB2.out.mono HW.out.size)⟩
  ·by_cases h8:u0=8
   ·subst h8;obtain⟨r,hr⟩:∃r,kT t0=r:=⟨_,rfl⟩
    have HR:=zH hr;have e:jS sup (t0,t1) (8,u1)=(r&& !(decide (t0=2))):=by rw[←hr];rfl
    rw[e];clear e hr h6 h7;cases r
    ·go_enter Tryz.func182,Tryz.ntmps182;go_upto_region 1 with fail
     generalize(w.alloc (.cells #[.int .i64 t0,.int .i64 t1] 50)).alloc (.cells #[.int .i64 8,.int .i64 u1] 50)=w1 at*
     have d0:=HC2.out 0 _ rfl;have e0:=HC1.out 0 _ rfl;have e1:=HC1.out 1 _ rfl;go_wp2_with(go_at_call 184;(with_reducible refine(q5m HR).mono ?_);rintro e w2 ⟨rfl,hb⟩;have HB2:=zH hb;have e0:=(HC1.out.keep hb (by have:=HZ.out;omega)) 0 _ rfl;clear hb)
     go_ret;exact⟨rfl,HW.out.trans (HB2.out.mono HW.out.size)⟩
    ·go_enter Tryz.func182,Tryz.ntmps182;go_upto_region 1 with fail
     generalize(w.alloc (.cells #[.int .i64 t0,.int .i64 t1] 50)).alloc (.cells #[.int .i64 8,.int .i64 u1] 50)=w1 at*
     have d0:=HC2.out 0 _ rfl;have e0:=HC1.out 0 _ rfl;have e1:=HC1.out 1 _ rfl;go_wp2_with(go_at_call 184;(with_reducible refine(q5m HR).mono ?_);rintro e w2 ⟨rfl,hb⟩;have HB2:=zH hb;have e0:=(HC1.out.keep hb (by have:=HZ.out;omega)) 0 _ rfl;clear hb)
     go_ret;refine⟨?_,HW.out.trans (HB2.out.mono HW.out.size)⟩;by_cases h2:t0=2<;>simp[h2]
   ·have e:jS sup (t0,t1) (u0,u1)=zA sup t0 t1 u0 u1:=by unfold jS;rw[Xa h6,Xa h7,Xa h8]
    rw[e];clear e;go_enter Tryz.func182,Tryz.ntmps182;go_upto_region 1 with fail
    generalize(w.alloc (.cells #[.int .i64 t0,.int .i64 t1] 50)).alloc (.cells #[.int .i64 u0,.int .i64 u1] 50)=w1 at*
    have d0:=HC2.out 0 _ rfl;have d1:=HC2.out 1 _ rfl;have e0:=HC1.out 0 _ rfl;have e1:=HC1.out 1 _ rfl;go_wp2_with(go_at_call 144;(with_reducible refine(QS sup t0 t1 u0 u1 A c w.heap.size w1 hl HW.out.size HS.out).mono ?_);rintro e w2 ⟨rfl,hb⟩;have HB2:=zH hb;clear hb)
    go_ret;exact⟨rfl,HW.out.trans (HB2.out.mono HW.out.size)⟩
abbrev fitF(N:Nat):Value:= .func (.func 181) #[] #[.pointer (some ⟨N,0,none⟩)]
theorem qpu(sup:List Int)(t0 t1 u0 u1:Int)(A:Option Addr)(c N:Nat)(w:World)(hl:sup.length≤1048576)(h:qY w w.heap.size A sup)(hN:N<w.heap.size)(hc:w.cell? ⟨N,0,none⟩=some (.slice A sup.length c)):
  Calls Tryz.prog 181 #[zU t0 t1,zU u0 u1,.pointer (some ⟨N,0,none⟩)] w fun e w'=>e= .returned (.bool (jS sup (t0,t1) (u0,u1)))∧Below w.heap.size w w':=by
 obtain⟨c1,c2,hb,hz⟩:=q7f w t0 t1 u0 u1;have HC1:=zH c1;have HC2:=zH c2;have HW:=zH hb;have HS:Hid (qY _ _ A sup):=zH (qY.below_to h hb (zn _));have HC:=zH ((hb.cell (p:=⟨N,0,none⟩) hN).trans hc);clear c1 c2 hb hz h hc;go_enter Tryz.func181,Tryz.ntmps181;go_upto_region 1 with fail
 generalize(w.alloc (.cells #[.int .i64 t0,.int .i64 t1] 50)).alloc (.cells #[.int .i64 u0,.int .i64 u1] 50)=w1 at*
 have d0:=HC2.out 0 _ rfl;have d1:=HC2.out 1 _ rfl;have e0:=HC1.out 0 _ rfl;have e1:=HC1.out 1 _ rfl;have c0:=HC.out;have HS1:Hid (qY w1 w1.heap.size A sup):=zH (fun i s hs=>by
  obtain⟨ad,e,hb,hc⟩:=HS.out i s hs;exact⟨ad,e,Xj hb HW.out.size,hc⟩)
 go_wp2_with(go_at_call 182;(with_reducible refine(qpt sup t0 t1 u0 u1 A c w1 hl HS1.out).mono ?_);rintro e w2 ⟨rfl,hb⟩;have HB2:=zH hb;clear hb)
 go_ret;exact⟨rfl,HW.out.trans (HB2.out.mono HW.out.size)⟩
end Go.Proofs.YtcmiljnbmgkdnaaGreat
