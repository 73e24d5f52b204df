import Derived.Test.YtcmiljnbmgkdnaaGreatFA04
import Derived.Lib.AppendZeros
namespace Go.Proofs.YtcmiljnbmgkdnaaGreat
set_option maxRecDepth 100000
set_option linter.unusedVariables false
set_option linter.unusedSimpArgs false
open Go.ChangeShapes Go.WideShapes Go.ChangeAt Go.RowKit
theorem rsub_4(sup:List Int)(n k' n':Int)(A:Option Addr)(cap:Nat)(w:World):
  Calls Tryz.prog 98 #[.slice A sup.length cap,zA 4 n,zA k' n'] w fun e w'=>e= .returned (.bool (vh k'))∧Below w.heap.size w w':=by
 go_enter Tryz.func98,Tryz.ntmps98;go_wp2_with(go_at_call 102;(with_reducible refine(q8v _ _ _).mono ?_);rintro e w' ⟨rfl,hb⟩)
 go_ret;exact⟨rfl,(((zb _ _).alloc (zn _) _).alloc (by simp) _).trans (hb.mono (by simp;omega))⟩
theorem qu0(sup:List Int)(n k' n':Int)(hk:¬k'=3)(A:Option Addr)(cap:Nat)(w:World):
  Calls Tryz.prog 98 #[.slice A sup.length cap,zA 3 n,zA k' n'] w fun e w'=>e= .returned (.bool false)∧Below w.heap.size w w':=by
 have hd:decide (k'=3)=false:=Xf hk;go_enter Tryz.func98,Tryz.ntmps98;go_wp2_with fail
 go_quiet (fail)
 go_wp2
 go_ret;exact⟨rfl,(((zb _ _).alloc (zn _) _).alloc (by simp) _)|>fun h=>qZ h _⟩
theorem qu1(sup:List Int)(n n':Int)(A:Option Addr)(cap B:Nat)(w:World)(hl:sup.length≤1048576)(hB:B≤w.heap.size)(h:qD w B A sup):
  Calls Tryz.prog 98 #[.slice A sup.length cap,zA 3 n,zA 3 n'] w fun e w'=>e= .returned (.bool (zR (zv sup n) n'))∧Below w.heap.size w w':=by
 go_enter Tryz.func98,Tryz.ntmps98;go_wp2_with fail
 have hS:qD ((w.alloc (.cells #[.int .i64 3,.int .i64 n] 50)).alloc (.cells #[.int .i64 3,.int .i64 n'] 50)).drew B A sup:=
  h.below_to (((zb w.heap.size w).alloc (zn _) _).alloc (by simp) _).drew hB
 have HS:=zH hS;have HB:=zH (((zb w.heap.size w).alloc (zn _) (.cells #[.int .i64 3,.int .i64 n] 50)).alloc (by simp) (.cells #[.int .i64 3,.int .i64 n'] 50));clear hS h;have hLA:(zv sup n).length≤9223372036854775807:=by
  unfold zv;split
  ·rcases Xj n.toNat sup.length with g|g
   ·have:=q8c sup n.toNat;omega
   ·rw[VO g];simp
  ·simp
 have hz:w.heap.size<w.heap.size+1+1:=by omega
 go_region_held3 (fun w'=>w'.cell? ⟨w.heap.size,0,none⟩=some (.int .i64 3)∧w'.cell? ⟨w.heap.size,1,none⟩=some (.int .i64 n)∧w'.cell? ⟨w.heap.size+1,0,none⟩=some (.int .i64 3)∧w'.cell? ⟨w.heap.size+1,1,none⟩=some (.int .i64 n'))
  (first|go_keep)
  (first
   |(go_at_call 71;(with_reducible refine(q1n sup n A cap B _ hl (by simp;omega) HS.out).mono ?_);rintro e w' ⟨v,rfl,ho,hb⟩;obtain⟨A',c',rfl,hlies⟩:=q05 ho;obtain⟨hc,hf⟩:=kT hb;have HL:=zH hlies;clear hlies)
   |(go_at_call 66;(with_reducible refine(Ju _ _ _ _ _ _ hLA HL.out).mono ?_);rintro e w' ⟨rfl,rfl⟩))
 go_wp2
 go_ret;exact⟨rfl,HB.out.drew.trans (hb.mono (by simp;omega))⟩
theorem qu2(sup:List Int)(k n k' n':Int)(hk:k=1∨k=2)(A:Option Addr)(cap:Nat)(w:World):
  Calls Tryz.prog 98 #[.slice A sup.length cap,zA k n,zA k' n'] w fun e w'=>e= .returned (.bool (decide (k=k'∧n=n')))∧Below w.heap.size w w':=by
 rcases hk with rfl|rfl;all_goals
  go_enter Tryz.func98,Tryz.ntmps98;go_wp2_with fail
  all_goals
   go_ret;refine⟨?_,((zb _ _).alloc (zn _) _).alloc (by simp) _⟩;simp[*]
theorem rsub_0(sup:List Int)(k n k' n':Int)(hk:¬(k=1∨k=2∨k=3∨k=4))(A:Option Addr)(cap:Nat)(w:World):
  Calls Tryz.prog 98 #[.slice A sup.length cap,zA k n,zA k' n'] w fun e w'=>e= .returned (.bool false)∧Below w.heap.size w w':=by
 have h1:¬k=1:=by omega
 have h2:¬k=2:=by omega
 have h3:¬k=3:=by omega
 have h4:¬k=4:=by omega
 have e1:decide (k=1)=false:=Xf h1;have e2:decide (k=2)=false:=Xf h2;clear hk;go_enter Tryz.func98,Tryz.ntmps98;go_wp2_with fail
 go_ret;exact⟨rfl,((zb _ _).alloc (zn _) _).alloc (by simp) _⟩
theorem Jq(sup:List Int)(k n k' n':Int)(A:Option Addr)(cap B:Nat)(w:World)(hl:sup.length≤1048576)(hB:B≤w.heap.size)(h:qD w B A sup):
  Calls Tryz.prog 98 #[.slice A sup.length cap,zA k n,zA k' n'] w fun e w'=>e= .returned (.bool (zw sup k n k' n'))∧Below w.heap.size w w':=by
 by_cases h4:k=4
 ·subst h4;exact rsub_4 sup n k' n' A cap w
 ·by_cases h3:k=3
  ·subst h3;by_cases hk:k'=3
   ·subst hk;exact qu1 sup n n' A cap B w hl hB h
   ·have e:zw sup 3 n k' n'=false:=by simp[zw,hk]
    rw[e];exact qu0 sup n k' n' hk A cap w
  ·by_cases h12:k=1∨k=2
   ·have e:zw sup k n k' n'=decide (k=k'∧n=n'):=by simp[zw,h3,h4,h12]
    rw[e];exact qu2 sup k n k' n' h12 A cap w
   ·have e:zw sup k n k' n'=false:=by simp[zw,h3,h4,h12]
    rw[e];exact rsub_0 sup k n k' n' (by omega) A cap w
set_option maxHeartbeats 1600000 in
theorem q8w(op a b:Int)(w:World):Calls Tryz.prog 36 #[zz op a b] w fun e w'=>e= .returned (.bool (qp op a b))∧Below w.heap.size w w':=by
 obtain⟨n,hn⟩:∃n,qJ op=n:=⟨_,rfl⟩
 have hr:=q4d op;rw[hn]at hr;have E:=zH (show qp op a b=decide (0≤n∧(1≤n∨a=0)∧(2≤n∨b=0)∧0≤a∧a≤255∧0≤b∧b≤255)by unfold qp;rw[hn]);generalize qp op a b=r at E⊢
 have HN:=zH hn;clear hn;have HBo:=zH ((zb w.heap.size w).alloc (zn _) (.cells #[.int .i64 op,.int .i64 a,.int .i64 b] 55));go_enter Tryz.func36,Tryz.ntmps36;go_wp2_with(go_at_call 42;(with_reducible refine(qn6 _ _).mono ?_);rintro e w1 ⟨rfl,hb⟩;rw[HN.out];obtain⟨c0,c1,c2⟩:=qob hb)
 all_goals
  go_ret;refine⟨q5f ?_,HBo.out.trans (hb.mono (by simp))⟩;rw[E.out];rw[XV];simp;try simp only[bne_iff_ne,bne_eq_false_iff_eq,ne_eq]at*
  omega
def qd(L:List (Int×Int))(w:World)(e:Ending)(w':World):Prop:=∃A c,e= .returned (.slice A L.length c)∧zd zh 2 w' w'.heap.size A c L∧Below w.heap.size w w'
theorem qi9(x:zf)(hx:qh)(w:World):Calls Tryz.prog 149 #[jH hx x] w (qd (qR x) w):=by
 have HW:=zH ((zb w.heap.size w).alloc (zn _) (.cells (zL hx x).toArray 53));have HC:=zH (qa w (zL hx x) 53);have hz:Hid ((w.alloc (.cells (zL hx x).toArray 53)).heap.size=w.heap.size+1):=zH (by simp);by_cases h5:x.ret.1=5
 ·have e:qR x=[]:=by unfold qR;rw[Xb h5]
  rw[e];have H5:=zH h5;clear e h5;go_enter Tryz.func149,Tryz.ntmps149;go_upto_region 1 with fail
  generalize w.alloc (.cells (zL hx x).toArray 53)=w1 at*
  have q2:=HC.out 2 _ rfl;rw[H5.out]at q2;go_wp2_with fail
  go_ret;exact⟨none,0,rfl,ja,HW.out⟩
 ·have e:qR x=[x.ret]:=by unfold qR;rw[Xa h5]
  rw[e];clear e;go_enter Tryz.func149,Tryz.ntmps149;go_upto_region 1 with fail
  generalize w.alloc (.cells (zL hx x).toArray 53)=w1 at*
  have q2:=HC.out 2 _ rfl;have q3:=HC.out 3 _ rfl;have hz:=hz.out;go_wp2_with fail
  go_ret;refine⟨_,_,rfl,jV (by simp;try omega) (by go_simp) (by go_simp),HW.out.trans ((zb _ _).alloc (by omega) _)⟩
theorem q1x{x:zf}{hx:qh}{w:World}{L:List (Int×Int)}(HL:Hid (qR x=L)):Calls Tryz.prog 149 #[jH hx x] w (qd L w):=by
 have H:=qi9 x hx w;rw[HL.out]at H;exact H
theorem qan{x:zf}{n:Int}{hx:qh}{w0 w:World}{t:Int×Int}(HM:Hid (qL w0 w0.heap.size hx x))(HX:Hid (Below w0.heap.size w0 w))(HR:Hid (qm x n=t))(hs:n≤9223372036854775807)(ha:x.args.length≤1048576)(hl:x.locals.length≤1048576):
  Calls Tryz.prog 148 #[jH hx x,.int .i64 n] w fun e w'=>e= .returned (.agg #[.int .i64 t.1,.int .i64 t.2])∧Below w.heap.size w w':=by
 have H:=qi6 x n hs hx w (HM.out.now HX.out) ha hl;rw[HR.out]at H;exact H
def qP(l y:List Int):Int×Int:=match l with
 | []=>(0,0)
 |x::r=>if zR y x then(3,x)else qP r y
def qe(sup:List Int)(k n k' n':Int):Int×Int:=
 if zw sup k n k' n' then(k',n')else if zw sup k' n' k n then(k,n)else if k=3∧k'=3 then qP ((zv sup n).drop 1) (zv sup n')else(0,0)
theorem Zk{w w1:World}{o1 o2:Obj}{x y:Value}{T:TypeId}(hb:Below (((w.alloc o1).alloc o2).alloc (.cells #[x,y] T)).heap.size (((w.alloc o1).alloc o2).alloc (.cells #[x,y] T)) w1):
  w1.cell? ⟨w.heap.size+1+1,0,none⟩=some x∧w1.cell? ⟨w.heap.size+1+1,1,none⟩=some y∧w1.frozen? ⟨w.heap.size+1+1,0,none⟩=false∧w1.frozen? ⟨w.heap.size+1+1,1,none⟩=false:=by
 have hs:w.heap.size+1+1<(((w.alloc o1).alloc o2).alloc (.cells #[x,y] T)).heap.size:=by simp
 have e:((w.alloc o1).alloc o2).heap.size=w.heap.size+1+1:=by simp
 refine⟨(hb.cell hs).trans ?_,(hb.cell hs).trans ?_,(hb.frozen hs).trans ?_,(hb.frozen hs).trans ?_⟩
 ·rw[World.cell?_alloc_at _ _ _ _ e.symm];rfl
 ·rw[World.cell?_alloc_at _ _ _ _ e.symm];rfl
 ·exact World.frozen?_alloc_at _ _ _ _ e.symm
 ·exact World.frozen?_alloc_at _ _ _ _ e.symm
def Six(w:World)(N:Nat)(a b c d x y:Value):Prop:=
 w.cell? ⟨N,0,none⟩=some a∧w.cell? ⟨N,1,none⟩=some b∧w.cell? ⟨N+1,0,none⟩=some c∧w.cell? ⟨N+1,1,none⟩=some d∧
  w.cell? ⟨N+1+1,0,none⟩=some x∧w.cell? ⟨N+1+1,1,none⟩=some y∧w.frozen? ⟨N+1+1,0,none⟩=false∧w.frozen? ⟨N+1+1,1,none⟩=false
theorem Six.keep{w w':World}{N C:Nat}{a b c d x y:Value}(h:Six w N a b c d x y)(hb:Below C w w')(hC:N+1+1<C):Six w' N a b c d x y:=by
 obtain⟨h0,h1,h2,h3,h4,h5,h6,h7⟩:=h;exact⟨(hb.cell (show N<C by omega)).trans h0,(hb.cell (show N<C by omega)).trans h1,(hb.cell (show N+1<C by omega)).trans h2,(hb.cell (show N+1<C by omega)).trans h3,
  (hb.cell (show N+1+1<C by omega)).trans h4,(hb.cell (show N+1+1<C by omega)).trans h5,(hb.frozen (show N+1+1<C by omega)).trans h6,(hb.frozen (show N+1+1<C by omega)).trans h7⟩
theorem ZZ{w w1:World}{x y x' y':Value}{T:TypeId}{o:Obj}(hb:Below (((w.alloc (.cells #[x,y] T)).alloc (.cells #[x',y'] T)).alloc o).heap.size (((w.alloc (.cells #[x,y] T)).alloc (.cells #[x',y'] T)).alloc o) w1):
  w1.cell? ⟨w.heap.size,0,none⟩=some x∧w1.cell? ⟨w.heap.size,1,none⟩=some y∧w1.cell? ⟨w.heap.size+1,0,none⟩=some x'∧w1.cell? ⟨w.heap.size+1,1,none⟩=some y':=by
 have h0:w.heap.size<(((w.alloc (.cells #[x,y] T)).alloc (.cells #[x',y'] T)).alloc o).heap.size:=by simp;omega
 have h1:w.heap.size+1<(((w.alloc (.cells #[x,y] T)).alloc (.cells #[x',y'] T)).alloc o).heap.size:=by simp
 have e:(w.alloc (.cells #[x,y] T)).heap.size=w.heap.size+1:=by simp
 refine⟨(hb.cell h0).trans ?_,(hb.cell h0).trans ?_,(hb.cell h1).trans ?_,(hb.cell h1).trans ?_⟩
 ·rw[World.cell?_alloc_past _ _ _ (by simp;omega),World.cell?_alloc_past _ _ _ (by simp),World.cell?_alloc_at _ _ _ _ rfl];rfl
 ·rw[World.cell?_alloc_past _ _ _ (by simp;omega),World.cell?_alloc_past _ _ _ (by simp),World.cell?_alloc_at _ _ _ _ rfl];rfl
 ·rw[World.cell?_alloc_past _ _ _ (by simp),World.cell?_alloc_at _ _ _ _ e.symm];rfl
 ·rw[World.cell?_alloc_past _ _ _ (by simp),World.cell?_alloc_at _ _ _ _ e.symm];rfl
theorem q4m(sup:List Int)(k n k' n':Int)(A:Option Addr)(cap B:Nat)(w:World)(hl:sup.length≤1048576)(hB:B≤w.heap.size)(h:qD w B A sup)(hno:¬(k=3∧k'=3)∨zw sup k n k' n'=true∨zw sup k' n' k n=true):
  Calls Tryz.prog 100 #[.slice A sup.length cap,zA k n,zA k' n'] w fun e w'=>e= .returned (zA (qe sup k n k' n').1 (qe sup k n k' n').2)∧Below w.heap.size w w':=by
 have hW:Below w.heap.size w (((w.alloc (.cells #[.int .i64 k,.int .i64 n] 50)).alloc (.cells #[.int .i64 k',.int .i64 n'] 50)).alloc (.cells #[.int .i64 0,.int .i64 0] 50)):=
  (((zb w.heap.size w).alloc (zn _) _).alloc (by simp) _).alloc (by simp;omega) _
 have HS:=zH (h.below_to hW hB);have HW:=zH hW;have HB:=zH hB;clear h hW hB;have J:=zH (show qe sup k n k' n'=if zw sup k n k' n' then(k',n')else if zw sup k' n' k n then(k,n)else if k=3∧k'=3 then qP ((zv sup n).drop 1) (zv sup n')else(0,0)from rfl);generalize qe sup k n k' n'=j at J⊢
 have hz1:w.heap.size<w.heap.size+1+1+1:=by omega
 have hz2:w.heap.size+1<w.heap.size+1+1+1:=by omega
 by_cases h1:zw sup k n k' n'=true
 ·have J2:=zH (show j=(k',n')by rw[J.out,Xb h1]);have H1:=zH h1;clear h1 J;go_enter Tryz.func100,Tryz.ntmps100;go_wp2_with(go_at_call 98;(with_reducible refine(Jq sup _ _ _ _ A cap B _ hl (by have:=HB.out;simp;omega) HS.out).mono ?_);rintro e w1 ⟨he,hb⟩;rw[H1.out]at he;subst he;obtain⟨hc,hf⟩:=kT hb;obtain⟨r0,r1,r2,r3⟩:=Zk hb)
  rw[J2.out];refine Xn (v:=zA k' n') ?_ rfl ⟨rfl,?_⟩
  ·simp[results,Tryz.results100,go_sem,r0,r1]
  ·exact HW.out.trans (((hb.mono (by simp;omega)).setCell (by simp;omega) _).setCell (by simp;omega) _)
 ·have F1:=zH (show zw sup k n k' n'=false by simpa using h1);have H1:=F1;clear h1;by_cases h2:zw sup k' n' k n=true
  ·have J2:=zH (show j=(k,n)by rw[J.out,F1.out,h2];rfl);have H2:=zH h2;clear h2 J;go_enter Tryz.func100,Tryz.ntmps100;go_wp2_with(first|(go_at_call 98;(with_reducible refine(Jq sup _ _ _ _ A cap B _ hl (by have:=HB.out;simp;omega) HS.out).mono ?_);rintro e w1 ⟨he,hb⟩;rw[H1.out]at he;subst he;obtain⟨hc,hf⟩:=kT hb;obtain⟨r0,r1,r2,r3⟩:=Zk hb;obtain⟨q0,q1,q2,q3⟩:=ZZ hb;have HS1:=zH (HS.out.below_to hb (by have:=HB.out;simp;omega));have HZ:=zH hb.size)|(go_at_call 98;(with_reducible refine(Jq sup _ _ _ _ A cap B _ hl (by have:=HB.out;have:=HZ.out;simp at this;omega) HS1.out).mono ?_);rintro e w2 ⟨he,hb2⟩;rw[H2.out]at he;subst he;have hbb:=zH (hb.trans (hb2.mono hb.size));clear hc hf r0 r1 r2 r3 q0 q1 q2 q3;obtain⟨hc,hf⟩:=kT hbb.out;obtain⟨r0,r1,r2,r3⟩:=Zk hbb.out;obtain⟨q0,q1,q2,q3⟩:=ZZ hbb.out;have HS2:=zH (HS.out.below_to hbb.out (by have:=HB.out;simp;omega));have HZ2:=zH hbb.out.size))
   rw[J2.out];refine Xn (v:=zA k n) ?_ rfl ⟨rfl,?_⟩
   ·simp[results,Tryz.results100,go_sem,r0,r1]
   ·exact HW.out.trans (((hbb.out.mono (by simp;omega)).setCell (by simp;omega) _).setCell (by simp;omega) _)
  ·have H2:=zH (show zw sup k' n' k n=false by simpa using h2);clear h2;by_cases h3:k=3∧k'=3
   ·rcases hno with g|g|g
    ·exact absurd h3 g
    ·rw[H1.out]at g;cases g
    ·rw[H2.out]at g;cases g
   ·have J2:=zH (show j=(0,0)by rw[J.out,H1.out,H2.out,Xa h3];rfl);have h3':¬k=3∨(k=3∧¬k'=3):=by omega
    clear h3 J;rcases h3' with h3|⟨rfl,h3⟩
    all_goals
     go_enter Tryz.func100,Tryz.ntmps100;go_wp2_with(first|(go_at_call 98;(with_reducible refine(Jq sup _ _ _ _ A cap B _ hl (by have:=HB.out;simp;omega) HS.out).mono ?_);rintro e w1 ⟨he,hb⟩;rw[H1.out]at he;subst he;obtain⟨hc,hf⟩:=kT hb;obtain⟨r0,r1,r2,r3⟩:=Zk hb;obtain⟨q0,q1,q2,q3⟩:=ZZ hb;have HS1:=zH (HS.out.below_to hb (by have:=HB.out;simp;omega));have HZ:=zH hb.size)|(go_at_call 98;(with_reducible refine(Jq sup _ _ _ _ A cap B _ hl (by have:=HB.out;have:=HZ.out;simp at this;omega) HS1.out).mono ?_);rintro e w2 ⟨he,hb2⟩;rw[H2.out]at he;subst he;have hbb:=zH (hb.trans (hb2.mono hb.size));clear hc hf r0 r1 r2 r3 q0 q1 q2 q3;obtain⟨hc,hf⟩:=kT hbb.out;obtain⟨r0,r1,r2,r3⟩:=Zk hbb.out;obtain⟨q0,q1,q2,q3⟩:=ZZ hbb.out;have HS2:=zH (HS.out.below_to hbb.out (by have:=HB.out;simp;omega));have HZ2:=zH hbb.out.size))
     rw[J2.out];refine Xn (v:=zA 0 0) ?_ rfl ⟨rfl,?_⟩
     ·simp[results,Tryz.results100,go_sem,r0,r1]
     ·exact HW.out.trans (((hbb.out.mono (by simp;omega)).setCell (by simp;omega) _).setCell (by simp;omega) _)
set_option maxHeartbeats 800000 in
theorem qqx(sup:List Int)(n n':Int)(A:Option Addr)(cap B:Nat)(w:World)(hl:sup.length≤1048576)(hB:B≤w.heap.size)(h:qD w B A sup)
  (h1:zw sup 3 n 3 n'=false) (h2:zw sup 3 n' 3 n=false):
  Calls Tryz.prog 100 #[.slice A sup.length cap,zA 3 n,zA 3 n'] w fun e w'=>e= .returned (zA (qP ((zv sup n).drop 1) (zv sup n')).1 (qP ((zv sup n).drop 1) (zv sup n')).2)∧Below w.heap.size w w':=by
 have hW:Below w.heap.size w (((w.alloc (.cells #[.int .i64 3,.int .i64 n] 50)).alloc (.cells #[.int .i64 3,.int .i64 n'] 50)).alloc (.cells #[.int .i64 0,.int .i64 0] 50)):=
  (((zb w.heap.size w).alloc (zn _) _).alloc (by simp) _).alloc (by simp;omega) _
 have HS:=zH (h.below_to hW hB);have HW:=zH hW;have HB:=zH hB;clear h hW hB;have H1:=zH h1;have H2:=zH h2;clear h1 h2;generalize hj:qP ((zv sup n).drop 1) (zv sup n')=j;have J2:=zH hj.symm;clear hj;go_enter Tryz.func100,Tryz.ntmps100;go_wp2_with(first|(go_at_call 98;(with_reducible refine(Jq sup _ _ _ _ A cap B _ hl (by have:=HB.out;simp;omega) HS.out).mono ?_);rintro e w1 ⟨he,hb⟩;rw[H1.out]at he;subst he;obtain⟨hc,hf⟩:=kT hb;obtain⟨r0,r1,r2,r3⟩:=Zk hb;obtain⟨q0,q1,q2,q3⟩:=ZZ hb;have HS1:=zH (HS.out.below_to hb (by have:=HB.out;simp;omega));have HZ:=zH hb.size)|(go_at_call 98;(with_reducible refine(Jq sup _ _ _ _ A cap B _ hl (by have:=HB.out;have:=HZ.out;simp at this;omega) HS1.out).mono ?_);rintro e w2 ⟨he,hb2⟩;rw[H2.out]at he;subst he;have hbb:=zH (hb.trans (hb2.mono hb.size));clear hc hf r0 r1 r2 r3 q0 q1 q2 q3;obtain⟨hc,hf⟩:=kT hbb.out;obtain⟨r0,r1,r2,r3⟩:=Zk hbb.out;obtain⟨q0,q1,q2,q3⟩:=ZZ hbb.out;have HS2:=zH (HS.out.below_to hbb.out (by have:=HB.out;simp;omega));have HZ2:=zH hbb.out.size))
 have y2:w.heap.size+1+1<w2.heap.size:=by have:=HZ2.out;simp at this;omega
 have yB:B≤w2.heap.size:=by have:=HB.out;omega
 have X2:Six w2 w.heap.size (.int .i64 3) (.int .i64 n) (.int .i64 3) (.int .i64 n') (.int .i64 0) (.int .i64 0):=⟨q0,q1,q2,q3,r0,r1,r2,r3⟩
 have X2d:Six w2.drew w.heap.size (.int .i64 3) (.int .i64 n) (.int .i64 3) (.int .i64 n') (.int .i64 0) (.int .i64 0):=X2;have yBd:B≤w2.drew.heap.size:=yB;have y2d:w.heap.size+1+1<w2.drew.heap.size:=y2;have HS2d:Hid (qD w2.drew B A sup):=HS2;have XB:=zH X2d;clear hc hf hb hb2 X2 X2d;have hLA:=zH (YB sup n);have hLB:=zH (YB sup n');go_region_held3 (fun w'=>w'.cell? ⟨w.heap.size,0,none⟩=some (.int .i64 3)∧w'.cell? ⟨w.heap.size,1,none⟩=some (.int .i64 n)∧w'.cell? ⟨w.heap.size+1,0,none⟩=some (.int .i64 3)∧w'.cell? ⟨w.heap.size+1,1,none⟩=some (.int .i64 n'))
  (first|go_keep|exact⟨c0,c1,c2,c3⟩|exact⟨d0,d1,d2,d3⟩)
  (first
   |(go_at_call 71;(with_reducible refine(q1n sup n A cap B _ hl yBd HS2d.out).mono ?_);rintro e w3 ⟨v,rfl,ho3,hb3⟩;obtain⟨A3,c3',rfl,hl3⟩:=q05 ho3;have HL3:=zH hl3;clear hl3;have X3:=XB.out.keep hb3 y2d;obtain⟨c0,c1,c2,c3,_⟩:=X3;have XC:=zH (XB.out.keep hb3 y2d);have HS3:=zH (HS2d.out.below_to hb3 yBd);have y3:w2.drew.heap.size≤w3.heap.size:=hb3.size)
   |(go_at_call 71;(with_reducible refine(q1n sup n' A cap B _ hl (Xg yBd y3) HS3.out).mono ?_);rintro e w4 ⟨v,rfl,ho4,hb4⟩;obtain⟨A4,c4',rfl,hl4⟩:=q05 ho4;have HL4:=zH hl4;clear hl4;have X4:=XC.out.keep hb4 (Xp y2d y3);obtain⟨d0,d1,d2,d3,d4,d5,d6,d7⟩:=X4;have HL3':=zH (HL3.out.below hb4);have HB4:=zH (hb3.trans (hb4.mono y3))))
 go_wp2_with fail
 have HF:=zH (hbb.out.drew.trans (HB4.out.mono HZ2.out));clear d0 d1 d2 d3 c0 c1 c2 c3;generalize hX:zv sup n=X at*
 generalize hY:zv sup n'=Y at*
 clear hX hY;go_loop [9] (fun i=>∃k:Nat,1≤k∧(k:Int)≤1048577∧i= .int .i64 k∧qP (X.drop 1) Y=qP (X.drop k) Y) (fun i=>X.length - (intOf i).toNat)
 case atStart=>exact⟨1,by omega,by omega,rfl,rfl⟩
 case round=>
  obtain⟨k,hk,hk2,rfl,hn⟩:=hrel;have HN:=zH hn;clear hn;by_cases hlt:k<X.length
  ·obtain⟨ad,rfl,_,hcell⟩:=HL3'.out.at_ (k:=k) (by simpa using hlt);have E1:=zH (Wr hlt);simp only[List.getElem_map]at hcell;generalize X[k]=x at*
   by_cases hin:zR Y x=true
   ·have R:=zH (show qP (X.drop 1) Y=(3,x)by rw[HN.out,E1.out];simp only[qP];rw[Xb hin]);have HI:=zH hin;clear HN E1 hin;go_wp2_with(go_at_call 66;(with_reducible refine(Ju Y x _ _ _ _ (by have:=hLB.out;omega) HL4.out).mono ?_);rintro e w5 ⟨he,rfl⟩;rw[HI.out]at he;subst he)
    rw[J2.out,R.out];refine Xn (v:=zA 3 x) ?_ rfl ⟨rfl,?_⟩
    ·simp[results,Tryz.results100,go_sem,d4,d5]
    ·exact HW.out.trans (((HF.out.mono (by simp;omega)).setCell (by simp;omega) _).setCell (by simp;omega) _)
   ·have R:=zH (show qP (X.drop 1) Y=qP (X.drop (k+1)) Y by rw[HN.out,E1.out];simp only[qP];rw[Xa hin]);have HI:=zH (show zR Y x=false by simpa using hin);clear HN E1 hin;go_wp2_with(go_at_call 66;(with_reducible refine(Ju Y x _ _ _ _ (by have:=hLB.out;omega) HL4.out).mono ?_);rintro e w5 ⟨he,rfl⟩;rw[HI.out]at he;subst he)
    go_round
    case rel=>exact⟨k+1,by omega,by have:=hLA.out;omega,by go_num,R.out⟩
    case measure=>simp[intOf];omega
  ·have R:=zH (show qP (X.drop 1) Y=(0,0)by rw[HN.out,List.drop_eq_nil_of_le (by omega)];rfl);clear HN;go_wp2_with fail
   rw[J2.out,R.out];refine Xn (v:=zA 0 0) ?_ rfl ⟨rfl,?_⟩
   ·simp[results,Tryz.results100,go_sem,d4,d5]
   ·exact HW.out.trans (((HF.out.mono (by simp;omega)).setCell (by simp;omega) _).setCell (by simp;omega) _)
theorem qn0(sup:List Int)(k n k' n':Int)(A:Option Addr)(cap B:Nat)(w:World)(hl:sup.length≤1048576)(hB:B≤w.heap.size)(h:qD w B A sup):
  Calls Tryz.prog 100 #[.slice A sup.length cap,zA k n,zA k' n'] w fun e w'=>e= .returned (zA (qe sup k n k' n').1 (qe sup k n k' n').2)∧Below w.heap.size w w':=by
 by_cases h1:zw sup k n k' n'=true
 ·exact q4m sup k n k' n' A cap B w hl hB h (.inr (.inl h1))
 ·by_cases h2:zw sup k' n' k n=true
  ·exact q4m sup k n k' n' A cap B w hl hB h (.inr (.inr h2))
  ·by_cases h3:k=3∧k'=3
   ·obtain⟨rfl,rfl⟩:=h3;have e:qe sup 3 n 3 n'=qP ((zv sup n).drop 1) (zv sup n'):=by unfold qe;rw[Xa h1,Xa h2,Xb ⟨rfl,rfl⟩]
    rw[e];exact qqx sup n n' A cap B w hl hB h (by simpa using h1) (by simpa using h2)
   ·exact q4m sup k n k' n' A cap B w hl hB h (.inl h3)
theorem q7k(m:List Int):∀l:List Int,l.Pairwise (· > ·)→(qP l m=(0,0)∧∀x ∈l,x ∉m)∨∃x,qP l m=(3,x)∧x ∈l∧x ∈m∧∀y ∈l,y ∈m→y≤x
 | [],_=> .inl ⟨rfl,by simp⟩
 |x::r,h=>by
  obtain⟨h1,h2⟩:=List.pairwise_cons.mp h;by_cases hx:x ∈m
  ·refine .inr ⟨x,by simp only[qP];rw[Xb (QY.mpr hx)],XE,hx,fun y hy _=> ?_⟩;rcases Xz.mp hy with rfl|hy
   ·omega
   ·have:=h1 y hy;omega
  ·have e:qP (x::r) m=qP r m:=by simp only[qP];rw[Xa (fun g=>hx (QY.mp g))]
   rw[e];rcases q7k m r h2 with⟨h3,h4⟩|⟨z,h3,h4,h5,h6⟩
   ·refine .inl ⟨h3,fun y hy=> ?_⟩;rcases Xz.mp hy with rfl|hy
    ·exact hx
    ·exact h4 y hy
   ·refine .inr ⟨z,h3,XI _ h4,h5,fun y hy hm=> ?_⟩;rcases Xz.mp hy with rfl|hy
    ·exact absurd hm hx
    ·exact h6 y hy hm
theorem q2t{sup:List Int}{n n':Int}(h1:n' ∉zv sup n)(h2:n ∉zv sup n'):
  (qP ((zv sup n).drop 1) (zv sup n')=(0,0)∧∀x ∈zv sup n,x ∉zv sup n')∨
  ∃x,qP ((zv sup n).drop 1) (zv sup n')=(3,x)∧x ∈zv sup n∧x ∈zv sup n'∧∀y ∈zv sup n,y ∈zv sup n'→y≤x:=by
 by_cases hv:0≤n∧n<sup.length
 ·obtain⟨s,hs⟩:=q2g hv.1 hv.2;have hd:=qll sup n;have e:=VU hv.1 hs;generalize zv sup n=L at*
  subst e;simp only[List.drop_succ_cons,List.drop_zero];obtain⟨g1,g2⟩:=List.pairwise_cons.mp hd;rcases q7k (zv sup n') _ g2 with⟨h3,h4⟩|⟨z,h3,h4,h5,h6⟩
  ·refine .inl ⟨h3,fun y hy=> ?_⟩;rcases Xz.mp hy with rfl|hy
   ·exact h2
   ·exact h4 y hy
  ·refine .inr ⟨z,h3,XI _ h4,h5,fun y hy hm=> ?_⟩;rcases Xz.mp hy with rfl|hy
   ·exact absurd hm h2
   ·exact h6 y hy hm
 ·rw[JO (show n<0∨(sup.length:Int)≤n by omega)];exact .inl ⟨rfl,by simp⟩
theorem q19{sup:List Int}{k n k' n':Int}(ha:q0q sup k n)(hb:q0q sup k' n'):
  ((qe sup k n k' n').1=0∧∀j m,zw sup k n j m=true→zw sup k' n' j m=true→False)∨
  (¬(qe sup k n k' n').1=0∧zw sup k n (qe sup k n k' n').1 (qe sup k n k' n').2=true∧zw sup k' n' (qe sup k n k' n').1 (qe sup k n k' n').2=true∧
   ∀j m,zw sup k n j m=true→zw sup k' n' j m=true→zw sup (qe sup k n k' n').1 (qe sup k n k' n').2 j m=true):=by
 by_cases h1:zw sup k n k' n'=true
 ·have e:qe sup k n k' n'=(k',n'):=by simp only[qe];rw[Xb h1]
  rw[e];have hk:=(Vk h1).2;exact .inr ⟨by show ¬k'=0;omega,h1,YC hk hb,fun j m _ g=>g⟩
 ·by_cases h2:zw sup k' n' k n=true
  ·have e:qe sup k n k' n'=(k,n):=by simp only[qe];rw[Xa h1,Xb h2]
   rw[e];have hk:=(Vk h2).2;exact .inr ⟨by show ¬k=0;omega,YC hk ha,h2,fun j m g _=>g⟩
  ·by_cases h3:k=3∧k'=3
   ·have e:qe sup k n k' n'=qP ((zv sup n).drop 1) (zv sup n'):=by simp only[qe];rw[Xa h1,Xa h2,Xb h3]
    obtain⟨rfl,rfl⟩:=h3;have a1:n' ∉zv sup n:=fun h=>h1 ((vv ..).mpr (.inr (.inl ⟨rfl,rfl,h⟩)));have a2:n ∉zv sup n':=fun h=>h2 ((vv ..).mpr (.inr (.inl ⟨rfl,rfl,h⟩)));rw[e];rcases q2t a1 a2 with⟨e1,g1⟩|⟨x,e1,g1,g2,g3⟩
    ·rw[e1];refine .inl ⟨rfl,fun j m f g=> ?_⟩;rw[vv]at f g;rcases f with⟨f,_⟩|⟨_,rfl,f⟩|⟨f,_,_⟩
     ·omega
     ·rcases g with⟨g,_⟩|⟨_,_,g⟩|⟨g,_,_⟩
      ·omega
      ·exact g1 m f g
      ·omega
     ·omega
    ·rw[e1];refine .inr ⟨by show ¬(3:Int)=0;decide,(vv ..).mpr (.inr (.inl ⟨rfl,rfl,g1⟩)),(vv ..).mpr (.inr (.inl ⟨rfl,rfl,g2⟩)),fun j m f g=> ?_⟩;rw[vv]at f g;rcases f with⟨f,_⟩|⟨_,rfl,f⟩|⟨f,_,_⟩
     ·omega
     ·rcases g with⟨g,_⟩|⟨_,_,g⟩|⟨g,_,_⟩
      ·omega
      ·exact(vv ..).mpr (.inr (.inl ⟨rfl,rfl,qlk g1 f (g3 m f g)⟩))
      ·omega
     ·omega
   ·have e:qe sup k n k' n'=(0,0):=by simp only[qe];rw[Xa h1,Xa h2,Xa h3]
    rw[e];refine .inl ⟨rfl,fun j m f g=> ?_⟩;rw[vv]at f g h1 h2;rcases f with⟨rfl,f⟩|⟨rfl,rfl,f⟩|⟨f,rfl,rfl⟩
    ·rcases g with⟨rfl,g⟩|⟨rfl,rfl,g⟩|⟨g,rfl,rfl⟩
     ·exact h1 (.inl ⟨rfl,by omega⟩)
     ·exact h1 (.inl ⟨rfl,by omega⟩)
     ·exact h1 (.inl ⟨rfl,f⟩)
    ·rcases g with⟨rfl,g⟩|⟨rfl,_,g⟩|⟨g,rfl,rfl⟩
     ·exact h2 (.inl ⟨rfl,by omega⟩)
     ·exact h3 ⟨rfl,rfl⟩
     ·omega
    ·exact h2 (g)
theorem qkc(k n cap:Nat)(ad:Addr)(x y z:Int)(w:World)(hk:k<n)(hn:n≤9223372036854775807)(hab:ad.block<w.heap.size)
  (r0:w.cell? (ad.add (k*3))=some (.int .i64 x)) (r1:w.cell? (zc (ad.add (k*3)) 1)=some (.int .i64 y)) (r2:w.cell? (zc (ad.add (k*3)) 2)=some (.int .i64 z)):
  Calls Tryz.prog 135 #[.slice (some ad) n cap,.int .i64 k] w fun e w'=>e= .returned (.tuple #[zz x y z,.bool true])∧Below w.heap.size w w':=by
 have HW:=zH ((zb w.heap.size w).alloc (zn _) (.cells #[.int .i64 0,.int .i64 0,.int .i64 0] 55));have r0:=(HW.out.cell (p:=ad.add (k*3)) (by rw[zp];exact hab)).trans r0;have r1:=(HW.out.cell (p:=zc (ad.add (k*3)) 1) (by show(ad.add _).block<_;rw[zp];exact hab)).trans r1;have r2:=(HW.out.cell (p:=zc (ad.add (k*3)) 2) (by show(ad.add _).block<_;rw[zp];exact hab)).trans r2;go_enter Tryz.func135,Tryz.ntmps135;go_wp2
 exact Xn (v:= .tuple #[zz x y z,.bool true]) (by simp[results,Tryz.results135,go_sem]) rfl ⟨rfl,(zb _ _).alloc (zn _) _⟩
theorem q99{P:Prop}(h:P:=by
 go_enter Tryz.func135,Tryz.ntmps135;go_wp2
 exact Xn (v:= .tuple #[zz 0 0 0,.bool false]) (by simp[results,Tryz.results135,go_sem]) rfl ⟨rfl,((zb _ _).alloc (zn _) _).alloc (by simp) _⟩):P:=h
theorem qbm(k:Int)(n cap:Nat)(A:Option Addr)(w:World)(hn:n≤9223372036854775807)(hk:k<0∨(n:Int)≤k):
  Calls Tryz.prog 135 #[.slice A n cap,.int .i64 k] w fun e w'=>e= .returned (.tuple #[zz 0 0 0,.bool false])∧Below w.heap.size w w':=by
 by_cases h0:k<0
 ·clear hk;exact q99
 ·have h1:(n:Int)≤k:=by omega
  have h2:0≤k:=by omega
  clear hk h0;exact q99
theorem qk9(k n cap:Nat)(ad:Addr)(x y:Int)(w:World)(hk:k<n)(hn:n≤9223372036854775807)(hab:ad.block<w.heap.size)
  (r0:w.cell? (ad.add (k*2))=some (.int .i64 x)) (r1:w.cell? (zc (ad.add (k*2)) 1)=some (.int .i64 y)):
  Calls Tryz.prog 196 #[.slice (some ad) n cap,.int .i64 k] w fun e w'=>e= .returned (.tuple #[zA x y,.bool true])∧Below w.heap.size w w':=by
 have HW:=zH ((zb w.heap.size w).alloc (zn _) (.cells #[.int .i64 0,.int .i64 0] 50));have r0:=(HW.out.cell (p:=ad.add (k*2)) (by rw[zp];exact hab)).trans r0;have r1:=(HW.out.cell (p:=zc (ad.add (k*2)) 1) (by show(ad.add _).block<_;rw[zp];exact hab)).trans r1;go_enter Tryz.func196,Tryz.ntmps196;go_wp2
 exact Xn (v:= .tuple #[zA x y,.bool true]) (by simp[results,Tryz.results196,go_sem]) rfl ⟨rfl,(zb _ _).alloc (zn _) _⟩
theorem qgu(k n cap:Nat)(ad:Addr)(A0 A1 A4 A7:Option Addr)(n0 c0 n1 c1 n4 c4 n7 c7:Nat)(u2 u3 u5 u6:Int)(w:World)(hk:k<n)(hn:n≤9223372036854775807)(hab:ad.block<w.heap.size)
  (r0:w.cell? (ad.add (k*8))=some (.slice A0 n0 c0)) (r1:w.cell? (zc (ad.add (k*8)) 1)=some (.slice A1 n1 c1)) (r2:w.cell? (zc (ad.add (k*8)) 2)=some (.int .i64 u2)) (r3:w.cell? (zc (ad.add (k*8)) 3)=some (.int .i64 u3)) (r4:w.cell? (zc (ad.add (k*8)) 4)=some (.slice A4 n4 c4)) (r5:w.cell? (zc (ad.add (k*8)) 5)=some (.int .i64 u5)) (r6:w.cell? (zc (ad.add (k*8)) 6)=some (.int .i64 u6)) (r7:w.cell? (zc (ad.add (k*8)) 7)=some (.slice A7 n7 c7)):
  Calls Tryz.prog 134 #[.slice (some ad) n cap,.int .i64 k] w fun e w'=>e= .returned (.tuple #[.agg #[.slice A0 n0 c0,.slice A1 n1 c1,.int .i64 u2,.int .i64 u3,.slice A4 n4 c4,.int .i64 u5,.int .i64 u6,.slice A7 n7 c7],.bool true])∧Below w.heap.size w w':=by
 have HW:=zH ((zb w.heap.size w).alloc (zn _) (.cells #[.slice none 0 0,.slice none 0 0,.int .i64 0,.int .i64 0,.slice none 0 0,.int .i64 0,.int .i64 0,.slice none 0 0] 53));have r0:=(HW.out.cell (p:=ad.add (k*8)) (by rw[zp];exact hab)).trans r0;have r1:=(HW.out.cell (p:=zc (ad.add (k*8)) 1) (by show(ad.add _).block<_;rw[zp];exact hab)).trans r1;have r2:=(HW.out.cell (p:=zc (ad.add (k*8)) 2) (by show(ad.add _).block<_;rw[zp];exact hab)).trans r2;have r3:=(HW.out.cell (p:=zc (ad.add (k*8)) 3) (by show(ad.add _).block<_;rw[zp];exact hab)).trans r3;have r4:=(HW.out.cell (p:=zc (ad.add (k*8)) 4) (by show(ad.add _).block<_;rw[zp];exact hab)).trans r4;have r5:=(HW.out.cell (p:=zc (ad.add (k*8)) 5) (by show(ad.add _).block<_;rw[zp];exact hab)).trans r5;have r6:=(HW.out.cell (p:=zc (ad.add (k*8)) 6) (by show(ad.add _).block<_;rw[zp];exact hab)).trans r6;have r7:=(HW.out.cell (p:=zc (ad.add (k*8)) 7) (by show(ad.add _).block<_;rw[zp];exact hab)).trans r7;go_enter Tryz.func134,Tryz.ntmps134;go_wp2
 exact Xn (v:= .tuple #[.agg #[.slice A0 n0 c0,.slice A1 n1 c1,.int .i64 u2,.int .i64 u3,.slice A4 n4 c4,.int .i64 u5,.int .i64 u6,.slice A7 n7 c7],.bool true]) (by simp[results,Tryz.results134,go_sem]) rfl ⟨rfl,(zb _ _).alloc (zn _) _⟩
theorem q9a{P:Prop}(h:P:=by
 go_enter Tryz.func134,Tryz.ntmps134;go_wp2
 exact Xn (v:= .tuple #[.agg #[.slice none 0 0,.slice none 0 0,.int .i64 0,.int .i64 0,.slice none 0 0,.int .i64 0,.int .i64 0,.slice none 0 0],.bool false]) (by simp[results,Tryz.results134,go_sem]) rfl ⟨rfl,((zb _ _).alloc (zn _) _).alloc (by simp) _⟩):P:=h
theorem qkb(k:Int)(n cap:Nat)(A:Option Addr)(w:World)(hn:n≤9223372036854775807)(hk:k<0∨(n:Int)≤k):
  Calls Tryz.prog 134 #[.slice A n cap,.int .i64 k] w fun e w'=>e= .returned (.tuple #[.agg #[.slice none 0 0,.slice none 0 0,.int .i64 0,.int .i64 0,.slice none 0 0,.int .i64 0,.int .i64 0,.slice none 0 0],.bool false])∧Below w.heap.size w w':=by
 by_cases h0:k<0
 ·clear hk;exact q9a
 ·have h1:(n:Int)≤k:=by omega
  have h2:0≤k:=by omega
  clear hk h0;exact q9a
theorem qka(k n cap:Nat)(ad:Addr)(hx:qh)(x:zf)(w:World)(hk:k<n)(hn:n≤9223372036854775807)(hab:ad.block<w.heap.size)(hc:YZ w (ad.add (k*8)) hx x):
  Calls Tryz.prog 134 #[.slice (some ad) n cap,.int .i64 k] w fun e w'=>e= .returned (.tuple #[jH hx x,.bool true])∧Below w.heap.size w w':=
 qgu k n cap ad _ _ _ _ _ _ _ _ _ _ _ _ _ _ _ _ w hk hn hab hc.c0 hc.c1 hc.c2 hc.c3 hc.c4 hc.c5 hc.c6 hc.c7
theorem Vp{m:za}{h:zg}{w0 w:World}{f:Nat}{x:zf}(HI:Hid (zi w0 w0.heap.size h m))(HX:Hid (Below w0.heap.size w0 w))(hx:m.methods[f]? =some x):
  Calls Tryz.prog 134 #[.slice h.A3 m.methods.length h.c3,.int .i64 f] w fun e w'=>∃hn,e= .returned (.tuple #[jH hn x,.bool true])∧qL w' w'.heap.size hn x∧Below w.heap.size w w':=by
 have H:=HI.out.now HX.out;have hf:f<m.methods.length:=by
  rcases Xj f m.methods.length with g|g
  ·exact g
  ·rw[Xu g]at hx;cases hx
 rw[Xc hf]at hx;injection hx with hx;subst hx;obtain⟨ad,hn,e,hb,hm,hc⟩:=jJ H hf;rw[e];have h1:=H.methods.le;have h2:=H.methods.cap;refine(qka f _ _ ad hn _ w hf (by omega) hb hc).mono ?_;rintro e w' ⟨rfl,hw⟩;exact⟨hn,rfl,hm.now hw,hw⟩
theorem q50{l:List (Int×Int)}{A:Option Addr}{cap:Nat}{w:World}{k:Nat}{t:Int×Int}(H:zd zh 2 w w.heap.size A cap l)(ht:l[k]? =some t):
  Calls Tryz.prog 196 #[.slice A l.length cap,.int .i64 k] w fun e w'=>e= .returned (.tuple #[zA t.1 t.2,.bool true])∧Below w.heap.size w w':=by
 have hk:k<l.length:=by
  rcases Xj k l.length with g|g
  ·exact g
  ·rw[Xu g]at ht;cases ht
 rw[Xc hk]at ht;injection ht with ht;subst ht;obtain⟨ad,rfl,hb,h0,h1⟩:=H.row.at_ hk;have g1:=H.le;have g2:=H.cap;exact qk9 k _ _ ad _ _ w hk (by omega) hb h0 h1
theorem qot{l:List (Int×Int×Int)}{A:Option Addr}{cap:Nat}{w:World}{k:Nat}{t:Int×Int×Int}(H:zd jb 3 w w.heap.size A cap l)(ht:l[k]? =some t):
  Calls Tryz.prog 135 #[.slice A l.length cap,.int .i64 k] w fun e w'=>e= .returned (.tuple #[zz t.1 t.2.1 t.2.2,.bool true])∧Below w.heap.size w w':=by
 have hk:k<l.length:=by
  rcases Xj k l.length with g|g
  ·exact g
  ·rw[Xu g]at ht;cases ht
 rw[Xc hk]at ht;injection ht with ht;subst ht;obtain⟨ad,rfl,hb,h0,h1,h2⟩:=H.row.at_ hk;have g1:=H.le;have g2:=H.cap;exact qkc k _ _ ad _ _ _ w hk (by omega) hb h0 h1 h2
abbrev qn(h:zg)(m:za)(op a b:Int)(w:World):World:=(w.alloc (zo h m)).alloc (.cells #[.int .i64 op,.int .i64 a,.int .i64 b] 55)
structure q6i(w1:World)(N:Nat)(h:zg)(m:za)(op a b:Int):Prop where
 img:Zs w1 N h m
 ins:zW w1 (N+1) [.int .i64 op,.int .i64 a,.int .i64 b]
 size:w1.heap.size=N+1+1
theorem q4g(h:zg)(m:za)(op a b:Int)(w:World):Below w.heap.size w (qn h m op a b w)∧q6i (qn h m op a b w) w.heap.size h m op a b:=by
 have z0:(w.alloc (zo h m)).heap.size=w.heap.size+1:=by simp
 obtain⟨c1,z1,b1⟩:=kr z0 [.int .i64 op,.int .i64 a,.int .i64 b] 55;exact⟨((zb w.heap.size w).alloc (zn _) (zo h m)).trans (b1.mono (by omega)),(zX w h m).keep b1 (by omega),c1,z1⟩
theorem q6i.keep{w w':World}{N:Nat}{h:zg}{m:za}{op a b:Int}(H:q6i w N h m op a b)(hb:Below w.heap.size w w'):Zs w' N h m∧zW w' (N+1) [.int .i64 op,.int .i64 a,.int .i64 b]:=
 ⟨H.img.keep hb (by have:=H.size;omega),H.ins.keep hb (by have:=H.size;omega)⟩
abbrev Ye(h:zg)(m:za)(op a b:Int)(w:World):World:=(qn h m op a b w).alloc (.cells #[.int .i64 0,.int .i64 0] 50)
structure qt1(w1:World)(N:Nat)(h:zg)(m:za)(op a b:Int):Prop where
 img:Zs w1 N h m
 ins:zW w1 (N+1) [.int .i64 op,.int .i64 a,.int .i64 b]
 res:ze w1 (N+1+1) [.int .i64 0,.int .i64 0] 50
 size:w1.heap.size=N+1+1+1
theorem q3d(h:zg)(m:za)(op a b:Int)(w:World):Below w.heap.size w (Ye h m op a b w)∧qt1 (Ye h m op a b w) w.heap.size h m op a b:=by
 obtain⟨h0,h1⟩:=q4g h m op a b w;obtain⟨c1,z1,b1⟩:=kr h1.size [.int .i64 0,.int .i64 0] 50;exact⟨h0.trans (b1.mono (by omega)),h1.img.keep b1 (by omega),h1.ins.keep b1 (by omega),ze.at_ h1.size _ _,z1⟩
theorem q5v{w0 w1 w:World}{N:Nat}{x y:Int}(hb0:Below N w0 w1)(hb:Below w1.heap.size w1 w)(hN:N+1+1<w1.heap.size)(hw:ze w1 (N+1+1) [.int .i64 0,.int .i64 0] 50):
  ((w.setCell ⟨N+1+1,0,none⟩ (.int .i64 x)).setCell ⟨N+1+1,1,none⟩ (.int .i64 y)).cell? ⟨N+1+1,0,none⟩=some (.int .i64 x)∧((w.setCell ⟨N+1+1,0,none⟩ (.int .i64 x)).setCell ⟨N+1+1,1,none⟩ (.int .i64 y)).cell? ⟨N+1+1,1,none⟩=some (.int .i64 y)∧
  Below N w0 ((w.setCell ⟨N+1+1,0,none⟩ (.int .i64 x)).setCell ⟨N+1+1,1,none⟩ (.int .i64 y)):=by
 have h:=((hw.keep hb (by omega)).set 0 (.int .i64 x)).set 1 (.int .i64 y);exact⟨h.cells 0 _ rfl,h.cells 1 _ rfl,((hb0.trans (hb.mono (by omega))).setCell (p:=⟨N+1+1,0,none⟩) (by show N≤N+1+1;omega) _).setCell (p:=⟨N+1+1,1,none⟩) (by show N≤N+1+1;omega) _⟩
theorem qou(m:za)(f:Nat)(x:zf)(h:zg)(w:World)(H:zi w w.heap.size h m)(hx:m.methods[f]? =some x):
  Calls Tryz.prog 175 #[zk h m,.int .i64 f] w (qd x.args w):=by
 have HW:=zH ((zb w.heap.size w).alloc (zn _) (zo h m));have HI:=zH (H.now HW.out);have HBX:=zH (zX w h m);clear H;go_enter Tryz.func175,Tryz.ntmps175;go_upto_region 1 with fail
 generalize w.alloc (zo h m)=w1 at*
 obtain⟨q0,q1,q2,q3,q4,q5,q6⟩:=HBX.out;have HX0:Hid (Below w1.heap.size w1 w1):=zH (zb _ _);go_upto_region 2 with(go_at_call 134;(with_reducible refine(Vp HI HX0 hx).mono ?_);rintro e w2 ⟨hn,rfl,hm,hb⟩;have HM2:=zH hm;have HB2:=zH hb;clear hm hb)
 have HC:=zH (qa w2 (zL hn x) 53);have HA:Hid (Below w2.heap.size w2 (w2.alloc (.cells (zL hn x).toArray 53))):=zH ((zb _ _).alloc (zn _) _);have HM3:=zH (HM2.out.now HA.out);have HW3:=zH (HW.out.trans ((HB2.out.trans (HA.out.mono HB2.out.size)).mono HW.out.size));generalize w2.alloc (.cells (zL hn x).toArray 53)=w3 at*
 have c0:=HC.out 0 _ rfl;go_wp2_with fail
 go_ret;exact⟨_,_,rfl,HM3.out.args,HW3.out⟩
theorem qd6{m:za}{h:zg}{w0 w:World}{f:Nat}{x:zf}(HI:Hid (zi w0 w0.heap.size h m))(HX:Hid (Below w0.heap.size w0 w))(hx:m.methods[f]? =some x):
  Calls Tryz.prog 175 #[zk h m,.int .i64 f] w (qd x.args w):=qou m f x h w (HI.out.now HX.out) hx
theorem qgn(m:za)(f:Nat)(x:zf)(h:zg)(w:World)(H:zi w w.heap.size h m)(hx:m.methods[f]? =some x):
  Calls Tryz.prog 178 #[zk h m,.int .i64 f] w (qd (qR x) w):=by
 have HW:=zH ((zb w.heap.size w).alloc (zn _) (zo h m));have HI:=zH (H.now HW.out);have HBX:=zH (zX w h m);have HLE:=zH hx;clear H hx;by_cases h5:x.ret.1=5
 ·have e:qR x=[]:=by unfold qR;rw[Xb h5]
  rw[e];have H5:=zH h5;clear e h5;go_enter Tryz.func178,Tryz.ntmps178;go_upto_region 1 with fail
  generalize w.alloc (zo h m)=w1 at*
  obtain⟨q0,q1,q2,q3,q4,q5,q6⟩:=HBX.out;have HX0:Hid (Below w1.heap.size w1 w1):=zH (zb _ _);go_upto_region 2 with(go_at_call 134;(with_reducible refine(Vp HI HX0 HLE.out).mono ?_);rintro e w2 ⟨hn,rfl,hm,hb⟩;have HM2:=zH hm;have HB2:=zH hb;clear hm hb)
  have HC:=zH (qa w2 (zL hn x) 53);have HA:Hid (Below w2.heap.size w2 (w2.alloc (.cells (zL hn x).toArray 53))):=zH ((zb _ _).alloc (zn _) _);have HZ:Hid (w2.heap.size<(w2.alloc (.cells (zL hn x).toArray 53)).heap.size):=zH (by simp);have HW3:=zH (HW.out.trans ((HB2.out.trans (HA.out.mono HB2.out.size)).mono HW.out.size));generalize w2.alloc (.cells (zL hn x).toArray 53)=w3 at*
  have c2:=HC.out 2 _ rfl;have c3:=HC.out 3 _ rfl;have hz:=HZ.out;rw[H5.out]at c2;go_wp2_with fail
  go_ret;exact⟨none,0,rfl,ja,HW3.out⟩
 ·have e:qR x=[x.ret]:=by unfold qR;rw[Xa h5]
  rw[e];clear e;go_enter Tryz.func178,Tryz.ntmps178;go_upto_region 1 with fail
  generalize w.alloc (zo h m)=w1 at*
  obtain⟨q0,q1,q2,q3,q4,q5,q6⟩:=HBX.out;have HX0:Hid (Below w1.heap.size w1 w1):=zH (zb _ _);go_upto_region 2 with(go_at_call 134;(with_reducible refine(Vp HI HX0 HLE.out).mono ?_);rintro e w2 ⟨hn,rfl,hm,hb⟩;have HM2:=zH hm;have HB2:=zH hb;clear hm hb)
  have HC:=zH (qa w2 (zL hn x) 53);have HA:Hid (Below w2.heap.size w2 (w2.alloc (.cells (zL hn x).toArray 53))):=zH ((zb _ _).alloc (zn _) _);have HZ:Hid (w2.heap.size<(w2.alloc (.cells (zL hn x).toArray 53)).heap.size):=zH (by simp);have HW3:=zH (HW.out.trans ((HB2.out.trans (HA.out.mono HB2.out.size)).mono HW.out.size));generalize w2.alloc (.cells (zL hn x).toArray 53)=w3 at*
  have c2:=HC.out 2 _ rfl;have c3:=HC.out 3 _ rfl;have hz:=HZ.out;go_wp2_with fail
  go_ret;refine⟨_,_,rfl,jV (by simp;try omega) (by go_simp) (by go_simp),HW3.out.trans ((zb _ _).alloc (HW3.out.size) _)⟩
theorem q47{m:za}{h:zg}{w0 w:World}{f:Nat}{x:zf}(HI:Hid (zi w0 w0.heap.size h m))(HX:Hid (Below w0.heap.size w0 w))(hx:m.methods[f]? =some x):
  Calls Tryz.prog 178 #[zk h m,.int .i64 f] w (qd (qR x) w):=qgn m f x h w (HI.out.now HX.out) hx
theorem qoi(m:za)(op a b:Int)(k:Nat)(h:zg)(w:World)(H:zi w w.heap.size h m)(hs:jK m.classes a b=some (k:Int)):
  Calls Tryz.prog 177 #[zk h m,zz op a b] w fun e w'=>e= .returned (.int .i64 k)∧Below w.heap.size w w':=by
 obtain⟨hw,hp⟩:=q4g h m op a b w;have HW:=zH hw;have HP:=zH hp;have HI:=zH (H.now hw);have HS:=zH hs;clear hw hp H hs;go_enter Tryz.func177,Tryz.ntmps177;go_upto_region 1 with fail
 change Code.wp _ _ _ _ (qn h m op a b w);generalize qn h m op a b w=w1 at*
 obtain⟨q0,q1,q2,q3,q4,q5,q6⟩:=HP.out.img;have o1:=HP.out.ins 1 _ rfl;have o2:=HP.out.ins 2 _ rfl;have HX0:Hid (Below w1.heap.size w1 w1):=zH (zb _ _);go_wp2_with(go_at_call 198;(with_reducible refine(q5m HI HX0 HS).mono ?_);rintro e w2 ⟨rfl,hb⟩;have HB2:=zH hb;clear hb;dsimp only[Option.getD,Option.isSome])
 go_ret;exact⟨rfl,HW.out.trans (HB2.out.mono HW.out.size)⟩
theorem qd1{m:za}{h:zg}{w0 w:World}{op a b:Int}{k:Nat}(HI:Hid (zi w0 w0.heap.size h m))(HX:Hid (Below w0.heap.size w0 w))(HS:Hid (jK m.classes a b=some (k:Int))):
  Calls Tryz.prog 177 #[zk h m,zz op a b] w fun e w'=>e= .returned (.int .i64 k)∧Below w.heap.size w w':=qoi m op a b k h w (HI.out.now HX.out) HS.out
theorem qgm(m:za)(op b:Int)(j:Nat)(t:Int×Int)(h:zg)(w:World)(H:zi w w.heap.size h m)(hs:m.statics[j]? =some t):
  Calls Tryz.prog 174 #[zk h m,zz op j b] w fun e w'=>e= .returned (zA t.1 t.2)∧Below w.heap.size w w':=by
 obtain⟨hw,hp⟩:=q3d h m op j b w;have HW:=zH hw;have HP:=zH hp;have HI:=zH (H.now hw);have HS:=zH hs;clear hw hp H hs;go_enter Tryz.func174,Tryz.ntmps174;go_upto_region 1 with fail
 change Code.wp _ _ _ _ (Ye h m op j b w);generalize Ye h m op j b w=w1 at*
 obtain⟨q0,q1,q2,q3,q4,q5,q6⟩:=HP.out.img;have o1:=HP.out.ins 1 _ rfl;go_upto_region 2 with(go_at_call 196;(with_reducible refine(q50 HI.out.statics HS.out).mono ?_);rintro e w2 ⟨rfl,hb⟩;have HB2:=zH hb;clear hb)
 have hA:Below w2.heap.size w2 (w2.alloc (.cells #[.int .i64 t.1,.int .i64 t.2] 50)):=(zb _ _).alloc (zn _) _;have HC:=zH (qa w2 [.int .i64 t.1,.int .i64 t.2] 50);have HB3:=zl HB2 hA;clear hA;generalize w2.alloc (.cells #[.int .i64 t.1,.int .i64 t.2] 50)=w3 at*
 have c0:=HC.out 0 _ rfl;have c1:=HC.out 1 _ rfl;have hq:=HP.out.res.keep HB3.out HP.out.res.lt;have f0:=hq.free 0;have f1:=hq.free 1;have r0:=hq.cells 0 _ rfl;have r1:=hq.cells 1 _ rfl;clear hq;go_wp2_with fail
 obtain⟨d0,d1,db⟩:=q5v (x:=t.1) (y:=t.2) HW.out HB3.out HP.out.res.lt HP.out.res;exact Xn (v:=zA t.1 t.2) (by simp[results,Tryz.results174,go_sem,d0,d1]) rfl ⟨rfl,db⟩
theorem q9k{m:za}{h:zg}{w0 w:World}{op b:Int}{j:Nat}{t:Int×Int}(HI:Hid (zi w0 w0.heap.size h m))(HX:Hid (Below w0.heap.size w0 w))(HS:Hid (m.statics[j]? =some t)):
  Calls Tryz.prog 174 #[zk h m,zz op j b] w fun e w'=>e= .returned (zA t.1 t.2)∧Below w.heap.size w w':=qgm m op b j t h w (HI.out.now HX.out) HS.out
theorem qjz(m:za)(op a b:Int)(f:Nat)(x:zf)(t:Int×Int)(h:zg)(w:World)(H:zi w w.heap.size h m)(hx:m.methods[f]? =some x)(hs:a≤9223372036854775807)(ht:qm x a=t):
  Calls Tryz.prog 172 #[zk h m,zz op a b,.int .i64 f] w fun e w'=>e= .returned (zA t.1 t.2)∧Below w.heap.size w w':=by
 subst ht;obtain⟨hw,hp⟩:=q3d h m op a b w;have HW:=zH hw;have HP:=zH hp;have HI:=zH (H.now hw);have HLE:=zH hx;clear hw hp H hx;go_enter Tryz.func172,Tryz.ntmps172;go_upto_region 1 with fail
 change Code.wp _ _ _ _ (Ye h m op a b w);generalize Ye h m op a b w=w1 at*
 obtain⟨q0,q1,q2,q3,q4,q5,q6⟩:=HP.out.img;have HX0:Hid (Below w1.heap.size w1 w1):=zH (zb _ _);go_upto_region 2 with(go_at_call 134;(with_reducible refine(Vp HI HX0 HLE.out).mono ?_);rintro e w2 ⟨hn,rfl,hm,hb⟩;have HM2:=zH hm;have HB2:=zH hb;clear hm hb)
 have HC:=zH (qa w2 (zL hn x) 53);have HA:Hid (Below w2.heap.size w2 (w2.alloc (.cells (zL hn x).toArray 53))):=zH ((zb _ _).alloc (zn _) _);have HM3:=zH (HM2.out.now HA.out);have HB3:=zH (HB2.out.trans (HA.out.mono HB2.out.size));generalize w2.alloc (.cells (zL hn x).toArray 53)=w3 at*
 obtain⟨c0,c1,c2,c3,c4,c5,c6,c7⟩:=ck8 HC.out;have o1:=(HP.out.ins.keep HB3.out (by have:=HP.out.size;omega)) 1 _ rfl;clear HC;go_wp2_with(go_at_call 195;(with_reducible refine(qkz x a hs hn w3 HM3.out).mono ?_);rintro e w4 ⟨rfl,hb⟩;have HB4:=zl HB3 hb;have hq:=HP.out.res.keep HB4.out HP.out.res.lt;have f0:=hq.free 0;have f1:=hq.free 1;have r0:=hq.cells 0 _ rfl;have r1:=hq.cells 1 _ rfl;clear hq hb)
 generalize qm x a=t at*
 obtain⟨d0,d1,db⟩:=q5v (x:=t.1) (y:=t.2) HW.out HB4.out HP.out.res.lt HP.out.res;exact Xn (v:=zA t.1 t.2) (by simp[results,Tryz.results172,go_sem,d0,d1]) rfl ⟨rfl,db⟩
theorem qbk{m:za}{h:zg}{w0 w:World}{op a b:Int}{f:Nat}{x:zf}{t:Int×Int}(HI:Hid (zi w0 w0.heap.size h m))(HX:Hid (Below w0.heap.size w0 w))(hx:m.methods[f]? =some x)(hs:a≤9223372036854775807)(HT:Hid (qm x a=t)):
  Calls Tryz.prog 172 #[zk h m,zz op a b,.int .i64 f] w fun e w'=>e= .returned (zA t.1 t.2)∧Below w.heap.size w w':=qjz m op a b f x t h w (HI.out.now HX.out) hx hs HT.out
def jm(a k:Int):Int×Int:=(k,if k=3 then a else 0)
def zQ(a:Int)(ks:List Int):List (Int×Int):=ks.map (jm a)
abbrev mkF(N:Nat):Value:= .func (.func 194) #[] #[.pointer (some ⟨N,0,none⟩)]
theorem qjy(op a b:Int)(w:World):
  Calls Tryz.prog 171 #[zz op a b] w fun e w'=>e= .returned (mkF w.heap.size)∧w'=w.alloc (.cells #[.int .i64 op,.int .i64 a,.int .i64 b] 55):=by
 go_enter Tryz.func171,Tryz.ntmps171;go_wp2
 go_ret;exact⟨rfl,rfl⟩
theorem q5y{w:World}{g:Nat}{x y:Int}(hg:g<w.heap.size)(h0:w.cell? ⟨g,0,none⟩=some (.int .i64 x))(h1:w.cell? ⟨g,1,none⟩=some (.int .i64 y)):zx w w.heap.size (some ⟨g,0,none⟩) (zI [(x,y)]):=Zn (jV hg h0 h1).row
theorem quo(ks:List Int)(op a b:Int)(N:Nat)(A:Option Addr)(c:Nat)(w:World)(hN:N<w.heap.size)(hc:zW w N [.int .i64 op,.int .i64 a,.int .i64 b])(h:zd zq 1 w w.heap.size A c ks)(hl:ks.length≤1000):
  Calls Tryz.prog 194 #[.slice A ks.length c,.pointer (some ⟨N,0,none⟩)] w (QX (zQ a ks) w):=by
 obtain⟨i0,hi,hz0,hz1,hz2⟩:=qQ ZY;have HN:=zH hN;have HC:=zH hc;have HS:=zH h;have hle:=h.le;have hcap:=h.cap;clear hN hc h;go_enter Tryz.func194,Tryz.ntmps194;go_wp2_with fail
 go_loopw [4,10] (fun v i wr=>∃k:Nat,k≤ks.length∧i= .int .i64 k∧Hid (wr.ownsRow w.heap.size 50 2 v k (zI (zQ a (ks.take k))))∧Hid (Below w.heap.size w wr)) (fun _ i _=>ks.length - (intOf i).toNat)
 case atStart=>exact⟨0,by omega,rfl,zH (XT _ _ _ _),zH (zb _ _)⟩
 case round=>
  obtain⟨k,hk,rfl,HO,HX⟩:=hrel;by_cases hlt:k<ks.length
  ·obtain⟨ad,rfl,hab,hcz⟩:=(HS.out.below_to zq.keeps HX.out (zn _)).row.at_ hlt;have HT:Hid (zQ a (ks.take (k+1))=zQ a (ks.take k)++[jm a ks[k]]):=zH (by unfold zQ;rw[List.take_succ_eq_append_getElem hlt,XX];rfl);obtain⟨L,hL⟩:∃L,zQ a (ks.take k)=L:=⟨_,rfl⟩
   have hLl:L.length=k:=by rw[←hL];unfold zQ;rw[Xi,XU];omega
   rw[hL]at HT HO;generalize ks[k]=z at*
   have hcz:wr.cell? (ad.add k)=some (.int .i64 z):=by have:=hcz;rw[Xq]at this;exact this
   have o1:=(HC.out.keep HX.out HN.out) 1 _ rfl;have hsz:=HX.out.size;have hNw:N<wr.heap.size:=Xp HN.out hsz;clear hL;by_cases hz3:z=3
   ·subst hz3;go_wp2_with(at_builtin;refine vt rfl _ _ 23 rfl w.heap.size 50 i0 (.agg #[.int .i64 0,.int .i64 0]) 2 16 Tryz.underlying23 hi hz0 hz1 hz2 rfl (by decide) _ k (zI L) rfl ((HO.out.alloc _).alloc _) (some ⟨wr.heap.size+1,0,none⟩) 1 1 _ (zI [(3,a)]) rfl rfl (q5y (by simp) (by go_simp) (by go_simp)) (kb _) (by unfold maxLen;omega) (by omega) (by simp;omega) ?_;intro v6 w6 hown hgrow;have HX6:=zH (qN ((HX.out.alloc hsz _).alloc (by simp;omega) _) ((HO.out.alloc _).alloc _) (by simp;omega) hgrow);have HO6:=zH hown;clear hown hgrow)
    go_roundw;case rel=>exact⟨k+1,by omega,by go_num,zH (by rw[HT.out];show World.ownsRow _ _ _ _ _ _ ((L++[(3,a)]).flatMap tyC);rw[Wc];exact HO6.out),HX6⟩
    case measure=>simp[intOf];omega
   ·have HM:Hid (jm a z=(z,0)):=zH (by unfold jm;rw[Xa hz3]);go_wp2_with(at_builtin;refine vt rfl _ _ 23 rfl w.heap.size 50 i0 (.agg #[.int .i64 0,.int .i64 0]) 2 16 Tryz.underlying23 hi hz0 hz1 hz2 rfl (by decide) _ k (zI L) rfl ((HO.out.alloc _).alloc _) (some ⟨wr.heap.size+1,0,none⟩) 1 1 _ (zI [(z,0)]) rfl rfl (q5y (by simp) (by go_simp) (by go_simp)) (kb _) (by unfold maxLen;omega) (by omega) (by simp;omega) ?_;intro v6 w6 hown hgrow;have HX6:=zH (qN ((HX.out.alloc hsz _).alloc (by simp;omega) _) ((HO.out.alloc _).alloc _) (by simp;omega) hgrow);have HO6:=zH hown;clear hown hgrow)
    go_roundw;case rel=>exact⟨k+1,by omega,by go_num,zH (by rw[HT.out,HM.out];show World.ownsRow _ _ _ _ _ _ ((L++[(z,0)]).flatMap tyC);rw[Wc];exact HO6.out),HX6⟩
    case measure=>simp[intOf];omega
  ·obtain rfl:k=ks.length:=by omega
   have HT:Hid (zQ a (ks.take ks.length)=zQ a ks):=zH (by rw[XP]);have HLN:Hid ((zQ a ks).length=ks.length):=zH (by unfold zQ;rw[Xi]);go_wp2_with fail
   go_ret;refine⟨_,rfl,?_,HX.out⟩;rw[HLN.out,←HT.out];exact HO.out
theorem q2u{ks:List Int}{op a b:Int}{N:Nat}{A:Option Addr}{c:Nat}{w:World}{L:List (Int×Int)}(HL:Hid (zQ a ks=L))(HN:N<w.heap.size)(HC:zW w N [.int .i64 op,.int .i64 a,.int .i64 b])(HS:zd zq 1 w w.heap.size A c ks)(hl:ks.length≤1000):
  Calls Tryz.prog 194 #[.slice A ks.length c,.pointer (some ⟨N,0,none⟩)] w (QX L w):=by
 have H:=quo ks op a b N A c w HN HC HS hl;rw[HL.out]at H;exact H
theorem qon(n:Nat)(hn:n≤1000000)(w:World):
  Calls Tryz.prog 183 #[.slice none 0 0,.int .i64 n] w fun e w'=>∃v,e= .returned v∧w'.ownsRow w.heap.size 50 2 v 0 []∧Below w.heap.size w w':=by
 obtain⟨i0,hi,hz0,hz1,hz2⟩:=qQ ZY;rcases Wo n with rfl|hp
 ·go_enter Tryz.func183,Tryz.ntmps183;go_wp2
  go_ret;exact⟨_,rfl,XT _ _ _ _,zb _ _⟩
 ·have hw1:IntKind.i64.wrap ((n:Int) - 0)=(n:Int):=by rw[Int.sub_zero];exact IntWalk.i64_in _ (by omega)
  have h1:¬((n:Int)<0):=by omega
  have h4:(n:Int)>0:=by omega
  have hrz:∀ty,(Builtin.append_ #[23,3] ty #[.slice none 0 0,.int .i64 n]).run Tryz.prog w=_:=fun ty=>
   Lib.run_append_nil_zeros w 23 3 ty 50 i0 _ .i64 .i64 Tryz.underlying23 Tryz.underlying3 hi hz0 n hp (by omega) (by omega) (by rw[hz2];omega)
  have hg1:=grownCap_ge w n 0 50;have hg2:=grownCap_le_maxLen w n 0 50 (by unfold maxLen;omega);obtain⟨G,hG⟩:∃G,G=grownCap w n 0 50:=⟨_,rfl⟩
  rw[←hG]at hrz hg1 hg2;have hG63:G≤9223372036854775807:=by unfold maxLen at hg2;omega
  have HO:Hid (∀w1,w1=w.drew.alloc (.cells (Builtin.zeroCells (Value.agg #[.int .i64 0,.int .i64 0]).cells n++Builtin.zeroCells (Value.agg #[.int .i64 0,.int .i64 0]).cells (G - n)) 50)→w1.ownsRow w.heap.size 50 2 (.slice (some ⟨w.heap.size,0,none⟩) 0 G) 0 []∧Below w.heap.size w w1):=zH (fun w1 h=>by
   subst h;refine⟨⟨rfl,.inr ⟨w.heap.size,G,_,rfl,zn _,XO _ _,Xl _,hg2,?_,by simp⟩⟩,((zb _ _).drew).alloc (zn _) _⟩;rw[Array.size_append,size_zeroCells,size_zeroCells];show n*2+(G - n)*2=G*2;omega)
  clear hG hi hz0 hz1 hz2;go_enter Tryz.func183,Tryz.ntmps183;go_wp2_with(at_builtin;refine Lib.wpList_append_run _ rfl _ _ _ _ rfl _ _ rfl rfl _ _ (hrz _) ?_)
  go_ret;obtain⟨o1,o2⟩:=HO.out _ rfl;exact⟨_,rfl,o1,o2⟩
theorem qs8{n:Nat}{w:World}{z:Int}(HZ:Hid (z=(n:Int)))(hn:n≤1000000):
  Calls Tryz.prog 183 #[.slice none 0 0,.int .i64 z] w fun e w'=>∃v,e= .returned v∧w'.ownsRow w.heap.size 50 2 v 0 []∧Below w.heap.size w w':=by
 rw[HZ.out];exact qon n hn w
set_option maxHeartbeats 1600000 in
theorem q87(L M:List (Int×Int))(A B:Option Addr)(c d g:Nat)(w:World)(h:zd zh 2 w w.heap.size A c L)(h':zd zh 2 w w.heap.size B d M)(hg:g<w.heap.size)(hc:zW w g [.slice A L.length c,.slice B M.length d])(hL:L.length≤4000)(hM:M.length≤1000):
  Calls Tryz.prog 141 #[.slice (some ⟨g,0,none⟩) 2 2] w (QX (L++M) w):=by
 obtain⟨i0,hi,hz0,hz1,hz2⟩:=qQ ZY;have HL:=zH h;have HM:=zH h';have HC:=zH hc;have HG:=zH hg;have HZ2:Hid ((((L.length+M.length:Nat):Int))=((L.length+M.length:Nat):Int)):=zH rfl;have c0:=hc 0 _ rfl;have c1:=hc 1 _ rfl;have HLM:Hid ((L++M).length=L.length+M.length):=zH Xt;clear h h' hc;go_enter Tryz.func141,Tryz.ntmps141;go_wp2_with fail
 go_loopw [3,11] (fun z i wr=>wr=w∧((i= .int .i64 0∧z= .int .i64 0)∨(i= .int .i64 1∧z= .int .i64 (L.length:Int))∨(i= .int .i64 2∧z= .int .i64 ((L.length+M.length:Nat):Int)))) (fun _ i _=>2 - (intOf i).toNat)
 case atStart=>exact⟨rfl,.inl ⟨rfl,rfl⟩⟩
 case round=>
  obtain⟨hwr,h⟩:=hrel;have hwr:=hwr.symm;subst hwr;rcases h with⟨rfl,rfl⟩|⟨rfl,rfl⟩|⟨rfl,rfl⟩
  ·have hw1:IntKind.i64.wrap (0+(L.length:Int))=(L.length:Int):=by rw[Int.zero_add];exact IntWalk.i64_in _ (by omega)
   have hw2:IntKind.i64.wrap (L.length:Int)=(L.length:Int):=IntWalk.i64_in _ (by omega);have hnn:¬(L.length:Int)<0:=by omega
   go_wp2_with fail
   go_roundw;case rel=>exact⟨trivial,.inr (.inl ⟨by go_num,rfl⟩)⟩
   case measure=>simp[intOf]
  ·have hw1:IntKind.i64.wrap ((L.length:Int)+(M.length:Int))=((L.length+M.length:Nat):Int):=by rw[←Int.natCast_add];exact IntWalk.i64_in _ (by omega)
   have hnn:¬((L.length+M.length:Nat):Int)<0:=by omega
   go_wp2_with fail
   go_roundw;case rel=>exact⟨trivial,.inr (.inr ⟨by go_num,by go_num⟩)⟩
   case measure=>simp[intOf]
  ·go_wp2_with(go_at_call 183;(with_reducible refine(qs8 (n:=L.length+M.length) (zH (by omega)) (by omega)).mono ?_);rintro e w2 ⟨v2,rfl,ho,hb⟩;have HO2:=zH ho;have HB2:=zH hb;clear ho hb)
   go_loopw [6,27] (fun v i w3=>((i= .int .i64 0∧Hid (w3.ownsRow w.heap.size 50 2 v 0 []))∨(i= .int .i64 1∧Hid (w3.ownsRow w.heap.size 50 2 v L.length (zI L)))∨(i= .int .i64 2∧Hid (w3.ownsRow w.heap.size 50 2 v (L.length+M.length) (zI L++zI M))))∧Hid (Below w.heap.size w w3)) (fun _ i _=>2 - (intOf i).toNat)
   case atStart=>exact⟨.inl ⟨rfl,HO2⟩,HB2⟩
   case round=>
    obtain⟨h,HX⟩:=hrel;rcases h with⟨rfl,HO⟩|⟨rfl,HO⟩|⟨rfl,HO⟩
    ·have c0:=(HX.out.cell (p:=⟨g,0,none⟩) HG.out).trans (HC.out 0 _ rfl);have HT:=zH (Zn (HL.out.below_to zh.keeps HX.out (zn _)).row);have hsz:=HX.out.size;go_wp2_with(at_builtin;refine vt rfl _ _ 23 rfl w.heap.size 50 i0 (.agg #[.int .i64 0,.int .i64 0]) 2 16 Tryz.underlying23 hi hz0 hz1 hz2 rfl (by decide) _ 0 [] rfl HO.out A L.length c _ (zI L) (kV _) rfl HT.out (kb _) (by unfold maxLen;omega) (by omega) hsz ?_;intro v6 w6 hown hgrow;have HX6:=zH (qN HX.out HO.out hsz hgrow);have HO6:=zH hown;clear hown hgrow)
     go_roundw;case rel=>exact⟨.inr (.inl ⟨by go_num,zH (by simpa using HO6.out)⟩),HX6⟩
     case measure=>simp[intOf]
    ·have c1:=(HX.out.cell (p:=⟨g,1,none⟩) HG.out).trans (HC.out 1 _ rfl);have HT:=zH (Zn (HM.out.below_to zh.keeps HX.out (zn _)).row);have hsz:=HX.out.size;go_wp2_with(at_builtin;refine vt rfl _ _ 23 rfl w.heap.size 50 i0 (.agg #[.int .i64 0,.int .i64 0]) 2 16 Tryz.underlying23 hi hz0 hz1 hz2 rfl (by decide) _ L.length (zI L) rfl HO.out B M.length d _ (zI M) (kV _) rfl HT.out (kb _) (by unfold maxLen;omega) (by omega) hsz ?_;intro v6 w6 hown hgrow;have HX6:=zH (qN HX.out HO.out hsz hgrow);have HO6:=zH hown;clear hown hgrow)
     go_roundw;case rel=>exact⟨.inr (.inr ⟨by go_num,HO6⟩),HX6⟩
     case measure=>simp[intOf]
    ·go_wp2_with fail
     go_ret;refine⟨_,rfl,?_,HX.out⟩;rw[HLM.out];show World.ownsRow _ _ _ _ _ _ ((L++M).flatMap tyC);rw[Wc];exact HO.out
theorem qfr{L M N:List (Int×Int)}{A B:Option Addr}{c d g:Nat}{w:World}(HN:Hid (L++M=N))(h:zd zh 2 w w.heap.size A c L)(h':zd zh 2 w w.heap.size B d M)(hg:g<w.heap.size)(hc:zW w g [.slice A L.length c,.slice B M.length d])(hL:L.length≤4000)(hM:M.length≤1000):
  Calls Tryz.prog 141 #[.slice (some ⟨g,0,none⟩) 2 2] w (QX N w):=by
 have H:=q87 L M A B c d g w h h' hg hc hL hM;rw[HN.out]at H;exact H
theorem qk8{L M N:List (Int×Int)}{A B:Option Addr}{c d g:Nat}{w:World}(HN:Hid (L++M=N))(h:zd zh 2 w w.heap.size A c L)(h':zd zh 2 w w.heap.size B d M)(hg:g<w.heap.size)(hc:zW w g [.slice A L.length c,.slice B M.length d])(hL:L.length≤1000)(hM:M.length≤1000):
  Calls Tryz.prog 141 #[.slice (some ⟨g,0,none⟩) 2 2] w (QX N w):=by
 have H:=q87 L M A B c d g w h h' hg hc (Xg hL (by decide)) hM;rw[HN.out]at H;exact H
def vo(sup:List Int)(t u:Int×Int):Bool:=if u.1=6 then true else if u.1=7 then vh t.1 else if u.1=8 then vh t.1&& !(decide (t.1=2))else zw sup t.1 t.2 u.1 u.2
def Jb(sup:List Int)(L U:List (Int×Int)):Bool:=decide (L.length=U.length)&& (L.zip U).all (fun p=>vo sup p.1 p.2)
theorem q4w{t0 t1:Int}{w:World}{r:Bool}(HR:Hid (vh t0=r)):Calls Tryz.prog 184 #[zA t0 t1] w fun e w'=>e= .returned (.bool r)∧Below w.heap.size w w':=by
 have H:=q9b t0 t1 w;rw[HR.out]at H;exact H
theorem q6c(w:World)(x y z u:Int):zW ((w.alloc (.cells #[.int .i64 x,.int .i64 y] 50)).alloc (.cells #[.int .i64 z,.int .i64 u] 50)) w.heap.size [.int .i64 x,.int .i64 y]∧zW ((w.alloc (.cells #[.int .i64 x,.int .i64 y] 50)).alloc (.cells #[.int .i64 z,.int .i64 u] 50)) (w.heap.size+1) [.int .i64 z,.int .i64 u]∧
  Below w.heap.size w ((w.alloc (.cells #[.int .i64 x,.int .i64 y] 50)).alloc (.cells #[.int .i64 z,.int .i64 u] 50))∧((w.alloc (.cells #[.int .i64 x,.int .i64 y] 50)).alloc (.cells #[.int .i64 z,.int .i64 u] 50)).heap.size=w.heap.size+2:=by
 obtain⟨c1,z1,b1⟩:=kr (w:=w) rfl [.int .i64 x,.int .i64 y] 50;obtain⟨c2,z2,b2⟩:=kr z1 [.int .i64 z,.int .i64 u] 50;exact⟨c1.keep b2 (by omega),c2,b1.trans (b2.mono (by omega)),z2⟩
theorem qor(sup:List Int)(t0 t1 u0 u1:Int)(A:Option Addr)(c:Nat)(w:World)(hl:sup.length≤1048576)(h:qD w w.heap.size A sup):
  Calls Tryz.prog 182 #[.slice A sup.length c,zA t0 t1,zA u0 u1] w fun e w'=>e= .returned (.bool (vo sup (t0,t1) (u0,u1)))∧Below w.heap.size w w':=by
 obtain⟨c1,c2,hb,hz⟩:=q6c w t0 t1 u0 u1;have HC1:=zH c1;have HC2:=zH c2;have HW:=zH hb;have HZ:=zH hz;have HS:=zH (h.below_to hb (zn _));clear c1 c2 hb hz h;by_cases h6:u0=6
 ·subst h6;have e:vo sup (t0,t1) (6,u1)=true:=rfl;rw[e];clear e;go_enter Tryz.func182,Tryz.ntmps182;go_upto_region 1 with fail
  generalize(w.alloc (.cells #[.int .i64 t0,.int .i64 t1] 50)).alloc (.cells #[.int .i64 6,.int .i64 u1] 50)=w1 at*
  have d0:=HC2.out 0 _ rfl;go_wp2_with fail
  go_ret;exact⟨rfl,HW.out⟩
 ·by_cases h7:u0=7
  ·subst h7;obtain⟨r,hr⟩:∃r,vh t0=r:=⟨_,rfl⟩
   have HR:=zH hr;have e:vo sup (t0,t1) (7,u1)=r:=hr;rw[e];clear e hr h6;go_enter Tryz.func182,Tryz.ntmps182;go_upto_region 1 with fail
   generalize(w.alloc (.cells #[.int .i64 t0,.int .i64 t1] 50)).alloc (.cells #[.int .i64 7,.int .i64 u1] 50)=w1 at*
   have d0:=HC2.out 0 _ rfl;have e0:=HC1.out 0 _ rfl;have e1:=HC1.out 1 _ rfl;go_wp2_with(go_at_call 184;(with_reducible refine(q4w HR).mono ?_);rintro e w2 ⟨rfl,hb⟩;have HB2:=zH hb;clear hb)
   go_ret;exact⟨rfl,HW.out.trans (HB2.out.mono HW.out.size)⟩
  ·by_cases h8:u0=8
   ·subst h8;obtain⟨r,hr⟩:∃r,vh t0=r:=⟨_,rfl⟩
    have HR:=zH hr;have e:vo sup (t0,t1) (8,u1)=(r&& !(decide (t0=2))):=by rw[←hr];rfl
    rw[e];clear e hr h6 h7;cases r
    ·go_enter Tryz.func182,Tryz.ntmps182;go_upto_region 1 with fail
     generalize(w.alloc (.cells #[.int .i64 t0,.int .i64 t1] 50)).alloc (.cells #[.int .i64 8,.int .i64 u1] 50)=w1 at*
     have d0:=HC2.out 0 _ rfl;have e0:=HC1.out 0 _ rfl;have e1:=HC1.out 1 _ rfl;go_wp2_with(go_at_call 184;(with_reducible refine(q4w HR).mono ?_);rintro e w2 ⟨rfl,hb⟩;have HB2:=zH hb;have e0:=(HC1.out.keep hb (by have:=HZ.out;omega)) 0 _ rfl;clear hb)
     go_ret;exact⟨rfl,HW.out.trans (HB2.out.mono HW.out.size)⟩
    ·go_enter Tryz.func182,Tryz.ntmps182;go_upto_region 1 with fail
     generalize(w.alloc (.cells #[.int .i64 t0,.int .i64 t1] 50)).alloc (.cells #[.int .i64 8,.int .i64 u1] 50)=w1 at*
     have d0:=HC2.out 0 _ rfl;have e0:=HC1.out 0 _ rfl;have e1:=HC1.out 1 _ rfl;go_wp2_with(go_at_call 184;(with_reducible refine(q4w HR).mono ?_);rintro e w2 ⟨rfl,hb⟩;have HB2:=zH hb;have e0:=(HC1.out.keep hb (by have:=HZ.out;omega)) 0 _ rfl;clear hb)
     go_ret;refine⟨?_,HW.out.trans (HB2.out.mono HW.out.size)⟩;by_cases h2:t0=2<;>simp[h2]
   ·have e:vo sup (t0,t1) (u0,u1)=zw sup t0 t1 u0 u1:=by unfold vo;rw[Xa h6,Xa h7,Xa h8]
    rw[e];clear e;go_enter Tryz.func182,Tryz.ntmps182;go_upto_region 1 with fail
    generalize(w.alloc (.cells #[.int .i64 t0,.int .i64 t1] 50)).alloc (.cells #[.int .i64 u0,.int .i64 u1] 50)=w1 at*
    have d0:=HC2.out 0 _ rfl;have d1:=HC2.out 1 _ rfl;have e0:=HC1.out 0 _ rfl;have e1:=HC1.out 1 _ rfl;go_wp2_with(go_at_call 144;(with_reducible refine(QW sup t0 t1 u0 u1 A c w.heap.size w1 hl HW.out.size HS.out).mono ?_);rintro e w2 ⟨rfl,hb⟩;have HB2:=zH hb;clear hb)
    go_ret;exact⟨rfl,HW.out.trans (HB2.out.mono HW.out.size)⟩
abbrev fitF(N:Nat):Value:= .func (.func 181) #[] #[.pointer (some ⟨N,0,none⟩)]
theorem qos(sup:List Int)(t0 t1 u0 u1:Int)(A:Option Addr)(c N:Nat)(w:World)(hl:sup.length≤1048576)(h:qD w w.heap.size A sup)(hN:N<w.heap.size)(hc:w.cell? ⟨N,0,none⟩=some (.slice A sup.length c)):
  Calls Tryz.prog 181 #[zA t0 t1,zA u0 u1,.pointer (some ⟨N,0,none⟩)] w fun e w'=>e= .returned (.bool (vo sup (t0,t1) (u0,u1)))∧Below w.heap.size w w':=by
 obtain⟨c1,c2,hb,hz⟩:=q6c w t0 t1 u0 u1;have HC1:=zH c1;have HC2:=zH c2;have HW:=zH hb;have HS:Hid (qD _ _ A sup):=zH (qD.below_to h hb (zn _));have HC:=zH ((hb.cell (p:=⟨N,0,none⟩) hN).trans hc);clear c1 c2 hb hz h hc;go_enter Tryz.func181,Tryz.ntmps181;go_upto_region 1 with fail
 generalize(w.alloc (.cells #[.int .i64 t0,.int .i64 t1] 50)).alloc (.cells #[.int .i64 u0,.int .i64 u1] 50)=w1 at*
 have d0:=HC2.out 0 _ rfl;have d1:=HC2.out 1 _ rfl;have e0:=HC1.out 0 _ rfl;have e1:=HC1.out 1 _ rfl;have c0:=HC.out;have HS1:Hid (qD w1 w1.heap.size A sup):=zH (fun i s hs=>by
  obtain⟨ad,e,hb,hc⟩:=HS.out i s hs;exact⟨ad,e,Xp hb HW.out.size,hc⟩)
 go_wp2_with(go_at_call 182;(with_reducible refine(qor sup t0 t1 u0 u1 A c w1 hl HS1.out).mono ?_);rintro e w2 ⟨rfl,hb⟩;have HB2:=zH hb;clear hb)
 go_ret;exact⟨rfl,HW.out.trans (HB2.out.mono HW.out.size)⟩
end Go.Proofs.YtcmiljnbmgkdnaaGreat
