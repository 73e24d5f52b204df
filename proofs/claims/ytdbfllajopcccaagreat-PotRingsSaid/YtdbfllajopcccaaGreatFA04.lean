import Derived.Test.YtdbfllajopcccaaGreatFA03
import Derived.RangeFuncNested
import Derived.RangeFuncBound
import Derived.RangeFuncBox
import Derived.RangeFuncLeaves
import Derived.Shelf.Abstract
import Derived.Shelf.RegionOpen
import Derived.TacticsInMore
import Derived.LoopNIn
import Derived.LoopIn
namespace Go.Proofs.YtdbfllajopcccaaGreat
set_option maxRecDepth 100000
set_option linter.unusedVariables false
set_option linter.unusedSimpArgs false
open Go.ChangeShapes Go.WideShapes Go.ChangeAt Go.RowKit
theorem q3o{P:Prop}(h:P:=by
 go_enter Tryz.func82,Tryz.ntmps82;go_wp2
 go_ret;refine⟨?_,?_⟩
 ·rw[E.out];first|rfl|simp[h1]
 ·exact(zb _ _).alloc (zn _) _):P:=h
theorem q4p(k n c:Int)(w:World):Calls Tryz.prog 82 #[zO k n,.int .i64 c] w fun e w'=>e= .returned (.bool (jL k n c))∧Below w.heap.size w w':=by
 by_cases h:(k=1∨k=2)∧n=0∨k=3∧0≤n∧n<c
 ·have E:=zH (show jL k n c=true from decide_eq_true h);rcases h with⟨rfl|rfl,rfl⟩|⟨rfl,h0,h1⟩
  all_goals
   go_enter Tryz.func82,Tryz.ntmps82;go_wp2
   go_ret;refine⟨?_,?_⟩
   ·rw[E.out];rfl
   ·exact(zb _ _).alloc (zn _) _
 ·have E:=zH (show jL k n c=false from decide_eq_false h);have h':(¬k=1∧¬k=2∧¬k=3)∨(k=1∧¬n=0)∨(k=2∧¬n=0)∨(k=3∧n<0)∨(k=3∧0≤n∧c≤n):=by omega
  clear h;rcases h' with⟨h1,h2,h3⟩|⟨rfl,h1⟩|⟨rfl,h1⟩|⟨rfl,h1⟩|⟨rfl,h1,h2⟩
  ·have e1:decide (k=1)=false:=decide_eq_false h1;have e2:decide (k=2)=false:=decide_eq_false h2;have e3:decide (k=3)=false:=decide_eq_false h3;go_enter Tryz.func82,Tryz.ntmps82;go_wp2
   go_ret;refine⟨?_,?_⟩
   ·rw[E.out];first|rfl|simp[h1,h2,h3]
   ·exact(zb _ _).alloc (zn _) _
  ·have e1:decide (n=0)=false:=decide_eq_false h1;exact q3o
  ·have e1:decide (n=0)=false:=decide_eq_false h1;exact q3o
  ·have e1:decide (0≤n)=false:=decide_eq_false (by omega);exact q3o
  ·have e1:decide (n<c)=false:=decide_eq_false (by omega);go_enter Tryz.func82,Tryz.ntmps82;go_wp2
   go_ret;refine⟨?_,?_⟩
   ·rw[E.out];first|rfl|simp[h1,h2]
   ·exact(zb _ _).alloc (zn _) _
set_option maxHeartbeats 1600000 in
theorem qgt(m:za)(l:List (Int×Int))(h:zl)(A:Option Addr)(cap:Nat)(w:World)(H:zp w w.heap.size h m)(hl:zd zi 2 w w.heap.size A cap l):
  Calls Tryz.prog 45 #[zr h m,.slice A l.length cap] w fun e w'=>e= .returned (.bool (Zi l m.classes.length))∧Below w.heap.size w w':=by
 have HW:=zH ((zb w.heap.size w).alloc (zn _) (zq h m));have HBX:=zH (qf w h m);have HZ:Hid (w.heap.size<(w.alloc (zq h m)).heap.size):=zH (by simp);have HL:=zH ((hl.below_to zi.keeps HW.out (zn _)).keep' zi.keeps HW.out.size (fun _ _=>rfl));have l1:=hl.le;have l2:=hl.cap;obtain⟨b,hb⟩:∃b,Zi l m.classes.length=b:=⟨_,rfl⟩
 rw[hb];have E:=zH hb.symm;have c1:=H.classes.le;have c2:=H.classes.cap;clear hb hl H;go_enter Tryz.func45,Tryz.ntmps45;go_upto_region 1 with fail
 generalize w.alloc (zq h m)=w1 at*
 go_wp2
 go_loopw [5] (fun i wr=>∃k:Nat,k≤l.length∧i= .int .i64 k∧Hid (∀t ∈l.take k,jL t.1 t.2 m.classes.length=true)∧Hid (Below w1.heap.size w1 wr)) (fun i _=>l.length - (intOf i).toNat)
 case atStart=>exact⟨0,by omega,rfl,zH (by simp),zH (zb _ _)⟩
 case round=>
  obtain⟨k,hk,rfl,HN,HX⟩:=hrel;obtain⟨q0,q1,q2,q3,q4,q5,q6⟩:=HBX.out.keep HX.out HZ.out;by_cases hlt:k<l.length
  ·obtain⟨ad,rfl,hab,r0,r1⟩:=HL.out.row.at_ hlt;have HNO:=zH (fun g:(fun t:Int×Int=>jL t.1 t.2 m.classes.length) l[k]=false=>(Zx hlt g:Zi l m.classes.length=false));have HYE:=zH (fun g:(fun t:Int×Int=>jL t.1 t.2 m.classes.length) l[k]=true=>Zc hlt HN.out g);generalize l[k]=t at*
   obtain⟨x,y⟩:=t;dsimp only at r0 r1;obtain⟨g,hg⟩:∃g,jL x y m.classes.length=g:=⟨_,rfl⟩
   have G:=zH hg;clear hg;have HXd:=zH HX.out.drew;have HR:Hid (∀W,Below w1.heap.size w1 W→W.cell? (ad.add (k*2))=some (.int .i64 x)∧W.cell? (zc (ad.add (k*2)) 1)=some (.int .i64 y)):=zH (fun W hW=>zi.keeps (x:=(x,y)) ⟨r0,r1⟩ (by rw[zt];exact hab) (zn _) (fun _ hq=>hW.cell hq));obtain⟨r0,r1⟩:=HR.out _ HX.out;cases g
   ·have E2:=zH (show b=false from E.out.trans (HNO.out G.out));go_wp2_with fail
    go_region_held3 (fun w'=>w'.cell? (ad.add (k*2))=some (.int .i64 x)∧w'.cell? (zc (ad.add (k*2)) 1)=some (.int .i64 y)∧w'.cell? ⟨w.heap.size,0,none⟩=some (.slice h.A0 m.classes.length h.c0)) (first|exact⟨r0,r1,q0⟩)
     (first|(go_at_call 82;(with_reducible refine(q4p x y m.classes.length _).mono ?_);rintro e w3 ⟨he,hb⟩;rw[G.out]at he;subst he;have HX3:=zj HXd hb;obtain⟨q0,q1,q2,q3,q4,q5,q6⟩:=HBX.out.keep HX3.out HZ.out;obtain⟨r0,r1⟩:=HR.out _ HX3.out;clear hb))
    go_wp2_with fail
    go_ret;exact⟨by rw[E2.out];rfl,HW.out.trans (HX3.out.mono (Nat.le_of_lt HZ.out))⟩
   ·have E2:=zH (HYE.out G.out);go_wp2_with fail
    go_region_held3 (fun w'=>w'.cell? (ad.add (k*2))=some (.int .i64 x)∧w'.cell? (zc (ad.add (k*2)) 1)=some (.int .i64 y)∧w'.cell? ⟨w.heap.size,0,none⟩=some (.slice h.A0 m.classes.length h.c0)) (first|exact⟨r0,r1,q0⟩)
     (first|(go_at_call 82;(with_reducible refine(q4p x y m.classes.length _).mono ?_);rintro e w3 ⟨he,hb⟩;rw[G.out]at he;subst he;have HX3:=zj HXd hb;obtain⟨q0,q1,q2,q3,q4,q5,q6⟩:=HBX.out.keep HX3.out HZ.out;obtain⟨r0,r1⟩:=HR.out _ HX3.out;clear hb))
    go_wp2_with fail
    go_roundw;case rel=>exact⟨k+1,by omega,by go_num,E2,HX3⟩
    case measure=>simp[intOf];omega
  ·have E2:=zH (show b=true from E.out.trans (ZO HN.out (by omega)));go_wp2_with fail
   go_ret;exact⟨by rw[E2.out];rfl,HW.out.trans (HX.out.mono (Nat.le_of_lt HZ.out))⟩
theorem rsub_4(sup:List Int)(n k' n':Int)(A:Option Addr)(cap:Nat)(w:World):
  Calls Tryz.prog 34 #[.slice A sup.length cap,zO 4 n,zO k' n'] w fun e w'=>e= .returned (.bool (jO k'))∧Below w.heap.size w w':=by
 go_enter Tryz.func34,Tryz.ntmps34;go_wp2_with(go_at_call 33;(with_reducible refine(q8u _ _ _).mono ?_);rintro e w' ⟨rfl,hb⟩)
 go_ret;exact⟨rfl,(((zb _ _).alloc (zn _) _).alloc (by simp) _).trans (hb.mono (by simp;omega))⟩
theorem qqk(sup:List Int)(n k' n':Int)(hk:¬k'=3)(A:Option Addr)(cap:Nat)(w:World):
  Calls Tryz.prog 34 #[.slice A sup.length cap,zO 3 n,zO k' n'] w fun e w'=>e= .returned (.bool false)∧Below w.heap.size w w':=by
 have hd:decide (k'=3)=false:=decide_eq_false hk;go_enter Tryz.func34,Tryz.ntmps34;go_wp2_with fail
 go_quiet (fail)
 go_wp2
 go_ret;exact⟨rfl,(((zb _ _).alloc (zn _) _).alloc (by simp) _)|>fun h=>jf h _⟩
theorem qql(sup:List Int)(n n':Int)(A:Option Addr)(cap B:Nat)(w:World)(hl:sup.length≤1048576)(hB:B≤w.heap.size)(h:jr w B A sup):
  Calls Tryz.prog 34 #[.slice A sup.length cap,zO 3 n,zO 3 n'] w fun e w'=>e= .returned (.bool (qc (zA sup n) n'))∧Below w.heap.size w w':=by
 go_enter Tryz.func34,Tryz.ntmps34;go_wp2_with fail
 have hS:jr ((w.alloc (.cells #[.int .i64 3,.int .i64 n] 39)).alloc (.cells #[.int .i64 3,.int .i64 n'] 39)).drew B A sup:=
  h.below_to (((zb w.heap.size w).alloc (zn _) _).alloc (by simp) _).drew hB
 have HS:=zH hS;have HB:=zH (((zb w.heap.size w).alloc (zn _) (.cells #[.int .i64 3,.int .i64 n] 39)).alloc (by simp) (.cells #[.int .i64 3,.int .i64 n'] 39));clear hS h;have hLA:(zA sup n).length≤9223372036854775807:=by
  unfold zA;split
  ·rcases Nat.lt_or_ge n.toNat sup.length with g|g
   ·have:=q8h sup n.toNat;omega
   ·rw[VJ g];simp
  ·simp
 have hz:w.heap.size<w.heap.size+1+1:=by omega
 go_region_held3 (fun w'=>w'.cell? ⟨w.heap.size,0,none⟩=some (.int .i64 3)∧w'.cell? ⟨w.heap.size,1,none⟩=some (.int .i64 n)∧w'.cell? ⟨w.heap.size+1,0,none⟩=some (.int .i64 3)∧w'.cell? ⟨w.heap.size+1,1,none⟩=some (.int .i64 n'))
  (first|go_keep)
  (first
   |(go_at_call 54;(with_reducible refine(q1g sup n A cap B _ hl (by simp;omega) HS.out).mono ?_);rintro e w' ⟨v,rfl,ho,hb⟩;obtain⟨A',c',rfl,hlies⟩:=q1x ho;obtain⟨hc,hf⟩:=Js hb;have HL:=zH hlies;clear hlies)
   |(go_at_call 61;(with_reducible refine(QV _ _ _ _ _ _ hLA HL.out).mono ?_);rintro e w' ⟨rfl,rfl⟩))
 go_wp2
 go_ret;exact⟨rfl,HB.out.drew.trans (hb.mono (by simp;omega))⟩
theorem qqm(sup:List Int)(k n k' n':Int)(hk:k=1∨k=2)(A:Option Addr)(cap:Nat)(w:World):
  Calls Tryz.prog 34 #[.slice A sup.length cap,zO k n,zO k' n'] w fun e w'=>e= .returned (.bool (decide (k=k'∧n=n')))∧Below w.heap.size w w':=by
 rcases hk with rfl|rfl;all_goals
  go_enter Tryz.func34,Tryz.ntmps34;go_wp2_with fail
  all_goals
   go_ret;refine⟨?_,((zb _ _).alloc (zn _) _).alloc (by simp) _⟩;simp[*]
theorem rsub_0(sup:List Int)(k n k' n':Int)(hk:¬(k=1∨k=2∨k=3∨k=4))(A:Option Addr)(cap:Nat)(w:World):
  Calls Tryz.prog 34 #[.slice A sup.length cap,zO k n,zO k' n'] w fun e w'=>e= .returned (.bool false)∧Below w.heap.size w w':=by
 have h1:¬k=1:=by omega
 have h2:¬k=2:=by omega
 have h3:¬k=3:=by omega
 have h4:¬k=4:=by omega
 have e1:decide (k=1)=false:=decide_eq_false h1;have e2:decide (k=2)=false:=decide_eq_false h2;clear hk;go_enter Tryz.func34,Tryz.ntmps34;go_wp2_with fail
 go_ret;exact⟨rfl,((zb _ _).alloc (zn _) _).alloc (by simp) _⟩
theorem QU(sup:List Int)(k n k' n':Int)(A:Option Addr)(cap B:Nat)(w:World)(hl:sup.length≤1048576)(hB:B≤w.heap.size)(h:jr w B A sup):
  Calls Tryz.prog 34 #[.slice A sup.length cap,zO k n,zO k' n'] w fun e w'=>e= .returned (.bool (zG sup k n k' n'))∧Below w.heap.size w w':=by
 by_cases h4:k=4
 ·subst h4;exact rsub_4 sup n k' n' A cap w
 ·by_cases h3:k=3
  ·subst h3;by_cases hk:k'=3
   ·subst hk;exact qql sup n n' A cap B w hl hB h
   ·have e:zG sup 3 n k' n'=false:=by simp[zG,hk]
    rw[e];exact qqk sup n k' n' hk A cap w
  ·by_cases h12:k=1∨k=2
   ·have e:zG sup k n k' n'=decide (k=k'∧n=n'):=by simp[zG,h3,h4,h12]
    rw[e];exact qqm sup k n k' n' h12 A cap w
   ·have e:zG sup k n k' n'=false:=by simp[zG,h3,h4,h12]
    rw[e];exact rsub_0 sup k n k' n' (by omega) A cap w
def JW:List Int:=[1,3,4,18,19,22,23,29,30,31,34]
def vD(op:Int):Int:=if op<1∨34<op then -1 else if op ∈JW then 1 else if op=27∨op=28∨op=32 then 2 else 0
theorem qbv(w:World)(T:TypeId):zz (w.alloc (.cells (JW.map (Value.int .i64)).toArray T)) (w.heap.size+1) (some ⟨w.heap.size,0,none⟩) (JW.map (Value.int .i64)):=by
 intro j u hj;refine⟨_,rfl,by simp,?_⟩;have e:(Addr.add ⟨w.heap.size,0,none⟩ j)=⟨w.heap.size,j,none⟩:=by
  unfold Addr.add;split
  ·rename_i h0;subst h0;rfl
  ·simp
 rw[e,World.cell?_alloc_at _ _ _ _ rfl];rw[List.getElem?_toArray];exact hj
theorem q86{P:Prop}(h:P:=by
 go_enter Tryz.func102,Tryz.ntmps102;go_wp2_with(go_at_call 61;refine(QV JW op _ 11 _ _ (by decide) (qbv w 3)).mono ?_;rintro e w' ⟨he,rfl⟩;rw[HI.out]at he;subst he)
 go_ret;exact⟨by rw[E.out];rfl,(zb _ _).alloc (zn _) _⟩):P:=h
set_option maxHeartbeats 1600000 in
theorem qky(op:Int)(w:World):Calls Tryz.prog 102 #[.int .i64 op] w fun e w'=>e= .returned (.int .i64 (vD op))∧Below w.heap.size w w':=by
 by_cases h:op<1∨34<op
 ·have E:=zH (show vD op= -1 by unfold vD;rw[if_pos h]);rcases h with h|h
  ·go_enter Tryz.func102,Tryz.ntmps102;go_wp2
   go_ret;exact⟨by rw[E.out];rfl,(zb _ _).alloc (zn _) _⟩
  ·have h':¬op<1:=by omega
   go_enter Tryz.func102,Tryz.ntmps102;go_wp2
   go_ret;exact⟨by rw[E.out];rfl,(zb _ _).alloc (zn _) _⟩
 ·have h0:¬op<1:=by omega
  have h1:¬34<op:=by omega
  by_cases h2:op ∈JW
  ·have E:=zH (show vD op=1 by unfold vD;rw[if_neg h,if_pos h2]);have HI:=zH (show qc JW op=true from decide_eq_true h2);clear h h2;exact q86
  ·have HI:=zH (show qc JW op=false from decide_eq_false h2);by_cases h3:op=27∨op=28∨op=32
   ·have E:=zH (show vD op=2 by unfold vD;rw[if_neg h,if_neg h2,if_pos h3]);clear h h2;rcases h3 with rfl|rfl|rfl;all_goals
     go_enter Tryz.func102,Tryz.ntmps102;go_wp2_with(go_at_call 61;refine(QV JW _ _ 11 _ _ (by decide) (qbv w 3)).mono ?_;rintro e w' ⟨he,rfl⟩;rw[HI.out]at he;subst he)
     go_ret;exact⟨by rw[E.out];rfl,(zb _ _).alloc (zn _) _⟩
   ·have E:=zH (show vD op=0 by unfold vD;rw[if_neg h,if_neg h2,if_neg h3]);have d1:(op==27)=false:=beq_eq_false_iff_ne.mpr (fun g=>h3 (.inl g));have d2:(op==28)=false:=beq_eq_false_iff_ne.mpr (fun g=>h3 (.inr (.inl g)));have d3:(op==32)=false:=beq_eq_false_iff_ne.mpr (fun g=>h3 (.inr (.inr g)));clear h h2;exact q86
theorem qmc{w w1:World}{x y z:Value}{T:TypeId}(hb:Below (w.alloc (.cells #[x,y,z] T)).heap.size (w.alloc (.cells #[x,y,z] T)) w1):
  w1.cell? ⟨w.heap.size,0,none⟩=some x∧w1.cell? ⟨w.heap.size,1,none⟩=some y∧w1.cell? ⟨w.heap.size,2,none⟩=some z:=by
 have hs:w.heap.size<(w.alloc (.cells #[x,y,z] T)).heap.size:=by simp
 refine⟨(hb.cell hs).trans ?_,(hb.cell hs).trans ?_,(hb.cell hs).trans ?_⟩<;>(rw[World.cell?_alloc_at _ _ _ _ rfl];rfl)
abbrev zF(op a b:Int):Value:= .agg #[.int .i64 op,.int .i64 a,.int .i64 b]
def jb(op a b:Int):Bool:=decide (0≤vD op∧(1≤vD op∨a=0)∧(2≤vD op∨b=0)∧0≤a∧a≤255∧0≤b∧b≤255)
theorem qjk(op:Int): -1≤vD op∧vD op≤2:=by
 unfold vD;split
 ·omega
 ·split
  ·omega
  ·split<;>omega
theorem qrm(op:Int):0≤vD op↔1≤op∧op≤34:=by
 unfold vD;split
 ·omega
 ·split
  ·omega
  ·split<;>omega
theorem qmb{op a b:Int}:jb op a b=true↔0≤vD op∧(1≤vD op∨a=0)∧(2≤vD op∨b=0)∧0≤a∧a≤255∧0≤b∧b≤255:=by unfold jb;simp
theorem Za{op a b:Int}(h:jb op a b=true):1≤op∧op≤34∧0≤a∧a≤255∧0≤b∧b≤255:=by
 have h:=qmb.mp h;have:=(qrm op).mp h.1;omega
set_option maxHeartbeats 1600000 in
theorem q8v(op a b:Int)(w:World):Calls Tryz.prog 81 #[zF op a b] w fun e w'=>e= .returned (.bool (jb op a b))∧Below w.heap.size w w':=by
 obtain⟨n,hn⟩:∃n,vD op=n:=⟨_,rfl⟩
 have hr:=qjk op;rw[hn]at hr;have E:=zH (show jb op a b=decide (0≤n∧(1≤n∨a=0)∧(2≤n∨b=0)∧0≤a∧a≤255∧0≤b∧b≤255)by unfold jb;rw[hn]);generalize jb op a b=r at E⊢
 have HN:=zH hn;clear hn;have HBo:=zH ((zb w.heap.size w).alloc (zn _) (.cells #[.int .i64 op,.int .i64 a,.int .i64 b] 45));go_enter Tryz.func81,Tryz.ntmps81;go_wp2_with(go_at_call 102;(with_reducible refine(qky _ _).mono ?_);rintro e w1 ⟨rfl,hb⟩;rw[HN.out];obtain⟨c0,c1,c2⟩:=qmc hb)
 all_goals
  go_ret;refine⟨qny ?_,HBo.out.trans (hb.mono (by simp))⟩;rw[E.out];rw[Bool.eq_iff_iff];simp;try simp only[bne_iff_ne,bne_eq_false_iff_eq,ne_eq]at*
  omega
theorem q3l{P:Prop}(h:P:=by
 go_enter Tryz.func56,Tryz.ntmps56;go_upto_region 1 with fail
 generalize w.alloc (zq h m)=w1 at*
 obtain⟨q0,q1,q2,q3,q4,q5,q6⟩:=HBX.out;rw[HE.out]at q0;go_wp2_with fail
 go_ret2
 exact⟨rfl,HW.out⟩):P:=h
theorem qkn(m:za)(c n:Int)(h:zl)(w:World)(H:zp w w.heap.size h m):
  Calls Tryz.prog 56 #[zr h m,.int .i64 c,.int .i64 n] w (q2o (vb m.classes c n) w):=by
 have HW:=zH ((zb w.heap.size w).alloc (zn _) (zq h m));have HIM:=zH (H.now HW.out);have HBX:=zH (qf w h m);have hle:=H.classes.le;have hcap:=H.classes.cap;have hn63:m.classes.length≤9223372036854775807:=by omega
 clear H hle hcap;by_cases hc:0≤c∧c<m.classes.length
 ·obtain⟨c0,c1⟩:=hc;obtain⟨i,rfl⟩:=Int.eq_ofNat_of_zero_le c0;have hi:i<m.classes.length:=by omega
  clear c0 c1;obtain⟨ad,e0,hab,s0,⟨A1,k1,s1,hs1⟩,⟨A2,k2,s2,hs2⟩,_⟩:=HIM.out.classes.row.at_ hi;have HE:=zH e0;clear e0;have l1:=hs2.le;have l2:=hs2.cap;have hs63:m.classes[i].slots.length≤9223372036854775807:=by omega
  have HSL:=zH hs2;clear hs1 hs2 l1 l2;by_cases hnn:0≤n∧n<m.classes[i].slots.length
  ·obtain⟨n0,n1⟩:=hnn;obtain⟨j,rfl⟩:=Int.eq_ofNat_of_zero_le n0;have hj:j<m.classes[i].slots.length:=by omega
   clear n0 n1;rw[q3u hi hj];obtain⟨ad2,rfl,hab2,z0⟩:=HSL.out.row.at_ hj;clear HSL;rw[Nat.mul_one]at z0;generalize m.classes[i].slots[j]=f at*
   generalize m.classes[i]=x at*
   have z0':(w.alloc (zq h m)).cell? (ad2.add j)=some (.int .i64 f):=z0;clear z0;exact q3l
  ·rw[q7x hi (by omega)];have hno:n<0∨(m.classes[i].slots.length:Int)≤n:=by omega
   clear hnn HSL;generalize m.classes[i]=x at*
   rcases hno with hno|hno
   ·exact q3l
   ·have hn0:0≤n:=by omega
    exact q3l
 ·have hno:c<0∨(m.classes.length:Int)≤c:=by omega
  rw[q74 hno];clear hc;rcases hno with hno|hno
  ·go_enter Tryz.func56,Tryz.ntmps56;go_upto_region 1 with fail
   generalize w.alloc (zq h m)=w1 at*
   obtain⟨q0,q1,q2,q3,q4,q5,q6⟩:=HBX.out;go_wp2_with fail
   go_ret2
   exact⟨rfl,HW.out⟩
  ·have hn0:0≤c:=by omega
   go_enter Tryz.func56,Tryz.ntmps56;go_upto_region 1 with fail
   generalize w.alloc (zq h m)=w1 at*
   obtain⟨q0,q1,q2,q3,q4,q5,q6⟩:=HBX.out;go_wp2_with fail
   go_ret2
   exact⟨rfl,HW.out⟩
theorem q5m{m:za}{h:zl}{w0 w:World}{c n:Int}{o:Option Int}(HI:Hid (zp w0 w0.heap.size h m))(HX:Hid (Below w0.heap.size w0 w))(HO:Hid (vb m.classes c n=o)):
  Calls Tryz.prog 56 #[zr h m,.int .i64 c,.int .i64 n] w (q2o o w):=by
 have H:=qkn m c n h w (HI.out.now HX.out);rw[HO.out]at H;exact H
theorem q7k{P:Prop}(h:P:=by
 go_wp2_with fail
 first
  |exact bodyPost_ret (v:=zO 0 0) (by simp[results,Tryz.results59,go_sem,c0,c1]) rfl ⟨rfl,HW.out.trans (HB3.out.mono hW1)⟩
  |(have HQ4:=(HQ3.out.set 0 (.int .i64 0)).set 1 (.int .i64 0)
    have d0:=HQ4.cells 0 _ rfl;have d1:=HQ4.cells 1 _ rfl;exact bodyPost_ret (v:=zO 0 0) (by simp[results,Tryz.results59,go_sem,d0,d1]) rfl ⟨rfl,HW.out.trans (((HB3.out.mono hW1).setCell (p:=⟨w.heap.size+1,0,none⟩) (by show w.heap.size≤w.heap.size+1;omega) (.int .i64 0)).setCell (p:=⟨w.heap.size+1,1,none⟩) (by show w.heap.size≤w.heap.size+1;omega) (.int .i64 0))⟩)):P:=h
set_option maxHeartbeats 1600000 in
theorem qgq(x:ze)(n:Int)(hs:n≤9223372036854775807)(hx:zS)(w:World)(H:qy w w.heap.size hx x)(ha:x.args.length≤1048576)(hl:x.locals.length≤1048576):
  Calls Tryz.prog 59 #[kW hx x,.int .i64 n] w fun e w'=>e= .returned (zO (qB x n).1 (qB x n).2)∧Below w.heap.size w w':=by
 obtain⟨i0,hi,hz0,hz1,hz2⟩:=jg kK;have HW:=zH (((zb w.heap.size w).alloc (zn _) (.cells (qe hx x).toArray 42)).alloc (by simp) (.cells #[.int .i64 0,.int .i64 0] 39));have HQ:=zH (show zf ((w.alloc (.cells (qe hx x).toArray 42)).alloc (.cells #[.int .i64 0,.int .i64 0] 39)) (w.heap.size+1) [.int .i64 0,.int .i64 0] 39 from zf.at_ (by simp) _ _);have HC:=zH ((qd w (qe hx x) 42).keep ((zb _ _).alloc (zn _) (.cells #[.int .i64 0,.int .i64 0] 39)) (by simp));have HM:=zH (H.now HW.out);obtain⟨t,ht⟩:∃t,qB x n=t:=⟨_,rfl⟩
 rw[ht];have HR:=zH ht;clear H ht;go_enter Tryz.func59,Tryz.ntmps59;go_upto_region 1 with fail
 generalize(w.alloc (.cells (qe hx x).toArray 42)).alloc (.cells #[.int .i64 0,.int .i64 0] 39)=w1 at*
 have q0:=HC.out 0 _ rfl;have q1:=HC.out 1 _ rfl;have hlt:=HQ.out.lt;have HC0:Hid (∀W,Below w1.heap.size w1 W→W.cell? ⟨w.heap.size,0,none⟩=some (.slice hx.A0 x.args.length hx.k0)):=zH (fun W hW=>(hW.cell (p:=⟨w.heap.size,0,none⟩) (by show w.heap.size<_;omega)).trans q0);have HC1:Hid (∀W,Below w1.heap.size w1 W→W.cell? ⟨w.heap.size,1,none⟩=some (.slice hx.A1 x.locals.length hx.k1)):=zH (fun W hW=>(hW.cell (p:=⟨w.heap.size,1,none⟩) (by show w.heap.size<_;omega)).trans q1);have HA:=zH (vl HM.out.args.row);have HL:=zH (vl HM.out.locals.row);clear HC;go_wp2
 refine wp_region_noPanic ?_;refine wp_region_held_drew (S:=(fun w'=>w'.cell? ⟨w.heap.size,0,none⟩=some (.slice hx.A0 x.args.length hx.k0)∧w'.cell? ⟨w.heap.size,1,none⟩=some (.slice hx.A1 x.locals.length hx.k1))) (by kernel_rfl) ⟨q0,q1⟩ (fun hHeld=> ?_);refine mT 1 (h:=mT 2 (h:=mT 4 (h:=mT 5 (h:= ?_))));refine wpAnyH_ready (rs:=[0]) (by kernel_rfl) (by simp) ?_;refine AllReadyH.cons (o:=_) rfl (fun K hK=> ?_) AllReadyH.nil;go_simp;have HB0:=zH ((zb w1.heap.size w1).drew.alloc (zn _) (.cells #[] 39));have HO0:=zH (ka w1.drew 39 2);have HA0:=zH ((HA.out.below_to HB0.out (zn _)):zz (w1.drew.alloc (.cells #[] 39)) w1.heap.size hx.A0 (zD x.args));refine hK.out _ _ ⟨HC0.out _ HB0.out,HC1.out _ HB0.out⟩ (fun hHeld=> ?_);clear hK K;try simp only[sA,sB,sC,Act.put,sD,sE,sF]
 refine wpAnyH_ready (rs:=[3]) (by kernel_rfl) (by simp) ?_;refine AllReadyH.cons (o:=_) rfl (fun K hK=> ?_) AllReadyH.nil
 (refine Qy rfl _ _ 23 rfl w1.heap.size 39 i0 (.agg #[.int .i64 0,.int .i64 0]) 2 16 Tryz.underlying23 hi hz0 hz1 hz2 rfl (by decide) _ 0 [] rfl HO0.out hx.A0 x.args.length hx.k0 _ (zD x.args) (vz _) rfl HA0.out (jt _) (by unfold maxLen;omega) (by omega) HB0.out.size ?_;intro v2 w2 hown hgrow;have HB2:=zH (qA HB0.out HO0.out HB0.out.size hgrow);have HO2:=zH hown;have HL2:=zH ((HL.out.below_to HB2.out (zn _)):zz w2 w1.heap.size hx.A1 (zD x.locals));clear hown hgrow)
 refine hK.out _ _ ⟨HC0.out _ HB2.out,HC1.out _ HB2.out⟩ (fun hHeld=> ?_);clear hK K;try simp only[sA,sB,sC,Act.put,sD,sE,sF]
 refine wpAnyH_ready (rs:=[6]) (by kernel_rfl) (by simp) ?_;refine AllReadyH.cons (o:=_) rfl (fun K hK=> ?_) AllReadyH.nil
 (refine Qy rfl _ _ 23 rfl w1.heap.size 39 i0 (.agg #[.int .i64 0,.int .i64 0]) 2 16 Tryz.underlying23 hi hz0 hz1 hz2 rfl (by decide) _ (0+x.args.length) ([]++zD x.args) rfl HO2.out hx.A1 x.locals.length hx.k1 _ (zD x.locals) (vz _) rfl HL2.out (jt _) (by unfold maxLen;omega) (by omega) HB2.out.size ?_;intro v3 w3 hown hgrow;have HB3:=zH (qA HB2.out HO2.out HB2.out.size hgrow);have HO3:=zH hown;clear hown hgrow)
 refine hK.out _ _ ⟨HC0.out _ HB3.out,HC1.out _ HB3.out⟩ (fun hHeld=> ?_);clear hK K;try simp only[sA,sB,sC,Act.put,sD,sE,sF]
 refine mT 7 (h:= ?_);refine wpAnyH_done (by kernel_rfl) ?_ _;refine NoPanic.normal ?_;have HQ3:=zH (HQ.out.keep HB3.out hlt);obtain⟨L,hL⟩:∃L,x.args++x.locals=L:=⟨_,rfl⟩
 have hLl:L.length≤2097152:=by rw[←hL,List.length_append];omega
 have HE:=zH (show qB x n=if 0≤n then L[n.toNat]?.getD (0,0)else(0,0)by rw[←hL];rfl);have hO:w3.ownsRow w1.heap.size 39 2 v3 L.length (zD L):=by
  have:=HO3.out;rw[←hL,List.length_append];unfold zD at this⊢
  rw[List.flatMap_append];simpa using this
 obtain⟨A3,c3,rfl,hS,_⟩:=vy hO;have HS:=zH hS;have hlt3:=HQ3.out.lt;have c0:=HQ3.out.cells 0 _ rfl;have c1:=HQ3.out.cells 1 _ rfl;have f0:=HQ3.out.free 0;have f1:=HQ3.out.free 1;clear hL hS hO HO3 HO2 HL2 HA0 HO0 hHeld q0 q1;have hW3:=HB3.out.size;have hW1:=HW.out.size;by_cases h0:n<0
 ·obtain rfl:t=(0,0):=by rw[←HR.out,HE.out,if_neg (by omega)]
  clear HE HR;exact q7k
 ·have h0':0≤n:=by omega
  by_cases h1:n<L.length
  ·obtain⟨j,rfl⟩:=Int.eq_ofNat_of_zero_le h0';have hj:j<L.length:=by omega
   obtain⟨ad,rfl,hab,r0,r1⟩:=HS.out.row.at_ hj;have HE2:=zH (show qB x (j:Int)=L[j]by rw[HE.out,if_pos (by omega),Int.toNat_natCast,List.getElem?_eq_getElem hj];rfl);have e:L[j]=t:=HE2.out.symm.trans HR.out;rw[e]at r0 r1;clear HE HE2 HR e;go_wp2_with fail
   have HQ4:=(HQ3.out.set 0 (.int .i64 t.1)).set 1 (.int .i64 t.2);have d0:=HQ4.cells 0 _ rfl;have d1:=HQ4.cells 1 _ rfl;exact bodyPost_ret (v:=zO t.1 t.2) (by simp[results,Tryz.results59,go_sem,d0,d1]) rfl ⟨rfl,HW.out.trans (((HB3.out.mono hW1).setCell (p:=⟨w.heap.size+1,0,none⟩) (by show w.heap.size≤w.heap.size+1;omega) (.int .i64 t.1)).setCell (p:=⟨w.heap.size+1,1,none⟩) (by show w.heap.size≤w.heap.size+1;omega) (.int .i64 t.2))⟩
  ·have h1':(L.length:Int)≤n:=by omega
   have HE2:=zH (show qB x n=(0,0)by rw[HE.out,if_pos h0',List.getElem?_eq_none (by omega)];rfl);obtain rfl:t=(0,0):=HR.out.symm.trans HE2.out;clear HE HE2 HR;exact q7k
def jR(L M:List (Int×Int))(w:World)(e:Ending)(w':World):Prop:=
 ∃A c A' c',e= .returned (.tuple #[.slice A L.length c,.slice A' M.length c'])∧zd zi 2 w' w'.heap.size A c L∧zd zi 2 w' w'.heap.size A' c' M∧Below w.heap.size w w'
abbrev ql(h:zl)(m:za)(op a b:Int)(w:World):World:=
 ((((((w.alloc (zq h m)).alloc (.cells #[.int .i64 op,.int .i64 a,.int .i64 b] 45)).alloc (.cells #[.int .i64 1,.int .i64 0] 39)).alloc (.cells #[.int .i64 2,.int .i64 0] 39)).alloc
  (.cells #[.int .i64 4,.int .i64 0] 39)).alloc (.cells #[.int .i64 0,.int .i64 0] 39)).alloc (.cells #[.int .i64 3,.int .i64 a] 39)
structure qrq(w1:World)(N:Nat)(h:zl)(m:za)(op a b:Int):Prop where
 img:Zl w1 N h m
 ins:zT w1 (N+1) [.int .i64 op,.int .i64 a,.int .i64 b]
 t1:zT w1 (N+1+1) [.int .i64 1,.int .i64 0]
 t2:zT w1 (N+1+1+1) [.int .i64 2,.int .i64 0]
 t4:zT w1 (N+1+1+1+1) [.int .i64 4,.int .i64 0]
 t0:zT w1 (N+1+1+1+1+1) [.int .i64 0,.int .i64 0]
 t3:zT w1 (N+1+1+1+1+1+1) [.int .i64 3,.int .i64 a]
 size:w1.heap.size=N+1+1+1+1+1+1+1
theorem jY(h:zl)(m:za)(op a b:Int)(w:World):Below w.heap.size w (ql h m op a b w)∧qrq (ql h m op a b w) w.heap.size h m op a b:=by
 have z0:(w.alloc (zq h m)).heap.size=w.heap.size+1:=by simp
 obtain⟨c1,z1,b1⟩:=km z0 [.int .i64 op,.int .i64 a,.int .i64 b] 45;obtain⟨c2,z2,b2⟩:=km z1 [.int .i64 1,.int .i64 0] 39;obtain⟨c3,z3,b3⟩:=km z2 [.int .i64 2,.int .i64 0] 39;obtain⟨c4,z4,b4⟩:=km z3 [.int .i64 4,.int .i64 0] 39;obtain⟨c5,z5,b5⟩:=km z4 [.int .i64 0,.int .i64 0] 39;obtain⟨c6,z6,b6⟩:=km z5 [.int .i64 3,.int .i64 a] 39;have b5':=b5.trans (b6.mono (by omega));have b4':=b4.trans (b5'.mono (by omega));have b3':=b3.trans (b4'.mono (by omega));have b2':=b2.trans (b3'.mono (by omega));have b1':=b1.trans (b2'.mono (by omega));exact⟨((zb w.heap.size w).alloc (zn _) (zq h m)).trans (b1'.mono (by omega)),
  (qf w h m).keep b1' (by omega),c1.keep b2' (by omega),c2.keep b3' (by omega),c3.keep b4' (by omega),c4.keep b5' (by omega),c5.keep b6 (by omega),c6,z6⟩
theorem vi{w:World}{g:Nat}{x y:Int}(hg:g<w.heap.size)(h0:w.cell? ⟨g,0,none⟩=some (.int .i64 x))(h1:w.cell? ⟨g,1,none⟩=some (.int .i64 y)):zd zi 2 w w.heap.size (some ⟨g,0,none⟩) 1 [(x,y)]:=
 ⟨zn _,by show 1≤9223372036854775807;omega,qcr ⟨h0,h1⟩ hg⟩
theorem q2s{w:World}{g:Nat}{x y z u:Int}(hg:g<w.heap.size)(h0:w.cell? ⟨g,0,none⟩=some (.int .i64 x))(h1:w.cell? ⟨g,1,none⟩=some (.int .i64 y))(h2:w.cell? ⟨g,2,none⟩=some (.int .i64 z))(h3:w.cell? ⟨g,3,none⟩=some (.int .i64 u)):zd zi 2 w w.heap.size (some ⟨g,0,none⟩) 2 [(x,y),(z,u)]:=
 ⟨zn _,by show 2≤9223372036854775807;omega,fun i t hi=>by
  match i,hi with
  |0,hi=>simp at hi;subst hi;exact⟨_,rfl,hg,by simpa[Addr.add]using h0,by simpa[Addr.add]using h1⟩
  |1,hi=>simp at hi;subst hi;exact⟨_,rfl,hg,by simpa[Addr.add]using h2,by simpa[Addr.add]using h3⟩
  |i+2,hi=>simp at hi⟩
theorem new_t3{w:World}{g:Nat}{x y z u v s:Int}(hg:g<w.heap.size)(h0:w.cell? ⟨g,0,none⟩=some (.int .i64 x))(h1:w.cell? ⟨g,1,none⟩=some (.int .i64 y))(h2:w.cell? ⟨g,2,none⟩=some (.int .i64 z))(h3:w.cell? ⟨g,3,none⟩=some (.int .i64 u))(h4:w.cell? ⟨g,4,none⟩=some (.int .i64 v))(h5:w.cell? ⟨g,5,none⟩=some (.int .i64 s)):zd zi 2 w w.heap.size (some ⟨g,0,none⟩) 3 [(x,y),(z,u),(v,s)]:=
 ⟨zn _,by show 3≤9223372036854775807;omega,fun i t hi=>by
  match i,hi with
  |0,hi=>simp at hi;subst hi;exact⟨_,rfl,hg,by simpa[Addr.add]using h0,by simpa[Addr.add]using h1⟩
  |1,hi=>simp at hi;subst hi;exact⟨_,rfl,hg,by simpa[Addr.add]using h2,by simpa[Addr.add]using h3⟩
  |2,hi=>simp at hi;subst hi;exact⟨_,rfl,hg,by simpa[Addr.add]using h4,by simpa[Addr.add]using h5⟩
  |i+3,hi=>simp at hi⟩
def qn(L:List (Int×Int))(w:World)(e:Ending)(w':World):Prop:=∃A c,e= .returned (.slice A L.length c)∧zd zi 2 w' w'.heap.size A c L∧Below w.heap.size w w'
theorem qgu(x:ze)(hx:zS)(w:World):Calls Tryz.prog 60 #[kW hx x] w (qn (jd x) w):=by
 have HW:=zH ((zb w.heap.size w).alloc (zn _) (.cells (qe hx x).toArray 42));have HC:=zH (qd w (qe hx x) 42);have hz:Hid ((w.alloc (.cells (qe hx x).toArray 42)).heap.size=w.heap.size+1):=zH (by simp);by_cases h5:x.ret.1=5
 ·have e:jd x=[]:=by unfold jd;rw[if_pos h5]
  rw[e];have H5:=zH h5;clear e h5;go_enter Tryz.func60,Tryz.ntmps60;go_upto_region 1 with fail
  generalize w.alloc (.cells (qe hx x).toArray 42)=w1 at*
  have q2:=HC.out 2 _ rfl;rw[H5.out]at q2;go_wp2_with fail
  go_ret;exact⟨none,0,rfl,ji,HW.out⟩
 ·have e:jd x=[x.ret]:=by unfold jd;rw[if_neg h5]
  rw[e];clear e;go_enter Tryz.func60,Tryz.ntmps60;go_upto_region 1 with fail
  generalize w.alloc (.cells (qe hx x).toArray 42)=w1 at*
  have q2:=HC.out 2 _ rfl;have q3:=HC.out 3 _ rfl;have hz:=hz.out;go_wp2_with fail
  go_ret;refine⟨_,_,rfl,vi (by simp;try omega) (by go_simp) (by go_simp),HW.out.trans ((zb _ _).alloc (by omega) _)⟩
theorem q1t{x:ze}{hx:zS}{w:World}{L:List (Int×Int)}(HL:Hid (jd x=L)):Calls Tryz.prog 60 #[kW hx x] w (qn L w):=by
 have H:=qgu x hx w;rw[HL.out]at H;exact H
theorem qa5{x:ze}{n:Int}{hx:zS}{w0 w:World}{t:Int×Int}(HM:Hid (qy w0 w0.heap.size hx x))(HX:Hid (Below w0.heap.size w0 w))(HR:Hid (qB x n=t))(hs:n≤9223372036854775807)(ha:x.args.length≤1048576)(hl:x.locals.length≤1048576):
  Calls Tryz.prog 59 #[kW hx x,.int .i64 n] w fun e w'=>e= .returned (.agg #[.int .i64 t.1,.int .i64 t.2])∧Below w.heap.size w w':=by
 have H:=qgq x n hs hx w (HM.out.now HX.out) ha hl;rw[HR.out]at H;exact H
def jJ(l y:List Int):Int×Int:=match l with
 | []=>(0,0)
 |x::r=>if qc y x then(3,x)else jJ r y
def qX(sup:List Int)(k n k' n':Int):Int×Int:=
 if zG sup k n k' n' then(k',n')else if zG sup k' n' k n then(k,n)else if k=3∧k'=3 then jJ ((zA sup n).drop 1) (zA sup n')else(0,0)
theorem Yi{w w1:World}{o1 o2:Obj}{x y:Value}{T:TypeId}(hb:Below (((w.alloc o1).alloc o2).alloc (.cells #[x,y] T)).heap.size (((w.alloc o1).alloc o2).alloc (.cells #[x,y] T)) w1):
  w1.cell? ⟨w.heap.size+1+1,0,none⟩=some x∧w1.cell? ⟨w.heap.size+1+1,1,none⟩=some y∧w1.frozen? ⟨w.heap.size+1+1,0,none⟩=false∧w1.frozen? ⟨w.heap.size+1+1,1,none⟩=false:=by
 have hs:w.heap.size+1+1<(((w.alloc o1).alloc o2).alloc (.cells #[x,y] T)).heap.size:=by simp
 have e:((w.alloc o1).alloc o2).heap.size=w.heap.size+1+1:=by simp
 refine⟨(hb.cell hs).trans ?_,(hb.cell hs).trans ?_,(hb.frozen hs).trans ?_,(hb.frozen hs).trans ?_⟩
 ·rw[World.cell?_alloc_at _ _ _ _ e.symm];rfl
 ·rw[World.cell?_alloc_at _ _ _ _ e.symm];rfl
 ·exact World.frozen?_alloc_at _ _ _ _ e.symm
 ·exact World.frozen?_alloc_at _ _ _ _ e.symm
def Six(w:World)(N:Nat)(a b c d x y:Value):Prop:=
 w.cell? ⟨N,0,none⟩=some a∧w.cell? ⟨N,1,none⟩=some b∧w.cell? ⟨N+1,0,none⟩=some c∧w.cell? ⟨N+1,1,none⟩=some d∧
  w.cell? ⟨N+1+1,0,none⟩=some x∧w.cell? ⟨N+1+1,1,none⟩=some y∧w.frozen? ⟨N+1+1,0,none⟩=false∧w.frozen? ⟨N+1+1,1,none⟩=false
theorem Six.keep{w w':World}{N C:Nat}{a b c d x y:Value}(h:Six w N a b c d x y)(hb:Below C w w')(hC:N+1+1<C):Six w' N a b c d x y:=by
 obtain⟨h0,h1,h2,h3,h4,h5,h6,h7⟩:=h;exact⟨(hb.cell (show N<C by omega)).trans h0,(hb.cell (show N<C by omega)).trans h1,(hb.cell (show N+1<C by omega)).trans h2,(hb.cell (show N+1<C by omega)).trans h3,
  (hb.cell (show N+1+1<C by omega)).trans h4,(hb.cell (show N+1+1<C by omega)).trans h5,(hb.frozen (show N+1+1<C by omega)).trans h6,(hb.frozen (show N+1+1<C by omega)).trans h7⟩
theorem Vj{w w1:World}{x y x' y':Value}{T:TypeId}{o:Obj}(hb:Below (((w.alloc (.cells #[x,y] T)).alloc (.cells #[x',y'] T)).alloc o).heap.size (((w.alloc (.cells #[x,y] T)).alloc (.cells #[x',y'] T)).alloc o) w1):
  w1.cell? ⟨w.heap.size,0,none⟩=some x∧w1.cell? ⟨w.heap.size,1,none⟩=some y∧w1.cell? ⟨w.heap.size+1,0,none⟩=some x'∧w1.cell? ⟨w.heap.size+1,1,none⟩=some y':=by
 have h0:w.heap.size<(((w.alloc (.cells #[x,y] T)).alloc (.cells #[x',y'] T)).alloc o).heap.size:=by simp;omega
 have h1:w.heap.size+1<(((w.alloc (.cells #[x,y] T)).alloc (.cells #[x',y'] T)).alloc o).heap.size:=by simp
 have e:(w.alloc (.cells #[x,y] T)).heap.size=w.heap.size+1:=by simp
 refine⟨(hb.cell h0).trans ?_,(hb.cell h0).trans ?_,(hb.cell h1).trans ?_,(hb.cell h1).trans ?_⟩
 ·rw[World.cell?_alloc_past _ _ _ (by simp;omega),World.cell?_alloc_past _ _ _ (by simp),World.cell?_alloc_at _ _ _ _ rfl];rfl
 ·rw[World.cell?_alloc_past _ _ _ (by simp;omega),World.cell?_alloc_past _ _ _ (by simp),World.cell?_alloc_at _ _ _ _ rfl];rfl
 ·rw[World.cell?_alloc_past _ _ _ (by simp),World.cell?_alloc_at _ _ _ _ e.symm];rfl
 ·rw[World.cell?_alloc_past _ _ _ (by simp),World.cell?_alloc_at _ _ _ _ e.symm];rfl
theorem q4o(sup:List Int)(k n k' n':Int)(A:Option Addr)(cap B:Nat)(w:World)(hl:sup.length≤1048576)(hB:B≤w.heap.size)(h:jr w B A sup)(hno:¬(k=3∧k'=3)∨zG sup k n k' n'=true∨zG sup k' n' k n=true):
  Calls Tryz.prog 76 #[.slice A sup.length cap,zO k n,zO k' n'] w fun e w'=>e= .returned (zO (qX sup k n k' n').1 (qX sup k n k' n').2)∧Below w.heap.size w w':=by
 have hW:Below w.heap.size w (((w.alloc (.cells #[.int .i64 k,.int .i64 n] 39)).alloc (.cells #[.int .i64 k',.int .i64 n'] 39)).alloc (.cells #[.int .i64 0,.int .i64 0] 39)):=
  (((zb w.heap.size w).alloc (zn _) _).alloc (by simp) _).alloc (by simp;omega) _
 have HS:=zH (h.below_to hW hB);have HW:=zH hW;have HB:=zH hB;clear h hW hB;have J:=zH (show qX sup k n k' n'=if zG sup k n k' n' then(k',n')else if zG sup k' n' k n then(k,n)else if k=3∧k'=3 then jJ ((zA sup n).drop 1) (zA sup n')else(0,0)from rfl);generalize qX sup k n k' n'=j at J⊢
 have hz1:w.heap.size<w.heap.size+1+1+1:=by omega
 have hz2:w.heap.size+1<w.heap.size+1+1+1:=by omega
 by_cases h1:zG sup k n k' n'=true
 ·have J2:=zH (show j=(k',n')by rw[J.out,if_pos h1]);have H1:=zH h1;clear h1 J;go_enter Tryz.func76,Tryz.ntmps76;go_wp2_with(go_at_call 34;(with_reducible refine(QU sup _ _ _ _ A cap B _ hl (by have:=HB.out;simp;omega) HS.out).mono ?_);rintro e w1 ⟨he,hb⟩;rw[H1.out]at he;subst he;obtain⟨hc,hf⟩:=Js hb;obtain⟨r0,r1,r2,r3⟩:=Yi hb)
  rw[J2.out];refine bodyPost_ret (v:=zO k' n') ?_ rfl ⟨rfl,?_⟩
  ·simp[results,Tryz.results76,go_sem,r0,r1]
  ·exact HW.out.trans (((hb.mono (by simp;omega)).setCell (by simp;omega) _).setCell (by simp;omega) _)
 ·have F1:=zH (show zG sup k n k' n'=false by simpa using h1);have H1:=F1;clear h1;by_cases h2:zG sup k' n' k n=true
  ·have J2:=zH (show j=(k,n)by rw[J.out,F1.out,h2];rfl);have H2:=zH h2;clear h2 J;go_enter Tryz.func76,Tryz.ntmps76;go_wp2_with(first|(go_at_call 34;(with_reducible refine(QU sup _ _ _ _ A cap B _ hl (by have:=HB.out;simp;omega) HS.out).mono ?_);rintro e w1 ⟨he,hb⟩;rw[H1.out]at he;subst he;obtain⟨hc,hf⟩:=Js hb;obtain⟨r0,r1,r2,r3⟩:=Yi hb;obtain⟨q0,q1,q2,q3⟩:=Vj hb;have HS1:=zH (HS.out.below_to hb (by have:=HB.out;simp;omega));have HZ:=zH hb.size)|(go_at_call 34;(with_reducible refine(QU sup _ _ _ _ A cap B _ hl (by have:=HB.out;have:=HZ.out;simp at this;omega) HS1.out).mono ?_);rintro e w2 ⟨he,hb2⟩;rw[H2.out]at he;subst he;have hbb:=zH (hb.trans (hb2.mono hb.size));clear hc hf r0 r1 r2 r3 q0 q1 q2 q3;obtain⟨hc,hf⟩:=Js hbb.out;obtain⟨r0,r1,r2,r3⟩:=Yi hbb.out;obtain⟨q0,q1,q2,q3⟩:=Vj hbb.out;have HS2:=zH (HS.out.below_to hbb.out (by have:=HB.out;simp;omega));have HZ2:=zH hbb.out.size))
   rw[J2.out];refine bodyPost_ret (v:=zO k n) ?_ rfl ⟨rfl,?_⟩
   ·simp[results,Tryz.results76,go_sem,r0,r1]
   ·exact HW.out.trans (((hbb.out.mono (by simp;omega)).setCell (by simp;omega) _).setCell (by simp;omega) _)
  ·have H2:=zH (show zG sup k' n' k n=false by simpa using h2);clear h2;by_cases h3:k=3∧k'=3
   ·rcases hno with g|g|g
    ·exact absurd h3 g
    ·rw[H1.out]at g;cases g
    ·rw[H2.out]at g;cases g
   ·have J2:=zH (show j=(0,0)by rw[J.out,H1.out,H2.out,if_neg h3];rfl);have h3':¬k=3∨(k=3∧¬k'=3):=by omega
    clear h3 J;rcases h3' with h3|⟨rfl,h3⟩
    all_goals
     go_enter Tryz.func76,Tryz.ntmps76;go_wp2_with(first|(go_at_call 34;(with_reducible refine(QU sup _ _ _ _ A cap B _ hl (by have:=HB.out;simp;omega) HS.out).mono ?_);rintro e w1 ⟨he,hb⟩;rw[H1.out]at he;subst he;obtain⟨hc,hf⟩:=Js hb;obtain⟨r0,r1,r2,r3⟩:=Yi hb;obtain⟨q0,q1,q2,q3⟩:=Vj hb;have HS1:=zH (HS.out.below_to hb (by have:=HB.out;simp;omega));have HZ:=zH hb.size)|(go_at_call 34;(with_reducible refine(QU sup _ _ _ _ A cap B _ hl (by have:=HB.out;have:=HZ.out;simp at this;omega) HS1.out).mono ?_);rintro e w2 ⟨he,hb2⟩;rw[H2.out]at he;subst he;have hbb:=zH (hb.trans (hb2.mono hb.size));clear hc hf r0 r1 r2 r3 q0 q1 q2 q3;obtain⟨hc,hf⟩:=Js hbb.out;obtain⟨r0,r1,r2,r3⟩:=Yi hbb.out;obtain⟨q0,q1,q2,q3⟩:=Vj hbb.out;have HS2:=zH (HS.out.below_to hbb.out (by have:=HB.out;simp;omega));have HZ2:=zH hbb.out.size))
     rw[J2.out];refine bodyPost_ret (v:=zO 0 0) ?_ rfl ⟨rfl,?_⟩
     ·simp[results,Tryz.results76,go_sem,r0,r1]
     ·exact HW.out.trans (((hbb.out.mono (by simp;omega)).setCell (by simp;omega) _).setCell (by simp;omega) _)
set_option maxHeartbeats 800000 in
theorem qnx(sup:List Int)(n n':Int)(A:Option Addr)(cap B:Nat)(w:World)(hl:sup.length≤1048576)(hB:B≤w.heap.size)(h:jr w B A sup)
  (h1:zG sup 3 n 3 n'=false) (h2:zG sup 3 n' 3 n=false):
  Calls Tryz.prog 76 #[.slice A sup.length cap,zO 3 n,zO 3 n'] w fun e w'=>e= .returned (zO (jJ ((zA sup n).drop 1) (zA sup n')).1 (jJ ((zA sup n).drop 1) (zA sup n')).2)∧Below w.heap.size w w':=by
 have hW:Below w.heap.size w (((w.alloc (.cells #[.int .i64 3,.int .i64 n] 39)).alloc (.cells #[.int .i64 3,.int .i64 n'] 39)).alloc (.cells #[.int .i64 0,.int .i64 0] 39)):=
  (((zb w.heap.size w).alloc (zn _) _).alloc (by simp) _).alloc (by simp;omega) _
 have HS:=zH (h.below_to hW hB);have HW:=zH hW;have HB:=zH hB;clear h hW hB;have H1:=zH h1;have H2:=zH h2;clear h1 h2;generalize hj:jJ ((zA sup n).drop 1) (zA sup n')=j;have J2:=zH hj.symm;clear hj;go_enter Tryz.func76,Tryz.ntmps76;go_wp2_with(first|(go_at_call 34;(with_reducible refine(QU sup _ _ _ _ A cap B _ hl (by have:=HB.out;simp;omega) HS.out).mono ?_);rintro e w1 ⟨he,hb⟩;rw[H1.out]at he;subst he;obtain⟨hc,hf⟩:=Js hb;obtain⟨r0,r1,r2,r3⟩:=Yi hb;obtain⟨q0,q1,q2,q3⟩:=Vj hb;have HS1:=zH (HS.out.below_to hb (by have:=HB.out;simp;omega));have HZ:=zH hb.size)|(go_at_call 34;(with_reducible refine(QU sup _ _ _ _ A cap B _ hl (by have:=HB.out;have:=HZ.out;simp at this;omega) HS1.out).mono ?_);rintro e w2 ⟨he,hb2⟩;rw[H2.out]at he;subst he;have hbb:=zH (hb.trans (hb2.mono hb.size));clear hc hf r0 r1 r2 r3 q0 q1 q2 q3;obtain⟨hc,hf⟩:=Js hbb.out;obtain⟨r0,r1,r2,r3⟩:=Yi hbb.out;obtain⟨q0,q1,q2,q3⟩:=Vj hbb.out;have HS2:=zH (HS.out.below_to hbb.out (by have:=HB.out;simp;omega));have HZ2:=zH hbb.out.size))
 have y2:w.heap.size+1+1<w2.heap.size:=by have:=HZ2.out;simp at this;omega
 have yB:B≤w2.heap.size:=by have:=HB.out;omega
 have X2:Six w2 w.heap.size (.int .i64 3) (.int .i64 n) (.int .i64 3) (.int .i64 n') (.int .i64 0) (.int .i64 0):=⟨q0,q1,q2,q3,r0,r1,r2,r3⟩
 have X2d:Six w2.drew w.heap.size (.int .i64 3) (.int .i64 n) (.int .i64 3) (.int .i64 n') (.int .i64 0) (.int .i64 0):=X2;have yBd:B≤w2.drew.heap.size:=yB;have y2d:w.heap.size+1+1<w2.drew.heap.size:=y2;have HS2d:Hid (jr w2.drew B A sup):=HS2;have XB:=zH X2d;clear hc hf hb hb2 X2 X2d;have hLA:=zH (YZ sup n);have hLB:=zH (YZ sup n');go_region_held3 (fun w'=>w'.cell? ⟨w.heap.size,0,none⟩=some (.int .i64 3)∧w'.cell? ⟨w.heap.size,1,none⟩=some (.int .i64 n)∧w'.cell? ⟨w.heap.size+1,0,none⟩=some (.int .i64 3)∧w'.cell? ⟨w.heap.size+1,1,none⟩=some (.int .i64 n'))
  (first|go_keep|exact⟨c0,c1,c2,c3⟩|exact⟨d0,d1,d2,d3⟩)
  (first
   |(go_at_call 54;(with_reducible refine(q1g sup n A cap B _ hl yBd HS2d.out).mono ?_);rintro e w3 ⟨v,rfl,ho3,hb3⟩;obtain⟨A3,c3',rfl,hl3⟩:=q1x ho3;have HL3:=zH hl3;clear hl3;have X3:=XB.out.keep hb3 y2d;obtain⟨c0,c1,c2,c3,_⟩:=X3;have XC:=zH (XB.out.keep hb3 y2d);have HS3:=zH (HS2d.out.below_to hb3 yBd);have y3:w2.drew.heap.size≤w3.heap.size:=hb3.size)
   |(go_at_call 54;(with_reducible refine(q1g sup n' A cap B _ hl (Nat.le_trans yBd y3) HS3.out).mono ?_);rintro e w4 ⟨v,rfl,ho4,hb4⟩;obtain⟨A4,c4',rfl,hl4⟩:=q1x ho4;have HL4:=zH hl4;clear hl4;have X4:=XC.out.keep hb4 (Nat.lt_of_lt_of_le y2d y3);obtain⟨d0,d1,d2,d3,d4,d5,d6,d7⟩:=X4;have HL3':=zH (HL3.out.below hb4);have HB4:=zH (hb3.trans (hb4.mono y3))))
 go_wp2_with fail
 have HF:=zH (hbb.out.drew.trans (HB4.out.mono HZ2.out));clear d0 d1 d2 d3 c0 c1 c2 c3;generalize hX:zA sup n=X at*
 generalize hY:zA sup n'=Y at*
 clear hX hY;go_loop [9] (fun i=>∃k:Nat,1≤k∧(k:Int)≤1048577∧i= .int .i64 k∧jJ (X.drop 1) Y=jJ (X.drop k) Y) (fun i=>X.length - (intOf i).toNat)
 case atStart=>exact⟨1,by omega,by omega,rfl,rfl⟩
 case round=>
  obtain⟨k,hk,hk2,rfl,hn⟩:=hrel;have HN:=zH hn;clear hn;by_cases hlt:k<X.length
  ·obtain⟨ad,rfl,_,hcell⟩:=HL3'.out.at_ (k:=k) (by simpa using hlt);have E1:=zH (List.drop_eq_getElem_cons hlt);simp only[List.getElem_map]at hcell;generalize X[k]=x at*
   by_cases hin:qc Y x=true
   ·have R:=zH (show jJ (X.drop 1) Y=(3,x)by rw[HN.out,E1.out];simp only[jJ];rw[if_pos hin]);have HI:=zH hin;clear HN E1 hin;go_wp2_with(go_at_call 61;(with_reducible refine(QV Y x _ _ _ _ (by have:=hLB.out;omega) HL4.out).mono ?_);rintro e w5 ⟨he,rfl⟩;rw[HI.out]at he;subst he)
    rw[J2.out,R.out];refine bodyPost_ret (v:=zO 3 x) ?_ rfl ⟨rfl,?_⟩
    ·simp[results,Tryz.results76,go_sem,d4,d5]
    ·exact HW.out.trans (((HF.out.mono (by simp;omega)).setCell (by simp;omega) _).setCell (by simp;omega) _)
   ·have R:=zH (show jJ (X.drop 1) Y=jJ (X.drop (k+1)) Y by rw[HN.out,E1.out];simp only[jJ];rw[if_neg hin]);have HI:=zH (show qc Y x=false by simpa using hin);clear HN E1 hin;go_wp2_with(go_at_call 61;(with_reducible refine(QV Y x _ _ _ _ (by have:=hLB.out;omega) HL4.out).mono ?_);rintro e w5 ⟨he,rfl⟩;rw[HI.out]at he;subst he)
    go_round
    case rel=>exact⟨k+1,by omega,by have:=hLA.out;omega,by go_num,R.out⟩
    case measure=>simp[intOf];omega
  ·have R:=zH (show jJ (X.drop 1) Y=(0,0)by rw[HN.out,List.drop_eq_nil_of_le (by omega)];rfl);clear HN;go_wp2_with fail
   rw[J2.out,R.out];refine bodyPost_ret (v:=zO 0 0) ?_ rfl ⟨rfl,?_⟩
   ·simp[results,Tryz.results76,go_sem,d4,d5]
   ·exact HW.out.trans (((HF.out.mono (by simp;omega)).setCell (by simp;omega) _).setCell (by simp;omega) _)
theorem qkt(sup:List Int)(k n k' n':Int)(A:Option Addr)(cap B:Nat)(w:World)(hl:sup.length≤1048576)(hB:B≤w.heap.size)(h:jr w B A sup):
  Calls Tryz.prog 76 #[.slice A sup.length cap,zO k n,zO k' n'] w fun e w'=>e= .returned (zO (qX sup k n k' n').1 (qX sup k n k' n').2)∧Below w.heap.size w w':=by
 by_cases h1:zG sup k n k' n'=true
 ·exact q4o sup k n k' n' A cap B w hl hB h (.inr (.inl h1))
 ·by_cases h2:zG sup k' n' k n=true
  ·exact q4o sup k n k' n' A cap B w hl hB h (.inr (.inr h2))
  ·by_cases h3:k=3∧k'=3
   ·obtain⟨rfl,rfl⟩:=h3;have e:qX sup 3 n 3 n'=jJ ((zA sup n).drop 1) (zA sup n'):=by unfold qX;rw[if_neg h1,if_neg h2,if_pos ⟨rfl,rfl⟩]
    rw[e];exact qnx sup n n' A cap B w hl hB h (by simpa using h1) (by simpa using h2)
   ·exact q4o sup k n k' n' A cap B w hl hB h (.inl h3)
theorem qir(k n cap:Nat)(ad:Addr)(x y z:Int)(w:World)(hk:k<n)(hn:n≤9223372036854775807)(hab:ad.block<w.heap.size)
  (r0:w.cell? (ad.add (k*3))=some (.int .i64 x)) (r1:w.cell? (zc (ad.add (k*3)) 1)=some (.int .i64 y)) (r2:w.cell? (zc (ad.add (k*3)) 2)=some (.int .i64 z)):
  Calls Tryz.prog 90 #[.slice (some ad) n cap,.int .i64 k] w fun e w'=>e= .returned (.tuple #[zF x y z,.bool true])∧Below w.heap.size w w':=by
 have HW:=zH ((zb w.heap.size w).alloc (zn _) (.cells #[.int .i64 0,.int .i64 0,.int .i64 0] 45));have r0:=(HW.out.cell (p:=ad.add (k*3)) (by rw[zt];exact hab)).trans r0;have r1:=(HW.out.cell (p:=zc (ad.add (k*3)) 1) (by show(ad.add _).block<_;rw[zt];exact hab)).trans r1;have r2:=(HW.out.cell (p:=zc (ad.add (k*3)) 2) (by show(ad.add _).block<_;rw[zt];exact hab)).trans r2;go_enter Tryz.func90,Tryz.ntmps90;go_wp2
 exact bodyPost_ret (v:= .tuple #[zF x y z,.bool true]) (by simp[results,Tryz.results90,go_sem]) rfl ⟨rfl,(zb _ _).alloc (zn _) _⟩
theorem q97{P:Prop}(h:P:=by
 go_enter Tryz.func90,Tryz.ntmps90;go_wp2
 exact bodyPost_ret (v:= .tuple #[zF 0 0 0,.bool false]) (by simp[results,Tryz.results90,go_sem]) rfl ⟨rfl,((zb _ _).alloc (zn _) _).alloc (by simp) _⟩):P:=h
theorem qay(k:Int)(n cap:Nat)(A:Option Addr)(w:World)(hn:n≤9223372036854775807)(hk:k<0∨(n:Int)≤k):
  Calls Tryz.prog 90 #[.slice A n cap,.int .i64 k] w fun e w'=>e= .returned (.tuple #[zF 0 0 0,.bool false])∧Below w.heap.size w w':=by
 by_cases h0:k<0
 ·clear hk;exact q97
 ·have h1:(n:Int)≤k:=by omega
  have h2:0≤k:=by omega
  clear hk h0;exact q97
theorem qio(k n cap:Nat)(ad:Addr)(x y:Int)(w:World)(hk:k<n)(hn:n≤9223372036854775807)(hab:ad.block<w.heap.size)
  (r0:w.cell? (ad.add (k*2))=some (.int .i64 x)) (r1:w.cell? (zc (ad.add (k*2)) 1)=some (.int .i64 y)):
  Calls Tryz.prog 132 #[.slice (some ad) n cap,.int .i64 k] w fun e w'=>e= .returned (.tuple #[zO x y,.bool true])∧Below w.heap.size w w':=by
 have HW:=zH ((zb w.heap.size w).alloc (zn _) (.cells #[.int .i64 0,.int .i64 0] 39));have r0:=(HW.out.cell (p:=ad.add (k*2)) (by rw[zt];exact hab)).trans r0;have r1:=(HW.out.cell (p:=zc (ad.add (k*2)) 1) (by show(ad.add _).block<_;rw[zt];exact hab)).trans r1;go_enter Tryz.func132,Tryz.ntmps132;go_wp2
 exact bodyPost_ret (v:= .tuple #[zO x y,.bool true]) (by simp[results,Tryz.results132,go_sem]) rfl ⟨rfl,(zb _ _).alloc (zn _) _⟩
theorem qfn(k n cap:Nat)(ad:Addr)(A0 A1 A4 A7:Option Addr)(n0 c0 n1 c1 n4 c4 n7 c7:Nat)(u2 u3 u5 u6:Int)(w:World)(hk:k<n)(hn:n≤9223372036854775807)(hab:ad.block<w.heap.size)
  (r0:w.cell? (ad.add (k*8))=some (.slice A0 n0 c0)) (r1:w.cell? (zc (ad.add (k*8)) 1)=some (.slice A1 n1 c1)) (r2:w.cell? (zc (ad.add (k*8)) 2)=some (.int .i64 u2)) (r3:w.cell? (zc (ad.add (k*8)) 3)=some (.int .i64 u3)) (r4:w.cell? (zc (ad.add (k*8)) 4)=some (.slice A4 n4 c4)) (r5:w.cell? (zc (ad.add (k*8)) 5)=some (.int .i64 u5)) (r6:w.cell? (zc (ad.add (k*8)) 6)=some (.int .i64 u6)) (r7:w.cell? (zc (ad.add (k*8)) 7)=some (.slice A7 n7 c7)):
  Calls Tryz.prog 89 #[.slice (some ad) n cap,.int .i64 k] w fun e w'=>e= .returned (.tuple #[.agg #[.slice A0 n0 c0,.slice A1 n1 c1,.int .i64 u2,.int .i64 u3,.slice A4 n4 c4,.int .i64 u5,.int .i64 u6,.slice A7 n7 c7],.bool true])∧Below w.heap.size w w':=by
 have HW:=zH ((zb w.heap.size w).alloc (zn _) (.cells #[.slice none 0 0,.slice none 0 0,.int .i64 0,.int .i64 0,.slice none 0 0,.int .i64 0,.int .i64 0,.slice none 0 0] 42));have r0:=(HW.out.cell (p:=ad.add (k*8)) (by rw[zt];exact hab)).trans r0;have r1:=(HW.out.cell (p:=zc (ad.add (k*8)) 1) (by show(ad.add _).block<_;rw[zt];exact hab)).trans r1;have r2:=(HW.out.cell (p:=zc (ad.add (k*8)) 2) (by show(ad.add _).block<_;rw[zt];exact hab)).trans r2;have r3:=(HW.out.cell (p:=zc (ad.add (k*8)) 3) (by show(ad.add _).block<_;rw[zt];exact hab)).trans r3;have r4:=(HW.out.cell (p:=zc (ad.add (k*8)) 4) (by show(ad.add _).block<_;rw[zt];exact hab)).trans r4;have r5:=(HW.out.cell (p:=zc (ad.add (k*8)) 5) (by show(ad.add _).block<_;rw[zt];exact hab)).trans r5;have r6:=(HW.out.cell (p:=zc (ad.add (k*8)) 6) (by show(ad.add _).block<_;rw[zt];exact hab)).trans r6;have r7:=(HW.out.cell (p:=zc (ad.add (k*8)) 7) (by show(ad.add _).block<_;rw[zt];exact hab)).trans r7;go_enter Tryz.func89,Tryz.ntmps89;go_wp2
 exact bodyPost_ret (v:= .tuple #[.agg #[.slice A0 n0 c0,.slice A1 n1 c1,.int .i64 u2,.int .i64 u3,.slice A4 n4 c4,.int .i64 u5,.int .i64 u6,.slice A7 n7 c7],.bool true]) (by simp[results,Tryz.results89,go_sem]) rfl ⟨rfl,(zb _ _).alloc (zn _) _⟩
theorem q98{P:Prop}(h:P:=by
 go_enter Tryz.func89,Tryz.ntmps89;go_wp2
 exact bodyPost_ret (v:= .tuple #[.agg #[.slice none 0 0,.slice none 0 0,.int .i64 0,.int .i64 0,.slice none 0 0,.int .i64 0,.int .i64 0,.slice none 0 0],.bool false]) (by simp[results,Tryz.results89,go_sem]) rfl ⟨rfl,((zb _ _).alloc (zn _) _).alloc (by simp) _⟩):P:=h
theorem qiq(k:Int)(n cap:Nat)(A:Option Addr)(w:World)(hn:n≤9223372036854775807)(hk:k<0∨(n:Int)≤k):
  Calls Tryz.prog 89 #[.slice A n cap,.int .i64 k] w fun e w'=>e= .returned (.tuple #[.agg #[.slice none 0 0,.slice none 0 0,.int .i64 0,.int .i64 0,.slice none 0 0,.int .i64 0,.int .i64 0,.slice none 0 0],.bool false])∧Below w.heap.size w w':=by
 by_cases h0:k<0
 ·clear hk;exact q98
 ·have h1:(n:Int)≤k:=by omega
  have h2:0≤k:=by omega
  clear hk h0;exact q98
theorem qip(k n cap:Nat)(ad:Addr)(hx:zS)(x:ze)(w:World)(hk:k<n)(hn:n≤9223372036854775807)(hab:ad.block<w.heap.size)(hc:YI w (ad.add (k*8)) hx x):
  Calls Tryz.prog 89 #[.slice (some ad) n cap,.int .i64 k] w fun e w'=>e= .returned (.tuple #[kW hx x,.bool true])∧Below w.heap.size w w':=
 qfn k n cap ad _ _ _ _ _ _ _ _ _ _ _ _ _ _ _ _ w hk hn hab hc.c0 hc.c1 hc.c2 hc.c3 hc.c4 hc.c5 hc.c6 hc.c7
theorem Vh{m:za}{h:zl}{w0 w:World}{f:Nat}{x:ze}(HI:Hid (zp w0 w0.heap.size h m))(HX:Hid (Below w0.heap.size w0 w))(hx:m.methods[f]? =some x):
  Calls Tryz.prog 89 #[.slice h.A3 m.methods.length h.c3,.int .i64 f] w fun e w'=>∃hn,e= .returned (.tuple #[kW hn x,.bool true])∧qy w' w'.heap.size hn x∧Below w.heap.size w w':=by
 have H:=HI.out.now HX.out;have hf:f<m.methods.length:=by
  rcases Nat.lt_or_ge f m.methods.length with g|g
  ·exact g
  ·rw[List.getElem?_eq_none g]at hx;cases hx
 rw[List.getElem?_eq_getElem hf]at hx;injection hx with hx;subst hx;obtain⟨ad,hn,e,hb,hm,hc⟩:=jB H hf;rw[e];have h1:=H.methods.le;have h2:=H.methods.cap;refine(qip f _ _ ad hn _ w hf (by omega) hb hc).mono ?_;rintro e w' ⟨rfl,hw⟩;exact⟨hn,rfl,hm.now hw,hw⟩
theorem q56{l:List (Int×Int)}{A:Option Addr}{cap:Nat}{w:World}{k:Nat}{t:Int×Int}(H:zd zi 2 w w.heap.size A cap l)(ht:l[k]? =some t):
  Calls Tryz.prog 132 #[.slice A l.length cap,.int .i64 k] w fun e w'=>e= .returned (.tuple #[zO t.1 t.2,.bool true])∧Below w.heap.size w w':=by
 have hk:k<l.length:=by
  rcases Nat.lt_or_ge k l.length with g|g
  ·exact g
  ·rw[List.getElem?_eq_none g]at ht;cases ht
 rw[List.getElem?_eq_getElem hk]at ht;injection ht with ht;subst ht;obtain⟨ad,rfl,hb,h0,h1⟩:=H.row.at_ hk;have g1:=H.le;have g2:=H.cap;exact qio k _ _ ad _ _ w hk (by omega) hb h0 h1
theorem qmu{l:List (Int×Int×Int)}{A:Option Addr}{cap:Nat}{w:World}{k:Nat}{t:Int×Int×Int}(H:zd qw 3 w w.heap.size A cap l)(ht:l[k]? =some t):
  Calls Tryz.prog 90 #[.slice A l.length cap,.int .i64 k] w fun e w'=>e= .returned (.tuple #[zF t.1 t.2.1 t.2.2,.bool true])∧Below w.heap.size w w':=by
 have hk:k<l.length:=by
  rcases Nat.lt_or_ge k l.length with g|g
  ·exact g
  ·rw[List.getElem?_eq_none g]at ht;cases ht
 rw[List.getElem?_eq_getElem hk]at ht;injection ht with ht;subst ht;obtain⟨ad,rfl,hb,h0,h1,h2⟩:=H.row.at_ hk;have g1:=H.le;have g2:=H.cap;exact qir k _ _ ad _ _ _ w hk (by omega) hb h0 h1 h2
open Go.ChangeShapes Go.WideShapes Go.ChangeAt Go.RowKit Go.Shelf
attribute [local go_sem] Oper.semAt_some
def kH(U:List Int):List (Fin U.length):=(List.finRange U.length).reverse
theorem q57(U:List Int):(kH U).length=U.length:=by simp[kH]
theorem qiu(U:List Int)(k:Nat)(h:k<U.length):(kH U).take (k+1)=(kH U).take k++[⟨U.length - 1 - k,by omega⟩]:=by
 have hk:k<(kH U).length:=by rw[q57];exact h
 rw[List.take_add_one,List.getElem?_eq_getElem hk];simp[kH,List.getElem_reverse]
theorem qmz(U:List Int):(kH U).take U.length=kH U:=List.take_of_length_le (by rw[q57];omega)
theorem qmy(U:List Int):(kH U).map (fun x=>U[x])=U.reverse:=by
 unfold kH;rw[List.map_reverse];congr 1;apply List.ext_getElem
 ·simp
 ·intro i h1 h2;simp
def encU(U:List Int)(x:Fin U.length):Array Value:= #[.int .i64 (x.1:Int),.int .i64 U[x]]
def Kept(lo N:Nat)(A B:World):Prop:=∀q:Addr,lo≤q.block→q.block<N→B.cell? q=A.cell? q
def VA(w:World)(lo N:Nat)(A:Option Addr)(xs:List Value):Prop:=∀j u,xs[j]? =some u→∃ad,A=some ad∧lo≤ad.block∧ad.block<N∧w.cell? (ad.add j)=some u
theorem VA.keep{w w':World}{lo N:Nat}{A:Option Addr}{xs:List Value}(h:VA w lo N A xs)(hk:Kept lo N w w'):VA w' lo N A xs:=fun j u hu=>by
 obtain⟨ad,e,h0,h1,hc⟩:=h j u hu;exact⟨ad,e,h0,h1,(hk (ad.add j) (by rw[zt];exact h0) (by rw[zt];exact h1)).trans hc⟩
set_option maxHeartbeats 2000000 in
theorem qpi(F:Fence)(n:Nat)(hF:F.fn 103)(hro:F.round=none)(hn:1≤n)(l Bs lo N:Nat)(A:Option Addr)(cap:Nat)(U:List Int)(hU:U.length≤1048576){Kp:World→World→Prop}(hKp:∀A B,Kp A B→Kept lo N A B)(J Jx:List (Fin U.length)→World→Prop)
  (hY:∀pre x W,J pre W→pre.length<U.length→YieldAt F (n - 1) Tryz.prog l (encU U x) W fun e W'=>
   (e= .returned (.bool true)∧J (pre++[x]) W'∧Kp W W')∨(e= .returned (.bool false)∧Jx (pre++[x]) W'))
  (W:World) (hBs:W.cell? ⟨Bs,0,none⟩=some (.slice A U.length cap)) (hBl:lo≤Bs) (hBn:Bs<N) (hc:VA W lo N A (U.map (Value.int .i64))) (h0:J [] W):
  CallsIn F n Tryz.prog 103 #[.func (.yield l) #[] #[],.pointer (some ⟨Bs,0,none⟩)] W fun e W'=>(∃v,e= .returned v)∧
   ((∃ys,ys=kH U∧J ys W')∨(∃pre,(∃k,k≤U.length∧pre=(kH U).take k)∧Jx pre W')):=by
 have HC:=zH hc;have HQ:Hid (∀wr,Kept lo N W wr→wr.cell? ⟨Bs,0,none⟩=some (.slice A U.length cap)):=zH (fun wr hw=>(hw ⟨Bs,0,none⟩ hBl hBn).trans hBs);clear hc;refine callsIn_of_wp Tryz.func103 rfl hF ?_ hro;simp only[Tryz.ntmps103,List.size_toArray,List.length_cons,List.length_nil,Nat.reduceAdd,Nat.reduceSub,Array.replicate_succ,Array.replicate_zero,List.push_toArray,List.append_toArray,List.nil_append,List.cons_append]
 gi_wp2
 clear hBs
 gi_loopw [3] (fun i wr=>∃(k:Nat) (z:Int),k≤U.length∧i= .int .i64 z∧z=(U.length:Int) - k - 1∧J ((kH U).take k) wr∧Hid (Kept lo N W wr))
  (fun i _=>(intOf i+1).toNat)
 case atStart=>exact⟨0,_,Nat.zero_le _,rfl,by omega,h0,zH (fun _ _ _=>rfl)⟩
 case round=>
  obtain⟨k,z,hk,rfl,hz,hJs,hnx⟩:=hrel;by_cases hlt:k<U.length
  ·have hBs:=HQ.out wr hnx.out;have hjl:U.length - 1 - k<U.length:=by omega
   obtain⟨ad,rfl,hab0,hab,hcx⟩:=(HC.out.keep hnx.out) (U.length - 1 - k) _ (List.getElem?_eq_getElem (by simpa using hjl));obtain⟨fn,tmps,assign,body,hy,hR⟩:=hY _ ⟨U.length - 1 - k,hjl⟩ wr hJs (by rw[List.length_take,q57];omega);have HS:=zH (qiu U k hlt);unfold encU at hy;rw[List.getElem_map]at hcx;dsimp only[Fin.getElem_fin]at hy;generalize U[U.length - 1 - k]=u at hcx hy;obtain⟨j,hj⟩:∃j,U.length - 1 - k=j:=⟨_,rfl⟩
   simp only[hj]at hcx hy hR HS;have hjl:j<U.length:=by omega
   obtain rfl:z=(j:Int):=by omega
   clear hz
   gi_wp2
   refine hR.mono ?_;rintro e W3 (⟨rfl,hJ3,hk3⟩|⟨rfl,hJx3⟩)
   ·gi_wp2
    go_roundw;case rel=>exact⟨k+1,(j:Int) - 1,by omega,by go_num,by omega,by rw[HS.out];exact hJ3,zH (fun q q0 q1=>(hKp _ _ hk3 q q0 q1).trans (hnx.out q q0 q1))⟩
    case measure=>simp[intOf]
   ·gi_wp2
    refine bodyPost_ret (results_none rfl _ _ _) rfl ?_;exact⟨⟨_,rfl⟩,.inr ⟨_,⟨k+1,by omega,HS.out.symm⟩,hJx3⟩⟩
  ·obtain rfl:k=U.length:=by omega
   obtain rfl:z= -1:=by omega
   clear hz
   gi_wp2
   go_end0
   exact⟨⟨_,rfl⟩,.inl ⟨_,qmz U,hJs⟩⟩
theorem qrl(F:Fence)(n:Nat)(hF:F.fn 84)(hro:F.round=none)(A:Option Addr)(len cap:Nat)(w:World):
  CallsIn F n Tryz.prog 84 #[.slice A len cap] w fun e w'=>e= .returned (.func (.func 103) #[] #[.pointer (some ⟨w.heap.size,0,none⟩)])∧w'=w.alloc (.cells #[.slice A len cap] 26):=by
 refine callsIn_of_wp Tryz.func84 rfl hF ?_ hro;simp only[Tryz.ntmps84,List.size_toArray,List.length_cons,List.length_nil,Nat.reduceAdd,Nat.reduceSub,Array.replicate_succ,Array.replicate_zero,List.push_toArray,List.append_toArray,List.nil_append,List.cons_append]
 gi_wp2
 go_ret;exact⟨rfl,rfl⟩
theorem qjj(F:Fence)(n:Nat)(hF:F.fn 103)(hro:F.round=none)(hn:1≤n)(Bs lo N:Nat)(A:Option Addr)(cap:Nat)(U:List Int)(hU:U.length≤1048576){Kp:World→World→Prop}(hKp:∀A B,Kp A B→Kept lo N A B)(w:World)(hBl:lo≤Bs)(hBs:Bs<N)(hn₀:N≤w.heap.size)
  (hc:w.cell? ⟨Bs,0,none⟩=some (.slice A U.length cap)) (hI:VA w lo N A (U.map (Value.int .i64))):
  SeqStopsK F n Tryz.prog 103 #[.pointer (some ⟨Bs,0,none⟩)] (encU U) Kp (fun ys=>ys=kH U)
   (fun pre=>∃k,k≤U.length∧pre=(kH U).take k) U.length w:=fun l J Jx W hW _ _ hY h0=>
 qpi F n hF hro hn l Bs lo N A cap U hU hKp J Jx hY W ((hW.cell (p:=⟨Bs,0,none⟩) (Nat.lt_of_lt_of_le hBs hn₀)).trans hc) hBl hBs (hI.keep fun q _ q1=>hW.cell (Nat.lt_of_lt_of_le q1 hn₀)) h0
attribute [local go_sem] Oper.semAt_some
theorem qhm{w:World}{base e n c:Nat}{A:Option Addr}{xs:List Value}(h:w.ownsRow base e 1 (.slice A n c) n xs):VA w base w.heap.size A xs:=fun j u hu=>by
 obtain⟨ad,e,hb,hc⟩:=zz.of_own h j u hu;refine⟨ad,e,?_,hb,hc⟩;rcases h.2 with⟨h0,_⟩|⟨g,cap,cur,hv,hg,_⟩
 ·injection h0 with h0;rw[h0]at e;cases e
 ·injection hv with hv;rw[hv]at e;injection e with e;rw[←e];exact hg
theorem qnh{cl:List qv}{c:Int}{U:List Int}{A:Option Addr}{cap:Nat}{w:World}(hn:cl.length≤1048576)(HU:Hid (zA (zw cl) c=U))(h:zd jc 3 w w.heap.size A cap cl):
  Calls Tryz.prog 85 #[.slice A cl.length cap,.int .i64 c] w (vO U w):=by
 have H:=qju cl c A cap w hn h;rw[HU.out]at H;exact H
def qF(N g:Nat)(A B:World):Prop:=A.heap.size≤B.heap.size∧∀b,b<N→b≠g→B.heap[b]? =A.heap[b]?
theorem qF.refl(N g:Nat)(A:World):qF N g A A:=⟨zn _,fun _ _ _=>rfl⟩
theorem qF.trans{N g:Nat}{A B C:World}(h:qF N g A B)(h':qF N g B C):qF N g A C:=⟨Nat.le_trans h.1 h'.1,fun b b0 b1=>(h'.2 b b0 b1).trans (h.2 b b0 b1)⟩
theorem qF.cell{N g:Nat}{A B:World}(h:qF N g A B){p:Addr}(h0:p.block<N)(h1:p.block≠g):B.cell? p=A.cell? p:=by
 unfold World.cell?;rw[h.2 _ h0 h1]
theorem qF.kept{N g:Nat}{A B:World}(h:qF N g A B):Kept (g+1) N A B:=fun q q0 q1=>h.cell q1 (by omega)
theorem qF.putObj{N g:Nat}{A:World}{l:Nat}{o:Obj}(hl:N≤l):qF N g A (A.putObj l o):=
 ⟨by simp,fun b b0 _=>World.putObj_heap_other (by omega)⟩
theorem qF.grown{N g:Nat}{A B C:World}{row:Option Nat}(h:qF N g A B)(hg:B.grownBy C row)(hN:N≤B.heap.size)(hr:∀r,row=some r→N≤r∨r=g):qF N g A C:=
 ⟨Nat.le_trans h.1 hg.size,fun b b0 b1=>(hg.block b (by omega) (fun e=>by rcases hr b e.symm with x|x<;>omega)).trans (h.2 b b0 b1)⟩
theorem qF.box{N g:Nat}{A B:World}(h:qF N g A B){k:Nat}{hd:zl}{m:za}(H:Zl A k hd m)(h0:k<N)(h1:k≠g):Zl B k hd m:=by
 obtain⟨q0,q1,q2,q3,q4,q5,q6⟩:=H;have c:∀i,B.cell? ⟨k,i,none⟩=A.cell? ⟨k,i,none⟩:=fun i=>h.cell (p:=⟨k,i,none⟩) h0 h1;exact⟨(c 0).trans q0,(c 1).trans q1,(c 2).trans q2,(c 3).trans q3,(c 4).trans q4,(c 5).trans q5,(c 6).trans q6⟩
theorem q76{β:Type}{B N g:Nat}{A:World}(hN:N≤B)(hA:N≤A.heap.size):OwnFrom B (fun(_:β) W=>qF N g A W):=fun s X Y row hs hg hr=>
 hs.grown hg (Nat.le_trans hA hs.1) (fun r e=> .inl (Nat.le_trans hN (hr r e).1))
def Qj(cl:List qv)(U:List Int)(pre:List (Fin U.length)):List (Int×Int):=(pre.map (fun x=>U[x])).flatMap (vU cl)
theorem qe0(cl:List qv)(U:List Int)(pre:List (Fin U.length))(x:Fin U.length):Qj cl U (pre++[x])=Qj cl U pre++vU cl U[x]:=by simp[Qj]
theorem qei(cl:List qv)(U:List Int):Qj cl U (kH U)=U.reverse.flatMap (vU cl):=by unfold Qj;rw[qmy]
theorem qr3{w:World}{B e size n:Nat}{v:Value}{xs:List Value}(h:w.ownsRow B e size v n xs):∀r,v.ownBlock=some r→B≤r:=fun r hr=>by
 rcases h.2 with⟨rfl,_⟩|⟨g,cap,cur,rfl,hg,_⟩
 ·simp[Value.ownBlock]at hr
 ·have:g=r:=by simpa[Value.ownBlock]using hr
  omega
theorem qhx{N g:Nat}{A B:World}(h:qF N g A B)(v:Value):qF N g A (B.setCell ⟨g,0,none⟩ v):=
 ⟨by have:=(KeepsWalks.setCell B ⟨g,0,none⟩ v).size;exact Nat.le_trans h.1 this,fun b b0 b1=>(Below.heap_setCell _ _ _ b b1).trans (h.2 b b0 b1)⟩
theorem qlm{w:World}{B e size n:Nat}{v:Value}{xs:List Value}(h:w.ownsRow B e size v n xs):∀j o,v.ownBlock=some j→w.heap[j]? =some o→o.isCells=true:=fun j o hj ho=>by
 rcases h.2 with⟨rfl,_⟩|⟨g,cap,cur,rfl,hg,hh,_⟩
 ·simp[Value.ownBlock]at hj
 ·obtain rfl:g=j:=by simpa[Value.ownBlock]using hj
  rw[hh]at ho;cases ho;rfl
theorem qr2{w:World}{B e size n:Nat}{v:Value}{xs:List Value}(h:w.ownsRow B e size v n xs):∃A c,v= .slice A n c:=by
 rcases jA h with⟨rfl,rfl⟩|⟨g,c,rfl,_⟩
 ·exact⟨_,_,rfl⟩
 ·exact⟨_,_,rfl⟩
set_option maxHeartbeats 3200000 in
theorem q8g(m:za)(c:Int)(h:zl)(w:World)(H:zp w w.heap.size h m)(hn:m.classes.length≤1000)(hf:∀x ∈m.classes,x.fields.length≤1000):
  Calls Tryz.prog 51 #[zr h m,.int .i64 c] w (QB (qS m.classes c) w):=by
 obtain⟨i0,hi,hz0,hz1,hz2⟩:=jg kK;have HW:=zH (((zb w.heap.size w).alloc (zn _) (zq h m)).alloc (by simp) (.cells #[.slice none 0 0] 23));have HSZ:=zH (show((w.alloc (zq h m)).alloc (.cells #[.slice none 0 0] 23)).heap.size=w.heap.size+1+1 by simp);have HIM:=zH (H.now HW.out);have HBX:=zH ((qf w h m).keep ((zb _ (w.alloc (zq h m))).alloc (zn _) (.cells #[.slice none 0 0] 23)) (by simp));have HAL:=zH (show Go.Boxed ((w.alloc (zq h m)).alloc (.cells #[.slice none 0 0] 23)) (w.heap.size+1) 23 (.slice none 0 0)from by
  have:=Go.Boxed.new (w.alloc (zq h m)) 23 (.slice none 0 0);rw[World.size_alloc]at this;exact this)
 have HI0:=zH H;have HI0:=zH H;have HI0:=zH H;have HF:=zH hf;have HFO:=zH (show qS m.classes c=(zA (zw m.classes) c).reverse.flatMap (vU m.classes)from rfl);have hsl:(zw m.classes).length=m.classes.length:=vZ _;obtain⟨U,hU⟩:∃U,zA (zw m.classes) c=U:=⟨_,rfl⟩
 have hUl:U.length≤1000:=by rw[←hU];have:=YZ (zw m.classes) c;omega
 have HUm:Hid (∀i ∈U,0≤i∧i<m.classes.length):=zH (by rw[←hU];intro i hi;have:=qb6 hi;omega);have HU:=zH hU;rw[hU]at HFO;clear hsl hU H hf;refine(callsIn_wide (n:=4)).1 ?_;refine callsIn_of_wp_marks Tryz.func51 rfl trivial ?_ rfl;simp only[Tryz.ntmps51,List.size_toArray,List.length_cons,List.length_nil,Nat.reduceAdd,Nat.reduceSub,Array.replicate_succ,Array.replicate_zero,List.push_toArray,List.append_toArray,List.nil_append,List.cons_append]
 gi_wp2_with (first
  |(refine⟨trivial,?_⟩;gi_at_call 85;refine(callsIn_wide.2 (qnh (by omega) HU HIM.out.classes)).mono ?_;rintro e w3 ⟨v3,rfl,ho,hb⟩;obtain⟨A3,c3,rfl,hl3,g1,g2⟩:=kM ho;have HB3:=zH hb;have HO3:=zH (qhm ho);clear hb ho hl3)
  |(refine⟨trivial,?_⟩;gi_at_call 84;refine(qrl Fence.wide _ trivial rfl _ _ _ _).mono ?_;rintro e w' ⟨rfl,rfl⟩))
 generalize(w.alloc (zq h m)).alloc (.cells #[.slice none 0 0] 23)=w2 at*
 obtain⟨N,hN⟩:∃N,N=w3.heap.size:=⟨_,rfl⟩
 have hs3:=HB3.out.size;have hs2:=HSZ.out;rw[←hN]at HO3 hs3;rw[hs2]at HO3;have hbB:Below w2.heap.size w2 (w3.alloc (.cells #[.slice A3 U.length c3] 26)):=HB3.out.trans ((zb _ w3).alloc (by omega) _);have HBB:=zH hbB;have hbox:=HBX.out.keep hbB (by omega);have hall:=(hbB.block (w.heap.size+1) (by omega)).trans HAL.out;have hcl:=HIM.out.now hbB;refine wpIn_rangeFunc_ownG rfl (by omega) (gf:=103) (lb:= #[.pointer (some ⟨w3.heap.size,0,none⟩)]) rfl trivial (enters_of Tryz.func103 (by kernel_rfl) rfl)
  (qjj Fence.wide 3 trivial rfl (by omega) w3.heap.size (w.heap.size+1+1) (N+1) A3 c3 U (by omega) (Kp:=qF (N+1) (w.heap.size+1)) (fun _ _ hk=>hk.kept) (w3.alloc (.cells #[.slice A3 U.length c3] 26)) (by omega) (by omega) (by simp;omega)
   (by rw[World.cell?_alloc_at _ _ _ _ rfl];rfl) (fun j u hu=>by
    obtain⟨ad,e,a0,a1,hc⟩:=HO3.out j u hu;exact⟨ad,e,a0,by omega,(World.cell?_alloc_lt w3 _ _ (by rw[zt];omega)).trans hc⟩))
  (fun a b=>a.trans b) (fun W l o o' hl _ _ _=>qF.putObj (by simp at hl;omega)) (zb _ _) (fun _=>rfl)
  (fun pre W=>(∃v,Go.Boxed W (w.heap.size+1) 23 v∧W.ownsRow (N+1) 39 2 v (Qj m.classes U pre).length (zD (Qj m.classes U pre))∧True)∧qF (N+1) (w.heap.size+1) (w3.alloc (.cells #[.slice A3 U.length c3] 26)) W∧Below w.heap.size w W)
  (fun _ _ _=>False)
  (OwnFrom.and (Own.from (holdsRow_own (N+1) (w.heap.size+1) 23 39 2 (fun pre=>(Qj m.classes U pre).length) (fun pre=>zD (Qj m.classes U pre)) (fun _ _=>True)) _) (OwnFrom.and (q76 (by simp;omega) (by simp;omega)) (ownFrom_below (zn _) (by simp;omega))))
  (fun _ _ _ _ _ hs _ _=>hs)
  ⟨⟨_,hall,World.ownsRow_nil _ _ _ _,trivial⟩,qF.refl _ _ _,HW.out.trans (hbB.mono (by omega))⟩
  (fun x=> {tmps:= #[zr h m,.int .i64 c,.pointer (some ⟨w.heap.size,0,none⟩),undef,.slice none 0 0,.pointer (some ⟨w.heap.size+1,0,none⟩),undef,.int .i64 U[x],
   .pointer (some ⟨w.heap.size,0,none⟩),.slice h.A0 m.classes.length h.c0,.int .i64 c,.slice A3 U.length c3,.func (.func 103) #[] #[.pointer (some ⟨w3.heap.size,0,none⟩)],
   .int .i64 (x.1:Int),.int .i64 U[x],undef,undef,undef,undef,undef,undef,undef,undef,undef],defers:=[]}) ?assign ?body ?done ?stop
 case assign=>
  intro l x W K hK;unfold encU
  gi_wp2
  exact hK
 case body=>
  rintro l pre x W ⟨⟨v,hv,hrow,-⟩,hkb,hB⟩ hlt;have HSN:=zH (qe0 m.classes U pre x);have hsum:=q1j HF.out (pre.map (fun x=>U[x]));rw[List.length_map]at hsum;obtain⟨u0,u1⟩:=HUm.out U[x] (List.getElem_mem x.2);generalize U[x]=u at*
  obtain⟨j,rfl⟩:=Int.eq_ofNat_of_zero_le u0;have hjl:j<m.classes.length:=by omega
  have hfx:=HF.out _ (List.getElem_mem hjl);have HFA:=zH (q7p hjl);obtain⟨ad,e0,hab,hcx⟩:=(HI0.out.below_to hB (zn _)).classes.row.at_ hjl;generalize m.classes[j]=y at*
  obtain⟨s0,⟨A1,k1,s1,hs1⟩,_⟩:=hcx;have hmx:Tryz.prog.follows .mixedOrders=true:=by kernel_rfl
  obtain⟨q0,q1,q2,q3,q4,q5,q6⟩:=hkb.box hbox (by omega) (by omega);clear q1 q2 q3 q4 q5 q6 s0;rw[e0]at q0;obtain⟨L,hL⟩:∃L,Qj m.classes U pre=L:=⟨_,rfl⟩
  rw[hL]at hrow HSN;have hLl:L.length≤1000000:=by rw[←hL];unfold Qj;omega
  have HO:=zH hrow;obtain⟨Av,cv,rfl,_,_⟩:=vy hrow;clear hrow hL hsum;have hc:=hv.cell;have hfr:=hv.frozen;have HV:=zH hv;have HKB:=zH hkb;have HB:=zH hB;have HS1:Hid (∀W',Below w.heap.size W W'→W'.cell? (zc (ad.add (j*3)) 1)=some (.slice A1 y.fields.length k1)):=zH (fun W' hW=>(hW.cell (p:=zc (ad.add (j*3)) 1) (by show(ad.add _).block<_;rw[zt];exact hab)).trans s1);have HTL:=zH (vl hs1.row);have hs2':=hs1.le;have hs3':=hs1.cap;have hNW:N+1≤W.heap.size:=by have:=hkb.1;simp at this;omega
  clear hv hkb hB hs1
  gi_wp2
  have HTLd:Hid (zz W.drew w.heap.size A1 (zD y.fields)):=HTL;have HOd:Hid (W.drew.ownsRow (N+1) 39 2 (.slice Av L.length cv) L.length (zD L)):=HO;have HVd:Hid (Go.Boxed W.drew (w.heap.size+1) 23 (.slice Av L.length cv)):=HV;have HKd:Hid (qF (N+1) (w.heap.size+1) W W.drew):=zH ⟨zn _,fun _ _ _=>rfl⟩;have HBd:Hid (Below w.heap.size W W.drew):=zH (zb w.heap.size W).drew;refine q6t hmx (by kernel_rfl) (S:=fun w'=>w'.cell? ⟨w.heap.size,0,none⟩=some (.slice (some ad) m.classes.length h.c0)∧w'.cell? (zc (ad.add (j*3)) 1)=some (.slice A1 y.fields.length k1)) ⟨q0,s1⟩ (fun hHeld=> ?_);refine mT 1 (h:=mT 3 (h:=mT 2 (h:=mT 4 (h:=mT 5 (h:=mT 6 (h:= ?_))))));refine wpAnyH_ready (rs:=[0]) (by kernel_rfl) (by simp) ?_;refine AllReadyH.cons (o:=_) rfl (fun K hK=> ?_) AllReadyH.nil;go_simp;refine hK.out _ _ ⟨q0,s1⟩ (fun hHeld=> ?_);clear hK K;try simp only[sA,sB,sC,Act.put,sD,sE,sF]
  refine wpAnyH_ready (rs:=[7]) (by kernel_rfl) (by simp) ?_;refine AllReadyH.cons (o:=_) rfl (fun K hK=> ?_) AllReadyH.nil
  (refine Qy rfl _ _ 23 rfl (N+1) 39 i0 (.agg #[.int .i64 0,.int .i64 0]) 2 16 Tryz.underlying23 hi hz0 hz1 hz2 rfl (by decide) _ L.length (zD L) rfl HOd.out A1 y.fields.length k1 _ (zD y.fields) (vz _) rfl HTLd.out (jt _) (by unfold maxLen;omega) (by omega) hNW ?_;intro v6 w6 hown hgrow;have hrw:=qr3 HOd.out;have hV6:=HVd.out.kept hgrow (HVd.out.not_row (by decide) HOd.out);have HK6:=zH (HKd.out.grown hgrow hNW (fun r e=> .inl (hrw r e)));have HB6:=zH (HBd.out.grown hgrow (by show w.heap.size≤W.heap.size;omega) (fun r e=>by have:=hrw r e;omega));obtain⟨A6,c6,rfl⟩:=qr2 hown;have HO6:=zH hown;have HV6:=zH hV6;have HN6:=zH (KeepsOthers.of_grownBy hgrow (qlm HOd.out));clear hown hgrow hV6 hrw;have hc6:=HV6.out.cell;have hf6:=HV6.out.frozen;have HK8:=zH (qhx HK6.out (.slice A6 (L.length+y.fields.length) c6));have HB8:=zH (HB6.out.setCell (p:=⟨w.heap.size+1,0,none⟩) (by show w.heap.size≤w.heap.size+1;omega) (.slice A6 (L.length+y.fields.length) c6)))
  refine hK.out _ _ ⟨(HK6.out.cell (p:=⟨w.heap.size,0,none⟩) (by show w.heap.size<N+1;omega) (by show w.heap.size≠w.heap.size+1;omega)).trans q0,HS1.out _ HB6.out⟩ (fun hHeld=> ?_);clear hK K;try simp only[sA,sB,sC,Act.put,sD,sE,sF]
  refine wpAnyH_ready (rs:=[8]) (by kernel_rfl) (by simp) ?_;refine AllReadyH.cons (o:=_) rfl (fun K hK=> ?_) AllReadyH.nil;go_simp;refine hK.out _ _ ⟨(HK8.out.cell (p:=⟨w.heap.size,0,none⟩) (by show w.heap.size<N+1;omega) (by show w.heap.size≠w.heap.size+1;omega)).trans q0,HS1.out _ HB8.out⟩ (fun hHeld=> ?_);clear hK K;try simp only[sA,sB,sC,Act.put,sD,sE,sF]
  refine wpAnyH_done (by kernel_rfl) ?_ _;refine JP.normal ?_
  gi_wp2
  have hrow9:=HO6.out.kept (grownBy_setCell' w6 (w.heap.size+1) (.slice A6 (L.length+y.fields.length) c6)) (.inr (HV6.out.not_row (by decide) HO6.out).symm);refine⟨(((KeepsOthers.drew W).trans HN6.out).trans (KeepsOthers.setCell _ _ _)).from _,HK8.out,⟨_,HV6.out.set _,?_,trivial⟩,HKB.out.trans HK8.out,HB.out.trans HB8.out⟩;rw[HSN.out,HFA.out];unfold zD at hrow9⊢
  rw[List.flatMap_append,List.length_append];exact hrow9
 case done=>
  rintro D ys W hD rfl ⟨⟨v,hv,hrow,-⟩,hkb,hB⟩ hK;have hc:=hv.cell
  gi_wp2
  refine⟨by simp,.inl ⟨_,_,rfl,run_takeDeferred hK,?_⟩⟩;rw[qei,←HFO.out]at hrow;exact⟨_,results_tmp rfl _ _ _,v,rfl,jI (ownsRow_putObj hrow _ hK rfl) (by omega),hB.trans (belowK_b (w:=w) (zn _) W D _ _ (by simp at hD;omega) hK rfl rfl)⟩
 case stop=>
  rintro D c pre W _ _ h _;exact h.elim
theorem qpj{k:Int}{j n cap:Nat}{ad:Addr}{x y:Int}{w:World}(HJ:Hid (k=(j:Int)))(hk:j<n)(hn:n≤9223372036854775807)(hab:ad.block<w.heap.size)
  (r0:w.cell? (ad.add (j*2))=some (.int .i64 x)) (r1:w.cell? (zc (ad.add (j*2)) 1)=some (.int .i64 y)):
  Calls Tryz.prog 151 #[.slice (some ad) n cap,.int .i64 k] w fun e w'=>e= .returned (.tuple #[zO x y,.bool true])∧Below w.heap.size w w':=by
 rw[HJ.out];exact qb4 j n cap ad x y w hk hn hab r0 r1
theorem qjc(x:ze)(j:Nat)(hj:j<x.args.length)(hx:zS)(w:World)(H:qy w w.heap.size hx x):
  Calls Tryz.prog 131 #[kW hx x,.int .i64 j] w fun e w'=>e= .returned (zO (qB x j).1 (qB x j).2)∧Below w.heap.size w w':=by
 have HW:=zH (((zb w.heap.size w).alloc (zn _) (.cells (qe hx x).toArray 42)).alloc (by simp) (.cells #[.int .i64 0,.int .i64 0] 39));have HQ:=zH (show zf ((w.alloc (.cells (qe hx x).toArray 42)).alloc (.cells #[.int .i64 0,.int .i64 0] 39)) (w.heap.size+1) [.int .i64 0,.int .i64 0] 39 from zf.at_ (by simp) _ _);have HC:=zH ((qd w (qe hx x) 42).keep ((zb _ _).alloc (zn _) (.cells #[.int .i64 0,.int .i64 0] 39)) (by simp));have HM:=zH (H.now HW.out);have h1:=H.args.le;have h2:=H.args.cap;have h3:=H.locals.le;have h4:=H.locals.cap;have hn63:x.args.length≤9223372036854775807:=by omega
 have hl63:x.locals.length≤9223372036854775807:=by omega
 clear H h1 h2 h3 h4;obtain⟨ad,e0,hab,r0,r1⟩:=HM.out.args.row.at_ hj;have HE:=zH e0;rw[qfb hj];generalize x.args[j]=t at*
 clear e0;go_enter Tryz.func131,Tryz.ntmps131;go_upto_region 1 with fail
 generalize(w.alloc (.cells (qe hx x).toArray 42)).alloc (.cells #[.int .i64 0,.int .i64 0] 39)=w1 at*
 have q0:=HC.out 0 _ rfl;have q1:=HC.out 1 _ rfl;try rw[HE.out]at q0
 try rw[HE1.out]at q1
 have hlt:=HQ.out.lt;clear HC;go_wp2_with(go_at_call 151;(with_reducible refine(qb4 j x.args.length hx.k0 ad t.1 t.2 w1 hj hn63 hab r0 r1).mono ?_);rintro e w2 ⟨rfl,hb⟩;have HB2:=zH hb;have HQ2:=zH (HQ.out.keep hb hlt);have c0:=HQ2.out.cells 0 _ rfl;have c1:=HQ2.out.cells 1 _ rfl;have f0:=HQ2.out.free 0;have f1:=HQ2.out.free 1;have hlt2:=HQ2.out.lt;clear hb)
 have HQ3a:=(HQ2.out.set 0 (.int .i64 t.1)).set 1 (.int .i64 t.2);have HB3:=zH ((HB2.out.mono HW.out.size).setCell (p:=⟨w.heap.size+1,0,none⟩) (by show w.heap.size≤w.heap.size+1;omega) (.int .i64 t.1)|>.setCell (p:=⟨w.heap.size+1,1,none⟩) (by show w.heap.size≤w.heap.size+1;omega) (.int .i64 t.2));have HQ3:=zH (zf.keep HQ3a ((zb _ _).alloc (zn _) (.cells #[.int .i64 t.1,.int .i64 t.2] 39)) HQ3a.lt);have d0:=HQ3.out.cells 0 _ rfl;have d1:=HQ3.out.cells 1 _ rfl;exact bodyPost_ret (v:=zO t.1 t.2) (by simp[results,Tryz.results131,go_sem,d0,d1]) rfl ⟨rfl,HW.out.trans (HB3.out.alloc (Nat.le_trans HW.out.size HB3.out.size) _)⟩
theorem qjb(x:ze)(n:Int)(hn:n<0)(hx:zS)(w:World)(H:qy w w.heap.size hx x):
  Calls Tryz.prog 131 #[kW hx x,.int .i64 n] w fun e w'=>e= .returned (zO (qB x n).1 (qB x n).2)∧Below w.heap.size w w':=by
 have HW:=zH (((zb w.heap.size w).alloc (zn _) (.cells (qe hx x).toArray 42)).alloc (by simp) (.cells #[.int .i64 0,.int .i64 0] 39));have HQ:=zH (show zf ((w.alloc (.cells (qe hx x).toArray 42)).alloc (.cells #[.int .i64 0,.int .i64 0] 39)) (w.heap.size+1) [.int .i64 0,.int .i64 0] 39 from zf.at_ (by simp) _ _);have HC:=zH ((qd w (qe hx x) 42).keep ((zb _ _).alloc (zn _) (.cells #[.int .i64 0,.int .i64 0] 39)) (by simp));have HM:=zH (H.now HW.out);have h1:=H.args.le;have h2:=H.args.cap;have h3:=H.locals.le;have h4:=H.locals.cap;have hn63:x.args.length≤9223372036854775807:=by omega
 have hl63:x.locals.length≤9223372036854775807:=by omega
 clear H h1 h2 h3 h4;have hno:n<0∨(x.args.length:Int)≤n:= .inl hn;have hlt0:n<(x.args.length:Int):=by omega
 rw[qfa hn];clear hn;go_enter Tryz.func131,Tryz.ntmps131;go_upto_region 1 with fail
 generalize(w.alloc (.cells (qe hx x).toArray 42)).alloc (.cells #[.int .i64 0,.int .i64 0] 39)=w1 at*
 have q0:=HC.out 0 _ rfl;have q1:=HC.out 1 _ rfl;try rw[HE.out]at q0
 try rw[HE1.out]at q1
 have hlt:=HQ.out.lt;clear HC;go_wp2_with(go_at_call 151;(with_reducible refine(qce n x.args.length hx.k0 hx.A0 w1 hn63 hno).mono ?_);rintro e w2 ⟨rfl,hb⟩;have HB2:=zH hb;have HQ2:=zH (HQ.out.keep hb hlt);have c0:=HQ2.out.cells 0 _ rfl;have c1:=HQ2.out.cells 1 _ rfl;have f0:=HQ2.out.free 0;have f1:=HQ2.out.free 1;have hlt2:=HQ2.out.lt;clear hb)
 have HQ3a:=(HQ2.out.set 0 (.int .i64 ((0:Int),(0:Int)).1)).set 1 (.int .i64 ((0:Int),(0:Int)).2);have HB3:=zH ((HB2.out.mono HW.out.size).setCell (p:=⟨w.heap.size+1,0,none⟩) (by show w.heap.size≤w.heap.size+1;omega) (.int .i64 ((0:Int),(0:Int)).1)|>.setCell (p:=⟨w.heap.size+1,1,none⟩) (by show w.heap.size≤w.heap.size+1;omega) (.int .i64 ((0:Int),(0:Int)).2));have HQ3:=zH (zf.keep HQ3a ((zb _ _).alloc (zn _) (.cells #[.int .i64 ((0:Int),(0:Int)).1,.int .i64 ((0:Int),(0:Int)).2] 39)) HQ3a.lt);have d0:=HQ3.out.cells 0 _ rfl;have d1:=HQ3.out.cells 1 _ rfl;exact bodyPost_ret (v:=zO ((0:Int),(0:Int)).1 ((0:Int),(0:Int)).2) (by simp[results,Tryz.results131,go_sem,d0,d1]) rfl ⟨rfl,HW.out.trans (HB3.out.alloc (Nat.le_trans HW.out.size HB3.out.size) _)⟩
theorem qem(x:ze)(n:Int)(hlt0:(x.args.length:Int)≤n)(hn:n<(x.args.length:Int)+x.locals.length)(hs:n≤9223372036854775807)(hx:zS)(w:World)(H:qy w w.heap.size hx x):
  Calls Tryz.prog 131 #[kW hx x,.int .i64 n] w fun e w'=>e= .returned (zO (qB x n).1 (qB x n).2)∧Below w.heap.size w w':=by
 have HW:=zH (((zb w.heap.size w).alloc (zn _) (.cells (qe hx x).toArray 42)).alloc (by simp) (.cells #[.int .i64 0,.int .i64 0] 39));have HQ:=zH (show zf ((w.alloc (.cells (qe hx x).toArray 42)).alloc (.cells #[.int .i64 0,.int .i64 0] 39)) (w.heap.size+1) [.int .i64 0,.int .i64 0] 39 from zf.at_ (by simp) _ _);have HC:=zH ((qd w (qe hx x) 42).keep ((zb _ _).alloc (zn _) (.cells #[.int .i64 0,.int .i64 0] 39)) (by simp));have HM:=zH (H.now HW.out);have h1:=H.args.le;have h2:=H.args.cap;have h3:=H.locals.le;have h4:=H.locals.cap;have hn63:x.args.length≤9223372036854775807:=by omega
 have hl63:x.locals.length≤9223372036854775807:=by omega
 clear H h1 h2 h3 h4;obtain⟨j,hj⟩:=Int.eq_ofNat_of_zero_le (show 0≤n - (x.args.length:Int)by omega);have hjl:j<x.locals.length:=by omega
 have HJ:=zH hj;have e2:n=((x.args.length+j:Nat):Int):=by omega
 obtain⟨ad,e0,hab,r0,r1⟩:=HM.out.locals.row.at_ hjl;have HE1:=zH e0;have e3:qB x n=x.locals[j]:=by rw[e2];exact qdz hjl
 rw[e3];generalize x.locals[j]=t at*
 clear e0 hj e2 e3;go_enter Tryz.func131,Tryz.ntmps131;go_upto_region 1 with fail
 generalize(w.alloc (.cells (qe hx x).toArray 42)).alloc (.cells #[.int .i64 0,.int .i64 0] 39)=w1 at*
 have q0:=HC.out 0 _ rfl;have q1:=HC.out 1 _ rfl;try rw[HE.out]at q0
 try rw[HE1.out]at q1
 have hlt:=HQ.out.lt;clear HC;go_wp2_with(go_at_call 151;(with_reducible refine(qpj HJ hjl hl63 hab r0 r1).mono ?_);rintro e w2 ⟨rfl,hb⟩;have HB2:=zH hb;have HQ2:=zH (HQ.out.keep hb hlt);have c0:=HQ2.out.cells 0 _ rfl;have c1:=HQ2.out.cells 1 _ rfl;have f0:=HQ2.out.free 0;have f1:=HQ2.out.free 1;have hlt2:=HQ2.out.lt;clear hb)
 have HQ3a:=(HQ2.out.set 0 (.int .i64 t.1)).set 1 (.int .i64 t.2);have HB3:=zH ((HB2.out.mono HW.out.size).setCell (p:=⟨w.heap.size+1,0,none⟩) (by show w.heap.size≤w.heap.size+1;omega) (.int .i64 t.1)|>.setCell (p:=⟨w.heap.size+1,1,none⟩) (by show w.heap.size≤w.heap.size+1;omega) (.int .i64 t.2));have HQ3:=zH (zf.keep HQ3a ((zb _ _).alloc (zn _) (.cells #[.int .i64 t.1,.int .i64 t.2] 39)) HQ3a.lt);have d0:=HQ3.out.cells 0 _ rfl;have d1:=HQ3.out.cells 1 _ rfl;exact bodyPost_ret (v:=zO t.1 t.2) (by simp[results,Tryz.results131,go_sem,d0,d1]) rfl ⟨rfl,HW.out.trans (HB3.out.alloc (Nat.le_trans HW.out.size HB3.out.size) _)⟩
theorem qfw(x:ze)(n:Int)(hn:(x.args.length:Int)+x.locals.length≤n)(hs:n≤9223372036854775807)(hx:zS)(w:World)(H:qy w w.heap.size hx x):
  Calls Tryz.prog 131 #[kW hx x,.int .i64 n] w fun e w'=>e= .returned (zO (qB x n).1 (qB x n).2)∧Below w.heap.size w w':=by
 have HW:=zH (((zb w.heap.size w).alloc (zn _) (.cells (qe hx x).toArray 42)).alloc (by simp) (.cells #[.int .i64 0,.int .i64 0] 39));have HQ:=zH (show zf ((w.alloc (.cells (qe hx x).toArray 42)).alloc (.cells #[.int .i64 0,.int .i64 0] 39)) (w.heap.size+1) [.int .i64 0,.int .i64 0] 39 from zf.at_ (by simp) _ _);have HC:=zH ((qd w (qe hx x) 42).keep ((zb _ _).alloc (zn _) (.cells #[.int .i64 0,.int .i64 0] 39)) (by simp));have HM:=zH (H.now HW.out);have h1:=H.args.le;have h2:=H.args.cap;have h3:=H.locals.le;have h4:=H.locals.cap;have hn63:x.args.length≤9223372036854775807:=by omega
 have hl63:x.locals.length≤9223372036854775807:=by omega
 clear H h1 h2 h3 h4;have hno:n - (x.args.length:Int)<0∨(x.locals.length:Int)≤n - (x.args.length:Int):=by omega
 rw[qeg hn];have hlt0:(x.args.length:Int)≤n:=by omega
 go_enter Tryz.func131,Tryz.ntmps131;go_upto_region 1 with fail
 generalize(w.alloc (.cells (qe hx x).toArray 42)).alloc (.cells #[.int .i64 0,.int .i64 0] 39)=w1 at*
 have q0:=HC.out 0 _ rfl;have q1:=HC.out 1 _ rfl;try rw[HE.out]at q0
 try rw[HE1.out]at q1
 have hlt:=HQ.out.lt;clear HC;go_wp2_with(go_at_call 151;(with_reducible refine(qce (n - (x.args.length:Int)) x.locals.length hx.k1 hx.A1 w1 hl63 hno).mono ?_);rintro e w2 ⟨rfl,hb⟩;have HB2:=zH hb;have HQ2:=zH (HQ.out.keep hb hlt);have c0:=HQ2.out.cells 0 _ rfl;have c1:=HQ2.out.cells 1 _ rfl;have f0:=HQ2.out.free 0;have f1:=HQ2.out.free 1;have hlt2:=HQ2.out.lt;clear hb)
 have HQ3a:=(HQ2.out.set 0 (.int .i64 ((0:Int),(0:Int)).1)).set 1 (.int .i64 ((0:Int),(0:Int)).2);have HB3:=zH ((HB2.out.mono HW.out.size).setCell (p:=⟨w.heap.size+1,0,none⟩) (by show w.heap.size≤w.heap.size+1;omega) (.int .i64 ((0:Int),(0:Int)).1)|>.setCell (p:=⟨w.heap.size+1,1,none⟩) (by show w.heap.size≤w.heap.size+1;omega) (.int .i64 ((0:Int),(0:Int)).2));have HQ3:=zH (zf.keep HQ3a ((zb _ _).alloc (zn _) (.cells #[.int .i64 ((0:Int),(0:Int)).1,.int .i64 ((0:Int),(0:Int)).2] 39)) HQ3a.lt);have d0:=HQ3.out.cells 0 _ rfl;have d1:=HQ3.out.cells 1 _ rfl;exact bodyPost_ret (v:=zO ((0:Int),(0:Int)).1 ((0:Int),(0:Int)).2) (by simp[results,Tryz.results131,go_sem,d0,d1]) rfl ⟨rfl,HW.out.trans (HB3.out.alloc (Nat.le_trans HW.out.size HB3.out.size) _)⟩
theorem qjd(x:ze)(n:Int)(hs:n≤9223372036854775807)(hx:zS)(w:World)(H:qy w w.heap.size hx x):
  Calls Tryz.prog 131 #[kW hx x,.int .i64 n] w fun e w'=>e= .returned (zO (qB x n).1 (qB x n).2)∧Below w.heap.size w w':=by
 by_cases h0:n<0
 ·exact qjb x n h0 hx w H
 ·by_cases h1:n<x.args.length
  ·obtain⟨j,rfl⟩:=Int.eq_ofNat_of_zero_le (show 0≤n by omega);exact qjc x j (by omega) hx w H
  ·by_cases h2:n<(x.args.length:Int)+x.locals.length
   ·exact qem x n (by omega) h2 hs hx w H
   ·exact qfw x n (by omega) hs hx w H
section
variable{m:za}{h:zl}{w0 w:World}{c:Int}
theorem qfq{L:List (Int×Int)}(HI:Hid (zp w0 w0.heap.size h m))(HX:Hid (Below w0.heap.size w0 w))(HL:Hid (qS m.classes c=L))(hn:m.classes.length≤1000)(HF:Hid (∀x ∈m.classes,x.fields.length≤1000)):
  Calls Tryz.prog 51 #[zr h m,.int .i64 c] w (QB L w):=by
 have H:=q8g m c h w (HI.out.now HX.out) hn HF.out;rw[HL.out]at H;exact H
end
theorem qn3(m:za)(c:Int)(h:zl)(w:World)(H:zp w w.heap.size h m)(hn:m.classes.length≤1000)(hf:∀x ∈m.classes,x.fields.length≤1000):
  Calls Tryz.prog 26 #[zr h m,.int .i64 c] w fun e w'=>e= .returned (.int .i64 (1+((qS m.classes c).length:Int)))∧Below w.heap.size w w':=by
 have HW:=zH ((zb w.heap.size w).alloc (zn _) (zq h m));have HIM:=zH (H.now HW.out);have HBX:=zH (qf w h m);have HF:=zH hf;have hL:=VI hf hn c;obtain⟨L,e⟩:∃L,qS m.classes c=L:=⟨_,rfl⟩
 rw[e]at hL⊢
 have HL:=zH e;clear e hf H;go_enter Tryz.func26,Tryz.ntmps26;go_upto_region 1 with fail
 generalize w.alloc (zq h m)=w1 at*
 obtain⟨q0,q1,q2,q3,q4,q5,q6⟩:=HBX.out;go_wp2_with(go_at_call 51;(with_reducible refine(qfq HIM (zH (zb _ _)) HL hn HF).mono ?_);rintro e w2 ⟨v2,rfl,ho,hb⟩;have HB2:=zH hb;obtain⟨A2,c2,rfl,hl2,_⟩:=vy ho;clear hb ho hl2)
 go_ret;exact⟨by first|rfl|simp,HW.out.trans (HB2.out.mono HW.out.size)⟩
attribute [local go_sem] Oper.semAt_some
def kQ(U:List (Int×Int×Int)):List (Fin U.length):=(List.finRange U.length).reverse
theorem q4a(U:List (Int×Int×Int)):(kQ U).length=U.length:=by simp[kQ]
theorem qfp(U:List (Int×Int×Int))(k:Nat)(h:k<U.length):(kQ U).take (k+1)=(kQ U).take k++[⟨U.length - 1 - k,by omega⟩]:=by
 have hk:k<(kQ U).length:=by rw[q4a];exact h
 rw[List.take_add_one,List.getElem?_eq_getElem hk];simp[kQ,List.getElem_reverse]
theorem qiw(U:List (Int×Int×Int)):(kQ U).take U.length=kQ U:=List.take_of_length_le (by rw[q4a];omega)
theorem qiv(U:List (Int×Int×Int)):(kQ U).map (fun x=>U[x])=U.reverse:=by
 unfold kQ;rw[List.map_reverse];congr 1;apply List.ext_getElem
 ·simp
 ·intro i h1 h2;simp
abbrev wayV(t:Int×Int×Int):Value:= .agg #[.int .i64 t.1,.int .i64 t.2.1,.int .i64 t.2.2]
def encW(U:List (Int×Int×Int))(x:Fin U.length):Array Value:= #[.int .i64 (x.1:Int),wayV U[x]]
def Yx(w:World)(N g:Nat)(A:Option Addr)(U:List (Int×Int×Int)):Prop:=∀(j:Nat) t,U[j]? =some t→∃ad,A=some ad∧ad.block<N∧ad.block≠g∧qw w N (ad.add (j*3)) t
theorem Yx.keep{w w':World}{N g:Nat}{A:Option Addr}{U:List (Int×Int×Int)}(h:Yx w N g A U)(hk:qF N g w w'):Yx w' N g A U:=fun j t hj=>by
 obtain⟨ad,e,h0,h1,c0,c1,c2⟩:=h j t hj;have hb:∀i,(zc (ad.add (j*3)) i).block=ad.block:=fun i=>zt _ _;exact⟨ad,e,h0,h1,(hk.cell (by rw[zt];exact h0) (by rw[zt];exact h1)).trans c0,(hk.cell (by rw[hb];exact h0) (by rw[hb];exact h1)).trans c1,(hk.cell (by rw[hb];exact h0) (by rw[hb];exact h1)).trans c2⟩
set_option maxHeartbeats 2000000 in
theorem qjt(F:Fence)(n:Nat)(hF:F.fn 123)(hro:F.round=none)(hn:1≤n)(l Bs N g:Nat)(A:Option Addr)(cap:Nat)(U:List (Int×Int×Int))(hU:U.length≤1048576)(J Jx:List (Fin U.length)→World→Prop)
  (hY:∀pre x W,J pre W→pre.length<U.length→YieldAt F (n - 1) Tryz.prog l (encW U x) W fun e W'=>
   (e= .returned (.bool true)∧J (pre++[x]) W'∧qF N g W W')∨(e= .returned (.bool false)∧Jx (pre++[x]) W'))
  (W:World) (hBs:W.cell? ⟨Bs,0,none⟩=some (.slice A U.length cap)) (hBl:g≠Bs) (hBn:Bs<N) (hc:Yx W N g A U) (h0:J [] W):
  CallsIn F n Tryz.prog 123 #[.func (.yield l) #[] #[],.pointer (some ⟨Bs,0,none⟩)] W fun e W'=>(∃v,e= .returned v)∧
   ((∃ys,ys=kQ U∧J ys W')∨(∃pre,(∃k,k≤U.length∧pre=(kQ U).take k)∧Jx pre W')):=by
 have HC:=zH hc;have HQ:Hid (∀wr,qF N g W wr→wr.cell? ⟨Bs,0,none⟩=some (.slice A U.length cap)):=zH (fun wr hw=>(hw.cell (p:=⟨Bs,0,none⟩) hBn (Ne.symm hBl)).trans hBs);clear hc;refine callsIn_of_wp Tryz.func123 rfl hF ?_ hro;simp only[Tryz.ntmps123,List.size_toArray,List.length_cons,List.length_nil,Nat.reduceAdd,Nat.reduceSub,Array.replicate_succ,Array.replicate_zero,List.push_toArray,List.append_toArray,List.nil_append,List.cons_append]
 gi_wp2
 clear hBs
 gi_loopw [3] (fun i wr=>∃(k:Nat) (z:Int),k≤U.length∧i= .int .i64 z∧z=(U.length:Int) - k - 1∧J ((kQ U).take k) wr∧Hid (qF N g W wr))
  (fun i _=>(intOf i+1).toNat)
 case atStart=>exact⟨0,_,Nat.zero_le _,rfl,by omega,h0,zH (qF.refl _ _ _)⟩
 case round=>
  obtain⟨k,z,hk,rfl,hz,hJs,hnx⟩:=hrel;by_cases hlt:k<U.length
  ·have hBs:=HQ.out wr hnx.out;have hjl:U.length - 1 - k<U.length:=by omega
   obtain⟨ad,rfl,hab0,hab,c0,c1,c2⟩:=(HC.out.keep hnx.out) (U.length - 1 - k) _ (List.getElem?_eq_getElem hjl);obtain⟨fn,tmps,assign,body,hy,hR⟩:=hY _ ⟨U.length - 1 - k,hjl⟩ wr hJs (by rw[List.length_take,q4a];omega);have HS:=zH (qfp U k hlt);unfold encW at hy;dsimp only[Fin.getElem_fin]at hy;generalize U[U.length - 1 - k]=u at c0 c1 c2 hy;obtain⟨a,b,c⟩:=u;dsimp only at c0 c1 c2 hy;obtain⟨j,hj⟩:∃j,U.length - 1 - k=j:=⟨_,rfl⟩
   simp only[hj]at c0 c1 c2 hy hR HS;have hjl:j<U.length:=by omega
   obtain rfl:z=(j:Int):=by omega
   clear hz
   gi_wp2
   refine hR.mono ?_;rintro e W3 (⟨rfl,hJ3,hk3⟩|⟨rfl,hJx3⟩)
   ·gi_wp2
    go_roundw;case rel=>exact⟨k+1,(j:Int) - 1,by omega,by go_num,by omega,by rw[HS.out];exact hJ3,zH (hnx.out.trans hk3)⟩
    case measure=>simp[intOf]
   ·gi_wp2
    refine bodyPost_ret (results_none rfl _ _ _) rfl ?_;exact⟨⟨_,rfl⟩,.inr ⟨_,⟨k+1,by omega,HS.out.symm⟩,hJx3⟩⟩
  ·obtain rfl:k=U.length:=by omega
   obtain rfl:z= -1:=by omega
   clear hz
   gi_wp2
   go_end0
   exact⟨⟨_,rfl⟩,.inl ⟨_,qiw U,hJs⟩⟩
theorem qng(F:Fence)(n:Nat)(hF:F.fn 100)(hro:F.round=none)(A:Option Addr)(len cap:Nat)(w:World):
  CallsIn F n Tryz.prog 100 #[.slice A len cap] w fun e w'=>e= .returned (.func (.func 123) #[] #[.pointer (some ⟨w.heap.size,0,none⟩)])∧w'=w.alloc (.cells #[.slice A len cap] 75):=by
 refine callsIn_of_wp Tryz.func100 rfl hF ?_ hro;simp only[Tryz.ntmps100,List.size_toArray,List.length_cons,List.length_nil,Nat.reduceAdd,Nat.reduceSub,Array.replicate_succ,Array.replicate_zero,List.push_toArray,List.append_toArray,List.nil_append,List.cons_append]
 gi_wp2
 go_ret;exact⟨rfl,rfl⟩
theorem qep(F:Fence)(n:Nat)(hF:F.fn 123)(hro:F.round=none)(hn:1≤n)(Bs N g:Nat)(A:Option Addr)(cap:Nat)(U:List (Int×Int×Int))(hU:U.length≤1048576)(w:World)(hBl:g≠Bs)(hBs:Bs<N)(hn₀:N≤w.heap.size)
  (hc:w.cell? ⟨Bs,0,none⟩=some (.slice A U.length cap)) (hI:Yx w N g A U):
  SeqStopsK F n Tryz.prog 123 #[.pointer (some ⟨Bs,0,none⟩)] (encW U) (qF N g) (fun ys=>ys=kQ U)
   (fun pre=>∃k,k≤U.length∧pre=(kQ U).take k) U.length w:=fun l J Jx W hW _ _ hY h0=>
 qjt F n hF hro hn l Bs N g A cap U hU J Jx hY W ((hW.cell (p:=⟨Bs,0,none⟩) (Nat.lt_of_lt_of_le hBs hn₀)).trans hc) hBl hBs (hI.keep ⟨hW.size,fun b h1 h2=>hW.block b (Nat.lt_of_lt_of_le h1 hn₀)⟩) h0
theorem q7o(m:List Int):∀l:List Int,l.Pairwise (· > ·)→(jJ l m=(0,0)∧∀x ∈l,x ∉m)∨∃x,jJ l m=(3,x)∧x ∈l∧x ∈m∧∀y ∈l,y ∈m→y≤x
 | [],_=> .inl ⟨rfl,by simp⟩
 |x::r,h=>by
  obtain⟨h1,h2⟩:=List.pairwise_cons.mp h;by_cases hx:x ∈m
  ·refine .inr ⟨x,by simp only[jJ];rw[if_pos (QE.mpr hx)],List.mem_cons_self,hx,fun y hy _=> ?_⟩;rcases List.mem_cons.mp hy with rfl|hy
   ·omega
   ·have:=h1 y hy;omega
  ·have e:jJ (x::r) m=jJ r m:=by simp only[jJ];rw[if_neg (fun g=>hx (QE.mp g))]
   rw[e];rcases q7o m r h2 with⟨h3,h4⟩|⟨z,h3,h4,h5,h6⟩
   ·refine .inl ⟨h3,fun y hy=> ?_⟩;rcases List.mem_cons.mp hy with rfl|hy
    ·exact hx
    ·exact h4 y hy
   ·refine .inr ⟨z,h3,List.mem_cons_of_mem _ h4,h5,fun y hy hm=> ?_⟩;rcases List.mem_cons.mp hy with rfl|hy
    ·exact absurd hm hx
    ·exact h6 y hy hm
theorem q2v{sup:List Int}{n n':Int}(h1:n' ∉zA sup n)(h2:n ∉zA sup n'):
  (jJ ((zA sup n).drop 1) (zA sup n')=(0,0)∧∀x ∈zA sup n,x ∉zA sup n')∨
  ∃x,jJ ((zA sup n).drop 1) (zA sup n')=(3,x)∧x ∈zA sup n∧x ∈zA sup n'∧∀y ∈zA sup n,y ∈zA sup n'→y≤x:=by
 by_cases hv:0≤n∧n<sup.length
 ·obtain⟨s,hs⟩:=q27 hv.1 hv.2;have hd:=qjo sup n;have e:=VU hv.1 hs;generalize zA sup n=L at*
  subst e;simp only[List.drop_succ_cons,List.drop_zero];obtain⟨g1,g2⟩:=List.pairwise_cons.mp hd;rcases q7o (zA sup n') _ g2 with⟨h3,h4⟩|⟨z,h3,h4,h5,h6⟩
  ·refine .inl ⟨h3,fun y hy=> ?_⟩;rcases List.mem_cons.mp hy with rfl|hy
   ·exact h2
   ·exact h4 y hy
  ·refine .inr ⟨z,h3,List.mem_cons_of_mem _ h4,h5,fun y hy hm=> ?_⟩;rcases List.mem_cons.mp hy with rfl|hy
   ·exact absurd hm h2
   ·exact h6 y hy hm
 ·rw[Ju (show n<0∨(sup.length:Int)≤n by omega)];exact .inl ⟨rfl,by simp⟩
theorem qrt{sup:List Int}{k n k' n':Int}(hno:¬(k=4∧k'=4)):qX sup k n k' n'=qX sup k' n' k n:=by
 by_cases h1:zG sup k n k' n'=true
 ·by_cases h2:zG sup k' n' k n=true
  ·have e:(k,n)=(k',n'):=by
    rw[vM]at h1 h2;rcases h1 with⟨rfl,h⟩|⟨rfl,rfl,h⟩|⟨h0,rfl,rfl⟩
    ·rcases h2 with⟨h4,_⟩|⟨_,h4,_⟩|⟨_,h4,_⟩<;>omega
    ·rcases h2 with⟨h4,_⟩|⟨_,_,g⟩|⟨h4,_,_⟩
     ·omega
     ·rw[q9s g h]
     ·omega
    ·rfl
   simp only[qX];rw[if_pos h1,if_pos h2];exact e.symm
  ·simp only[qX];rw[if_pos h1,if_neg h2,if_pos h1]
 ·by_cases h2:zG sup k' n' k n=true
  ·simp only[qX];rw[if_neg h1,if_pos h2,if_pos h2]
  ·simp only[qX];rw[if_neg h1,if_neg h2,if_neg h2,if_neg h1];by_cases h3:k=3∧k'=3
   ·obtain⟨rfl,rfl⟩:=h3;rw[if_pos ⟨rfl,rfl⟩,if_pos ⟨rfl,rfl⟩];have a1:n' ∉zA sup n:=fun h=>h1 ((vM ..).mpr (.inr (.inl ⟨rfl,rfl,h⟩)));have a2:n ∉zA sup n':=fun h=>h2 ((vM ..).mpr (.inr (.inl ⟨rfl,rfl,h⟩)));rcases q2v a1 a2 with⟨e1,g1⟩|⟨x,e1,g1,g2,g3⟩
    ·rcases q2v a2 a1 with⟨e2,f1⟩|⟨y,e2,f1,f2,f3⟩
     ·rw[e1,e2]
     ·exact absurd f1 (g1 y f2)
    ·rcases q2v a2 a1 with⟨e2,f1⟩|⟨y,e2,f1,f2,f3⟩
     ·exact absurd g1 (f1 x g2)
     ·have:=g3 y f2 f1;have:=f3 x g2 g1;rw[e1,e2,show x=y by omega]
   ·rw[if_neg h3,if_neg (fun h=>h3 ⟨h.2,h.1⟩)]
theorem q7n{sup:List Int}{k n k' n':Int}(ha:q0i sup k n)(hb:q0i sup k' n'):
  ((qX sup k n k' n').1=0∧∀j m,zG sup k n j m=true→zG sup k' n' j m=true→False)∨
  (¬(qX sup k n k' n').1=0∧zG sup k n (qX sup k n k' n').1 (qX sup k n k' n').2=true∧zG sup k' n' (qX sup k n k' n').1 (qX sup k n k' n').2=true∧
   ∀j m,zG sup k n j m=true→zG sup k' n' j m=true→zG sup (qX sup k n k' n').1 (qX sup k n k' n').2 j m=true):=by
 by_cases h1:zG sup k n k' n'=true
 ·have e:qX sup k n k' n'=(k',n'):=by simp only[qX];rw[if_pos h1]
  rw[e];have hk:=(q9x h1).2;exact .inr ⟨by show ¬k'=0;omega,h1,Yh hk hb,fun j m _ g=>g⟩
 ·by_cases h2:zG sup k' n' k n=true
  ·have e:qX sup k n k' n'=(k,n):=by simp only[qX];rw[if_neg h1,if_pos h2]
   rw[e];have hk:=(q9x h2).2;exact .inr ⟨by show ¬k=0;omega,Yh hk ha,h2,fun j m g _=>g⟩
  ·by_cases h3:k=3∧k'=3
   ·have e:qX sup k n k' n'=jJ ((zA sup n).drop 1) (zA sup n'):=by simp only[qX];rw[if_neg h1,if_neg h2,if_pos h3]
    obtain⟨rfl,rfl⟩:=h3;have a1:n' ∉zA sup n:=fun h=>h1 ((vM ..).mpr (.inr (.inl ⟨rfl,rfl,h⟩)));have a2:n ∉zA sup n':=fun h=>h2 ((vM ..).mpr (.inr (.inl ⟨rfl,rfl,h⟩)));rw[e];rcases q2v a1 a2 with⟨e1,g1⟩|⟨x,e1,g1,g2,g3⟩
    ·rw[e1];refine .inl ⟨rfl,fun j m f g=> ?_⟩;rw[vM]at f g;rcases f with⟨f,_⟩|⟨_,rfl,f⟩|⟨f,_,_⟩
     ·omega
     ·rcases g with⟨g,_⟩|⟨_,_,g⟩|⟨g,_,_⟩
      ·omega
      ·exact g1 m f g
      ·omega
     ·omega
    ·rw[e1];refine .inr ⟨by show ¬(3:Int)=0;decide,(vM ..).mpr (.inr (.inl ⟨rfl,rfl,g1⟩)),(vM ..).mpr (.inr (.inl ⟨rfl,rfl,g2⟩)),fun j m f g=> ?_⟩;rw[vM]at f g;rcases f with⟨f,_⟩|⟨_,rfl,f⟩|⟨f,_,_⟩
     ·omega
     ·rcases g with⟨g,_⟩|⟨_,_,g⟩|⟨g,_,_⟩
      ·omega
      ·exact(vM ..).mpr (.inr (.inl ⟨rfl,rfl,qjn g1 f (g3 m f g)⟩))
      ·omega
     ·omega
   ·have e:qX sup k n k' n'=(0,0):=by simp only[qX];rw[if_neg h1,if_neg h2,if_neg h3]
    rw[e];refine .inl ⟨rfl,fun j m f g=> ?_⟩;rw[vM]at f g h1 h2;rcases f with⟨rfl,f⟩|⟨rfl,rfl,f⟩|⟨f,rfl,rfl⟩
    ·rcases g with⟨rfl,g⟩|⟨rfl,rfl,g⟩|⟨g,rfl,rfl⟩
     ·exact h1 (.inl ⟨rfl,by omega⟩)
     ·exact h1 (.inl ⟨rfl,by omega⟩)
     ·exact h1 (.inl ⟨rfl,f⟩)
    ·rcases g with⟨rfl,g⟩|⟨rfl,_,g⟩|⟨g,rfl,rfl⟩
     ·exact h2 (.inl ⟨rfl,by omega⟩)
     ·exact h3 ⟨rfl,rfl⟩
     ·omega
    ·exact h2 (g)
end Go.Proofs.YtdbfllajopcccaaGreat
