import Derived.Test.YtcmiljnbmgkdnaaGreatFA03
import Derived.OneCell
namespace Go.Proofs.YtcmiljnbmgkdnaaGreat
set_option maxRecDepth 100000
set_option linter.unusedVariables false
set_option linter.unusedSimpArgs false
open Go.ChangeShapes Go.WideShapes Go.ChangeAt Go.RowKit
theorem q3o{P:Prop}(h:P:=by
 go_enter Tryz.func97,Tryz.ntmps97;go_wp2
 go_ret;refine⟨?_,?_⟩
 ·rw[E.out];first|rfl|simp[h1]
 ·exact(zb _ _).alloc (zn _) _):P:=h
theorem q4n(k n c:Int)(w:World):Calls Tryz.prog 97 #[zA k n,.int .i64 c] w fun e w'=>e= .returned (.bool (qA k n c))∧Below w.heap.size w w':=by
 by_cases h:(k=1∨k=2)∧n=0∨k=3∧0≤n∧n<c
 ·have E:=zH (show qA k n c=true from Xh h);rcases h with⟨rfl|rfl,rfl⟩|⟨rfl,h0,h1⟩
  all_goals
   go_enter Tryz.func97,Tryz.ntmps97;go_wp2
   go_ret;refine⟨?_,?_⟩
   ·rw[E.out];rfl
   ·exact(zb _ _).alloc (zn _) _
 ·have E:=zH (show qA k n c=false from Xf h);have h':(¬k=1∧¬k=2∧¬k=3)∨(k=1∧¬n=0)∨(k=2∧¬n=0)∨(k=3∧n<0)∨(k=3∧0≤n∧c≤n):=by omega
  clear h;rcases h' with⟨h1,h2,h3⟩|⟨rfl,h1⟩|⟨rfl,h1⟩|⟨rfl,h1⟩|⟨rfl,h1,h2⟩
  ·have e1:decide (k=1)=false:=Xf h1;have e2:decide (k=2)=false:=Xf h2;have e3:decide (k=3)=false:=Xf h3;go_enter Tryz.func97,Tryz.ntmps97;go_wp2
   go_ret;refine⟨?_,?_⟩
   ·rw[E.out];first|rfl|simp[h1,h2,h3]
   ·exact(zb _ _).alloc (zn _) _
  ·have e1:decide (n=0)=false:=Xf h1;exact q3o
  ·have e1:decide (n=0)=false:=Xf h1;exact q3o
  ·have e1:decide (0≤n)=false:=Xf (by omega);exact q3o
  ·have e1:decide (n<c)=false:=Xf (by omega);go_enter Tryz.func97,Tryz.ntmps97;go_wp2
   go_ret;refine⟨?_,?_⟩
   ·rw[E.out];first|rfl|simp[h1,h2]
   ·exact(zb _ _).alloc (zn _) _
set_option maxHeartbeats 1600000 in
theorem qi8(m:za)(l:List (Int×Int))(h:zg)(A:Option Addr)(cap:Nat)(w:World)(H:zi w w.heap.size h m)(hl:zd zh 2 w w.heap.size A cap l):
  Calls Tryz.prog 53 #[zk h m,.slice A l.length cap] w fun e w'=>e= .returned (.bool (js l m.classes.length))∧Below w.heap.size w w':=by
 have HW:=zH ((zb w.heap.size w).alloc (zn _) (zo h m));have HBX:=zH (zX w h m);have HZ:Hid (w.heap.size<(w.alloc (zo h m)).heap.size):=zH (by simp);have HL:=zH ((hl.below_to zh.keeps HW.out (zn _)).keep' zh.keeps HW.out.size (fun _ _=>rfl));have l1:=hl.le;have l2:=hl.cap;obtain⟨b,hb⟩:∃b,js l m.classes.length=b:=⟨_,rfl⟩
 rw[hb];have E:=zH hb.symm;have c1:=H.classes.le;have c2:=H.classes.cap;clear hb hl H;go_enter Tryz.func53,Tryz.ntmps53;go_upto_region 1 with fail
 generalize w.alloc (zo h m)=w1 at*
 go_wp2
 go_loopw [5] (fun i wr=>∃k:Nat,k≤l.length∧i= .int .i64 k∧Hid (∀t ∈l.take k,qA t.1 t.2 m.classes.length=true)∧Hid (Below w1.heap.size w1 wr)) (fun i _=>l.length - (intOf i).toNat)
 case atStart=>exact⟨0,by omega,rfl,zH (by simp),zH (zb _ _)⟩
 case round=>
  obtain⟨k,hk,rfl,HN,HX⟩:=hrel;obtain⟨q0,q1,q2,q3,q4,q5,q6⟩:=HBX.out.keep HX.out HZ.out;by_cases hlt:k<l.length
  ·obtain⟨ad,rfl,hab,r0,r1⟩:=HL.out.row.at_ hlt;have HNO:=zH (fun g:(fun t:Int×Int=>qA t.1 t.2 m.classes.length) l[k]=false=>(vb hlt g:js l m.classes.length=false));have HYE:=zH (fun g:(fun t:Int×Int=>qA t.1 t.2 m.classes.length) l[k]=true=>jT hlt HN.out g);generalize l[k]=t at*
   obtain⟨x,y⟩:=t;dsimp only at r0 r1;obtain⟨g,hg⟩:∃g,qA x y m.classes.length=g:=⟨_,rfl⟩
   have G:=zH hg;clear hg;have HXd:=zH HX.out.drew;have HR:Hid (∀W,Below w1.heap.size w1 W→W.cell? (ad.add (k*2))=some (.int .i64 x)∧W.cell? (zc (ad.add (k*2)) 1)=some (.int .i64 y)):=zH (fun W hW=>zh.keeps (x:=(x,y)) ⟨r0,r1⟩ (by rw[zp];exact hab) (zn _) (fun _ hq=>hW.cell hq));obtain⟨r0,r1⟩:=HR.out _ HX.out;cases g
   ·have E2:=zH (show b=false from E.out.trans (HNO.out G.out));go_wp2_with fail
    go_region_held3 (fun w'=>w'.cell? (ad.add (k*2))=some (.int .i64 x)∧w'.cell? (zc (ad.add (k*2)) 1)=some (.int .i64 y)∧w'.cell? ⟨w.heap.size,0,none⟩=some (.slice h.A0 m.classes.length h.c0)) (first|exact⟨r0,r1,q0⟩)
     (first|(go_at_call 97;(with_reducible refine(q4n x y m.classes.length _).mono ?_);rintro e w3 ⟨he,hb⟩;rw[G.out]at he;subst he;have HX3:=zl HXd hb;obtain⟨q0,q1,q2,q3,q4,q5,q6⟩:=HBX.out.keep HX3.out HZ.out;obtain⟨r0,r1⟩:=HR.out _ HX3.out;clear hb))
    go_wp2_with fail
    go_ret;exact⟨by rw[E2.out];rfl,HW.out.trans (HX3.out.mono (Xk HZ.out))⟩
   ·have E2:=zH (HYE.out G.out);go_wp2_with fail
    go_region_held3 (fun w'=>w'.cell? (ad.add (k*2))=some (.int .i64 x)∧w'.cell? (zc (ad.add (k*2)) 1)=some (.int .i64 y)∧w'.cell? ⟨w.heap.size,0,none⟩=some (.slice h.A0 m.classes.length h.c0)) (first|exact⟨r0,r1,q0⟩)
     (first|(go_at_call 97;(with_reducible refine(q4n x y m.classes.length _).mono ?_);rintro e w3 ⟨he,hb⟩;rw[G.out]at he;subst he;have HX3:=zl HXd hb;obtain⟨q0,q1,q2,q3,q4,q5,q6⟩:=HBX.out.keep HX3.out HZ.out;obtain⟨r0,r1⟩:=HR.out _ HX3.out;clear hb))
    go_wp2_with fail
    go_roundw;case rel=>exact⟨k+1,by omega,by go_num,E2,HX3⟩
    case measure=>simp[intOf];omega
  ·have E2:=zH (show b=true from E.out.trans (vc HN.out (by omega)));go_wp2_with fail
   go_ret;exact⟨by rw[E2.out];rfl,HW.out.trans (HX.out.mono (Xk HZ.out))⟩
def JL:List Int:=[1,3,4,18,19,22,23,29,30,31,34]
def qJ(op:Int):Int:=if op<1∨34<op then -1 else if op ∈JL then 1 else if op=27∨op=28∨op=32 then 2 else 0
theorem qcq(w:World)(T:TypeId):zx (w.alloc (.cells (JL.map (Value.int .i64)).toArray T)) (w.heap.size+1) (some ⟨w.heap.size,0,none⟩) (JL.map (Value.int .i64)):=by
 intro j u hj;refine⟨_,rfl,by simp,?_⟩;have e:(Addr.add ⟨w.heap.size,0,none⟩ j)=⟨w.heap.size,j,none⟩:=by
  unfold Addr.add;split
  ·rename_i h0;subst h0;rfl
  ·simp
 rw[e,World.cell?_alloc_at _ _ _ _ rfl];rw[List.getElem?_toArray];exact hj
theorem q80{P:Prop}(h:P:=by
 go_enter Tryz.func42,Tryz.ntmps42;go_wp2_with(go_at_call 66;refine(Ju JL op _ 11 _ _ (by decide) (qcq w 3)).mono ?_;rintro e w' ⟨he,rfl⟩;rw[HI.out]at he;subst he)
 go_ret;exact⟨by rw[E.out];rfl,(zb _ _).alloc (zn _) _⟩):P:=h
set_option maxHeartbeats 1600000 in
theorem qn6(op:Int)(w:World):Calls Tryz.prog 42 #[.int .i64 op] w fun e w'=>e= .returned (.int .i64 (qJ op))∧Below w.heap.size w w':=by
 by_cases h:op<1∨34<op
 ·have E:=zH (show qJ op= -1 by unfold qJ;rw[Xb h]);rcases h with h|h
  ·go_enter Tryz.func42,Tryz.ntmps42;go_wp2
   go_ret;exact⟨by rw[E.out];rfl,(zb _ _).alloc (zn _) _⟩
  ·have h':¬op<1:=by omega
   go_enter Tryz.func42,Tryz.ntmps42;go_wp2
   go_ret;exact⟨by rw[E.out];rfl,(zb _ _).alloc (zn _) _⟩
 ·have h0:¬op<1:=by omega
  have h1:¬34<op:=by omega
  by_cases h2:op ∈JL
  ·have E:=zH (show qJ op=1 by unfold qJ;rw[Xa h,Xb h2]);have HI:=zH (show zR JL op=true from Xh h2);clear h h2;exact q80
  ·have HI:=zH (show zR JL op=false from Xf h2);by_cases h3:op=27∨op=28∨op=32
   ·have E:=zH (show qJ op=2 by unfold qJ;rw[Xa h,Xa h2,Xb h3]);clear h h2;rcases h3 with rfl|rfl|rfl;all_goals
     go_enter Tryz.func42,Tryz.ntmps42;go_wp2_with(go_at_call 66;refine(Ju JL _ _ 11 _ _ (by decide) (qcq w 3)).mono ?_;rintro e w' ⟨he,rfl⟩;rw[HI.out]at he;subst he)
     go_ret;exact⟨by rw[E.out];rfl,(zb _ _).alloc (zn _) _⟩
   ·have E:=zH (show qJ op=0 by unfold qJ;rw[Xa h,Xa h2,Xa h3]);have d1:(op==27)=false:=XK.mpr (fun g=>h3 (.inl g));have d2:(op==28)=false:=XK.mpr (fun g=>h3 (.inr (.inl g)));have d3:(op==32)=false:=XK.mpr (fun g=>h3 (.inr (.inr g)));clear h h2;exact q80
theorem qob{w w1:World}{x y z:Value}{T:TypeId}(hb:Below (w.alloc (.cells #[x,y,z] T)).heap.size (w.alloc (.cells #[x,y,z] T)) w1):
  w1.cell? ⟨w.heap.size,0,none⟩=some x∧w1.cell? ⟨w.heap.size,1,none⟩=some y∧w1.cell? ⟨w.heap.size,2,none⟩=some z:=by
 have hs:w.heap.size<(w.alloc (.cells #[x,y,z] T)).heap.size:=by simp
 refine⟨(hb.cell hs).trans ?_,(hb.cell hs).trans ?_,(hb.cell hs).trans ?_⟩<;>(rw[World.cell?_alloc_at _ _ _ _ rfl];rfl)
abbrev zz(op a b:Int):Value:= .agg #[.int .i64 op,.int .i64 a,.int .i64 b]
def qp(op a b:Int):Bool:=decide (0≤qJ op∧(1≤qJ op∨a=0)∧(2≤qJ op∨b=0)∧0≤a∧a≤255∧0≤b∧b≤255)
theorem q4d(op:Int): -1≤qJ op∧qJ op≤2:=by
 unfold qJ;split
 ·omega
 ·split
  ·omega
  ·split<;>omega
theorem qv3(op:Int):0≤qJ op↔1≤op∧op≤34:=by
 unfold qJ;split
 ·omega
 ·split
  ·omega
  ·split<;>omega
theorem qoa{op a b:Int}:qp op a b=true↔0≤qJ op∧(1≤qJ op∨a=0)∧(2≤qJ op∨b=0)∧0≤a∧a≤255∧0≤b∧b≤255:=by unfold qp;simp
theorem Qn{op a b:Int}(h:qp op a b=true):1≤op∧op≤34∧0≤a∧a≤255∧0≤b∧b≤255:=by
 have h:=qoa.mp h;have:=(qv3 op).mp h.1;omega
set_option maxHeartbeats 1600000 in
theorem qif(m:za)(c:Int)(h:zg)(w:World)(H:zi w w.heap.size h m)(hn:m.classes.length≤1000):
  Calls Tryz.prog 72 #[zk h m,.int .i64 c] w (vJ (Zp m.classes c) w):=by
 obtain⟨i0,hi,hz0,hz1,hz2⟩:=info_parts vD;have HW:=zH ((zb w.heap.size w).alloc (zn _) (zo h m));have HIM:=zH (H.now HW.out);have HBX:=zH (zX w h m);have HZ:Hid (w.heap.size<(w.alloc (zo h m)).heap.size):=zH (by simp);have HS:=zH (Qp HIM.out.classes.row);have hsl:(zt m.classes).length=m.classes.length:=jS _;have hle:=H.classes.le;have hcap:=H.classes.cap;have HE:=zH (show Zp m.classes c=qS (zt m.classes) c m.classes.length from rfl);obtain⟨sup,hsup⟩:∃sup,zt m.classes=sup:=⟨_,rfl⟩
 rw[hsup]at hsl HS HE;have HSl:=zH hsl;clear hsl hsup H;go_enter Tryz.func72,Tryz.ntmps72;go_upto_region 1 with fail
 generalize w.alloc (zo h m)=w1 at*
 go_wp2
 go_loopw [5,6] (fun v i wr=>∃k:Nat,k≤m.classes.length∧i= .int .i64 k∧Hid (wr.ownsRow w1.heap.size 3 1 v (qS sup c k).length ((qS sup c k).map (Value.int .i64)))∧Hid (Below w1.heap.size w1 wr)) (fun _ i _=>m.classes.length - (intOf i).toNat)
 case atStart=>exact⟨0,Xl _,rfl,zH (Jn w1 _),zH ((zb _ _).alloc (zn _) _)⟩
 case round=>
  obtain⟨k,hk,rfl,HO,HX⟩:=hrel;obtain⟨q0,q1,q2,q3,q4,q5,q6⟩:=HBX.out.keep HX.out HZ.out;have hbl:=Vg sup c k;by_cases hlt:k<m.classes.length
  ·obtain⟨b,hb⟩:∃b,zR (zv sup k) c=b:=⟨_,rfl⟩
   have HST:=zH (show qS sup c (k+1)=if b=true then qS sup c k++[(k:Int)]else qS sup c k by rw[←hb];rfl);obtain⟨U,hU⟩:∃U,zv sup k=U:=⟨_,rfl⟩
   have hUl:U.length≤9223372036854775807:=by rw[←hU];have:=YB sup k;have:=HSl.out;omega
   have HU:=zH hU;rw[hU]at hb;have HB:=zH hb;clear hU hb;have HSr:=zH ((HS.out.below_to HX.out (zn _)):qD wr w1.heap.size h.A0 sup);generalize qS sup c k=L at*
   have hsz:=HX.out.size;have HSw:Hid (qD wr wr.heap.size h.A0 sup):=zH (fun i s hs=>by obtain⟨ad,e,a0,a1⟩:=HSr.out i s hs;exact⟨ad,e,Xp a0 hsz,a1⟩);have hn':m.classes.length≤1048576:=by omega
   cases b
   ·have e1:qS sup c (k+1)=L:=HST.out;have HST1:=zH e1;clear e1 HST;go_wp2_with(first
     |(go_at_call 71;(with_reducible refine(q4p HSl hn' HU HSw).mono ?_);rintro e w2 ⟨v2,rfl,ho,hb⟩;have HX2:=zH (HX.out.trans (hb.mono hsz));have HO2:=zH (qo HO.out hb (zZ HO.out));obtain⟨A2,c2,rfl,hl2,g1,g2⟩:=ku ho;have HL2:=zH hl2;have hsz2:=HX2.out.size;clear hb ho hl2)
     |(go_at_call 66;(with_reducible refine(Ju _ _ _ _ _ _ hUl HL2.out).mono ?_);rintro e w' ⟨he,rfl⟩;rw[HB.out]at he;subst he;obtain⟨q0,q1,q2,q3,q4,q5,q6⟩:=HBX.out.keep HX2.out HZ.out))
    go_roundw;case rel=>exact⟨k+1,by omega,by go_num,zH (by rw[HST1.out];exact HO2.out),HX2⟩
    case measure=>simp[intOf];omega
   ·have e1:qS sup c (k+1)=L++[(k:Int)]:=HST.out;have HST1:=zH e1;clear e1 HST;go_wp2_with(first
     |(go_at_call 71;(with_reducible refine(q4p HSl hn' HU HSw).mono ?_);rintro e w2 ⟨v2,rfl,ho,hb⟩;have HX2:=zH (HX.out.trans (hb.mono hsz));have HO2:=zH (qo HO.out hb (zZ HO.out));obtain⟨A2,c2,rfl,hl2,g1,g2⟩:=ku ho;have HL2:=zH hl2;have hsz2:=HX2.out.size;clear hb ho hl2)
     |(go_at_call 66;(with_reducible refine(Ju _ _ _ _ _ _ hUl HL2.out).mono ?_);rintro e w' ⟨he,rfl⟩;rw[HB.out]at he;subst he;obtain⟨q0,q1,q2,q3,q4,q5,q6⟩:=HBX.out.keep HX2.out HZ.out)
     |(at_builtin;refine wpList_append_own _ rfl _ _ 26 rfl w1.heap.size 3 i0 (.int .i64 0) 1 8 Tryz.underlying26 hi hz0 hz1 hz2 rfl (by decide) _ _ _ rfl (HO2.out.alloc _) ⟨_,0,none⟩ 1 1 [.int .i64 (k:Int)] rfl rfl (q0l _ _) (q0f _) (by unfold maxLen;omega) (by omega) (by simp;omega) ?_;intro v' w3 hown' hgrow _;have hR:=Yy HO2.out hsz2 HX2.out hown' hgrow;have HO3:=zH hR.1;have HX3:=zH hR.2;clear hown' hgrow hR))
    go_roundw;case rel=>exact⟨k+1,by omega,by go_num,zH (by rw[HST1.out];exact HO3.out),HX3⟩
    case measure=>simp[intOf];omega
  ·obtain rfl:k=m.classes.length:=by omega
   go_wp2_with fail
   go_ret;refine⟨_,rfl,?_,HW.out.trans (HX.out.mono HW.out.size)⟩;rw[HE.out];exact jc HO.out HW.out.size
section
variable{m:za}{h:zg}{w0 w:World}{c:Int}
theorem qn5{L:List Int}(HI:Hid (zi w0 w0.heap.size h m))(HX:Hid (Below w0.heap.size w0 w))(HL:Hid (Zp m.classes c=L))(hn:m.classes.length≤1000):
  Calls Tryz.prog 72 #[zk h m,.int .i64 c] w (vJ L w):=by
 have H:=qif m c h w (HI.out.now HX.out) hn;rw[HL.out]at H;exact H
end
theorem q7b{P:Prop}(h:P:=by
 go_wp2_with fail
 first
  |exact Xn (v:=zA 0 0) (by simp[results,Tryz.results148,go_sem,c0,c1]) rfl ⟨rfl,HW.out.trans (HB3.out.mono hW1)⟩
  |(have HQ4:=(HQ3.out.set 0 (.int .i64 0)).set 1 (.int .i64 0)
    have d0:=HQ4.cells 0 _ rfl;have d1:=HQ4.cells 1 _ rfl;exact Xn (v:=zA 0 0) (by simp[results,Tryz.results148,go_sem,d0,d1]) rfl ⟨rfl,HW.out.trans (((HB3.out.mono hW1).setCell (p:=⟨w.heap.size+1,0,none⟩) (by show w.heap.size≤w.heap.size+1;omega) (.int .i64 0)).setCell (p:=⟨w.heap.size+1,1,none⟩) (by show w.heap.size≤w.heap.size+1;omega) (.int .i64 0))⟩)):P:=h
set_option maxHeartbeats 1600000 in
theorem qi6(x:zf)(n:Int)(hs:n≤9223372036854775807)(hx:qh)(w:World)(H:qL w w.heap.size hx x)(ha:x.args.length≤1048576)(hl:x.locals.length≤1048576):
  Calls Tryz.prog 148 #[jH hx x,.int .i64 n] w fun e w'=>e= .returned (zA (qm x n).1 (qm x n).2)∧Below w.heap.size w w':=by
 obtain⟨i0,hi,hz0,hz1,hz2⟩:=qQ ZY;have HW:=zH (((zb w.heap.size w).alloc (zn _) (.cells (zL hx x).toArray 53)).alloc (by simp) (.cells #[.int .i64 0,.int .i64 0] 50));have HQ:=zH (show ze ((w.alloc (.cells (zL hx x).toArray 53)).alloc (.cells #[.int .i64 0,.int .i64 0] 50)) (w.heap.size+1) [.int .i64 0,.int .i64 0] 50 from ze.at_ (by simp) _ _);have HC:=zH ((qa w (zL hx x) 53).keep ((zb _ _).alloc (zn _) (.cells #[.int .i64 0,.int .i64 0] 50)) (by simp));have HM:=zH (H.now HW.out);obtain⟨t,ht⟩:∃t,qm x n=t:=⟨_,rfl⟩
 rw[ht];have HR:=zH ht;clear H ht;go_enter Tryz.func148,Tryz.ntmps148;go_upto_region 1 with fail
 generalize(w.alloc (.cells (zL hx x).toArray 53)).alloc (.cells #[.int .i64 0,.int .i64 0] 50)=w1 at*
 have q0:=HC.out 0 _ rfl;have q1:=HC.out 1 _ rfl;have hlt:=HQ.out.lt;have HC0:Hid (∀W,Below w1.heap.size w1 W→W.cell? ⟨w.heap.size,0,none⟩=some (.slice hx.A0 x.args.length hx.k0)):=zH (fun W hW=>(hW.cell (p:=⟨w.heap.size,0,none⟩) (by show w.heap.size<_;omega)).trans q0);have HC1:Hid (∀W,Below w1.heap.size w1 W→W.cell? ⟨w.heap.size,1,none⟩=some (.slice hx.A1 x.locals.length hx.k1)):=zH (fun W hW=>(hW.cell (p:=⟨w.heap.size,1,none⟩) (by show w.heap.size<_;omega)).trans q1);have HA:=zH (Zn HM.out.args.row);have HL:=zH (Zn HM.out.locals.row);clear HC;go_wp2
 refine wp_region_noPanic ?_;refine wp_region_held_drew (S:=(fun w'=>w'.cell? ⟨w.heap.size,0,none⟩=some (.slice hx.A0 x.args.length hx.k0)∧w'.cell? ⟨w.heap.size,1,none⟩=some (.slice hx.A1 x.locals.length hx.k1))) (by kernel_rfl) ⟨q0,q1⟩ (fun hHeld=> ?_);refine mT 1 (h:=mT 2 (h:=mT 4 (h:=mT 5 (h:= ?_))));refine wpAnyH_ready (rs:=[0]) (by kernel_rfl) (by simp) ?_;refine AllReadyH.cons (o:=_) rfl (fun K hK=> ?_) AllReadyH.nil;go_simp;have HB0:=zH ((zb w1.heap.size w1).drew.alloc (zn _) (.cells #[] 50));have HO0:=zH (Qo w1.drew 50 2);have HA0:=zH ((HA.out.below_to HB0.out (zn _)):zx (w1.drew.alloc (.cells #[] 50)) w1.heap.size hx.A0 (zI x.args));refine hK.out _ _ ⟨HC0.out _ HB0.out,HC1.out _ HB0.out⟩ (fun hHeld=> ?_);clear hK K;try simp only[sA,sB,sC,Act.put,sD,sE,sF]
 refine wpAnyH_ready (rs:=[3]) (by kernel_rfl) (by simp) ?_;refine AllReadyH.cons (o:=_) rfl (fun K hK=> ?_) AllReadyH.nil
 (refine Jm rfl _ _ 23 rfl w1.heap.size 50 i0 (.agg #[.int .i64 0,.int .i64 0]) 2 16 Tryz.underlying23 hi hz0 hz1 hz2 rfl (by decide) _ 0 [] rfl HO0.out hx.A0 x.args.length hx.k0 _ (zI x.args) (kV _) rfl HA0.out (kb _) (by unfold maxLen;omega) (by omega) HB0.out.size ?_;intro v2 w2 hown hgrow;have HB2:=zH (qN HB0.out HO0.out HB0.out.size hgrow);have HO2:=zH hown;have HL2:=zH ((HL.out.below_to HB2.out (zn _)):zx w2 w1.heap.size hx.A1 (zI x.locals));clear hown hgrow)
 refine hK.out _ _ ⟨HC0.out _ HB2.out,HC1.out _ HB2.out⟩ (fun hHeld=> ?_);clear hK K;try simp only[sA,sB,sC,Act.put,sD,sE,sF]
 refine wpAnyH_ready (rs:=[6]) (by kernel_rfl) (by simp) ?_;refine AllReadyH.cons (o:=_) rfl (fun K hK=> ?_) AllReadyH.nil
 (refine Jm rfl _ _ 23 rfl w1.heap.size 50 i0 (.agg #[.int .i64 0,.int .i64 0]) 2 16 Tryz.underlying23 hi hz0 hz1 hz2 rfl (by decide) _ (0+x.args.length) ([]++zI x.args) rfl HO2.out hx.A1 x.locals.length hx.k1 _ (zI x.locals) (kV _) rfl HL2.out (kb _) (by unfold maxLen;omega) (by omega) HB2.out.size ?_;intro v3 w3 hown hgrow;have HB3:=zH (qN HB2.out HO2.out HB2.out.size hgrow);have HO3:=zH hown;clear hown hgrow)
 refine hK.out _ _ ⟨HC0.out _ HB3.out,HC1.out _ HB3.out⟩ (fun hHeld=> ?_);clear hK K;try simp only[sA,sB,sC,Act.put,sD,sE,sF]
 refine mT 7 (h:= ?_);refine wpAnyH_done (by kernel_rfl) ?_ _;refine NoPanic.normal ?_;have HQ3:=zH (HQ.out.keep HB3.out hlt);obtain⟨L,hL⟩:∃L,x.args++x.locals=L:=⟨_,rfl⟩
 have hLl:L.length≤2097152:=by rw[←hL,Xt];omega
 have HE:=zH (show qm x n=if 0≤n then L[n.toNat]?.getD (0,0)else(0,0)by rw[←hL];rfl);have hO:w3.ownsRow w1.heap.size 50 2 v3 L.length (zI L):=by
  have:=HO3.out;rw[←hL,Xt];unfold zI at this⊢
  rw[Wc];simpa using this
 obtain⟨A3,c3,rfl,hS,_⟩:=kU hO;have HS:=zH hS;have hlt3:=HQ3.out.lt;have c0:=HQ3.out.cells 0 _ rfl;have c1:=HQ3.out.cells 1 _ rfl;have f0:=HQ3.out.free 0;have f1:=HQ3.out.free 1;clear hL hS hO HO3 HO2 HL2 HA0 HO0 hHeld q0 q1;have hW3:=HB3.out.size;have hW1:=HW.out.size;by_cases h0:n<0
 ·obtain rfl:t=(0,0):=by rw[←HR.out,HE.out,Xa (by omega)]
  clear HE HR;exact q7b
 ·have h0':0≤n:=by omega
  by_cases h1:n<L.length
  ·obtain⟨j,rfl⟩:=Xm h0';have hj:j<L.length:=by omega
   obtain⟨ad,rfl,hab,r0,r1⟩:=HS.out.row.at_ hj;have HE2:=zH (show qm x (j:Int)=L[j]by rw[HE.out,Xb (by omega),Xe,Xc hj];rfl);have e:L[j]=t:=HE2.out.symm.trans HR.out;rw[e]at r0 r1;clear HE HE2 HR e;go_wp2_with fail
   have HQ4:=(HQ3.out.set 0 (.int .i64 t.1)).set 1 (.int .i64 t.2);have d0:=HQ4.cells 0 _ rfl;have d1:=HQ4.cells 1 _ rfl;exact Xn (v:=zA t.1 t.2) (by simp[results,Tryz.results148,go_sem,d0,d1]) rfl ⟨rfl,HW.out.trans (((HB3.out.mono hW1).setCell (p:=⟨w.heap.size+1,0,none⟩) (by show w.heap.size≤w.heap.size+1;omega) (.int .i64 t.1)).setCell (p:=⟨w.heap.size+1,1,none⟩) (by show w.heap.size≤w.heap.size+1;omega) (.int .i64 t.2))⟩
  ·have h1':(L.length:Int)≤n:=by omega
   have HE2:=zH (show qm x n=(0,0)by rw[HE.out,Xb h0',Xu (by omega)];rfl);obtain rfl:t=(0,0):=HR.out.symm.trans HE2.out;clear HE HE2 HR;exact q7b
def jB(L M:List (Int×Int))(w:World)(e:Ending)(w':World):Prop:=
 ∃A c A' c',e= .returned (.tuple #[.slice A L.length c,.slice A' M.length c'])∧zd zh 2 w' w'.heap.size A c L∧zd zh 2 w' w'.heap.size A' c' M∧Below w.heap.size w w'
abbrev qc(h:zg)(m:za)(op a b:Int)(w:World):World:=
 ((((((w.alloc (zo h m)).alloc (.cells #[.int .i64 op,.int .i64 a,.int .i64 b] 55)).alloc (.cells #[.int .i64 1,.int .i64 0] 50)).alloc (.cells #[.int .i64 2,.int .i64 0] 50)).alloc
  (.cells #[.int .i64 4,.int .i64 0] 50)).alloc (.cells #[.int .i64 0,.int .i64 0] 50)).alloc (.cells #[.int .i64 3,.int .i64 a] 50)
structure qv7(w1:World)(N:Nat)(h:zg)(m:za)(op a b:Int):Prop where
 img:Zs w1 N h m
 ins:zW w1 (N+1) [.int .i64 op,.int .i64 a,.int .i64 b]
 t1:zW w1 (N+1+1) [.int .i64 1,.int .i64 0]
 t2:zW w1 (N+1+1+1) [.int .i64 2,.int .i64 0]
 t4:zW w1 (N+1+1+1+1) [.int .i64 4,.int .i64 0]
 t0:zW w1 (N+1+1+1+1+1) [.int .i64 0,.int .i64 0]
 t3:zW w1 (N+1+1+1+1+1+1) [.int .i64 3,.int .i64 a]
 size:w1.heap.size=N+1+1+1+1+1+1+1
theorem jI(h:zg)(m:za)(op a b:Int)(w:World):Below w.heap.size w (qc h m op a b w)∧qv7 (qc h m op a b w) w.heap.size h m op a b:=by
 have z0:(w.alloc (zo h m)).heap.size=w.heap.size+1:=by simp
 obtain⟨c1,z1,b1⟩:=kr z0 [.int .i64 op,.int .i64 a,.int .i64 b] 55;obtain⟨c2,z2,b2⟩:=kr z1 [.int .i64 1,.int .i64 0] 50;obtain⟨c3,z3,b3⟩:=kr z2 [.int .i64 2,.int .i64 0] 50;obtain⟨c4,z4,b4⟩:=kr z3 [.int .i64 4,.int .i64 0] 50;obtain⟨c5,z5,b5⟩:=kr z4 [.int .i64 0,.int .i64 0] 50;obtain⟨c6,z6,b6⟩:=kr z5 [.int .i64 3,.int .i64 a] 50;have b5':=b5.trans (b6.mono (by omega));have b4':=b4.trans (b5'.mono (by omega));have b3':=b3.trans (b4'.mono (by omega));have b2':=b2.trans (b3'.mono (by omega));have b1':=b1.trans (b2'.mono (by omega));exact⟨((zb w.heap.size w).alloc (zn _) (zo h m)).trans (b1'.mono (by omega)),
  (zX w h m).keep b1' (by omega),c1.keep b2' (by omega),c2.keep b3' (by omega),c3.keep b4' (by omega),c4.keep b5' (by omega),c5.keep b6 (by omega),c6,z6⟩
theorem jV{w:World}{g:Nat}{x y:Int}(hg:g<w.heap.size)(h0:w.cell? ⟨g,0,none⟩=some (.int .i64 x))(h1:w.cell? ⟨g,1,none⟩=some (.int .i64 y)):zd zh 2 w w.heap.size (some ⟨g,0,none⟩) 1 [(x,y)]:=
 ⟨zn _,by show 1≤9223372036854775807;omega,qdu ⟨h0,h1⟩ hg⟩
theorem q2s{w:World}{g:Nat}{x y z u:Int}(hg:g<w.heap.size)(h0:w.cell? ⟨g,0,none⟩=some (.int .i64 x))(h1:w.cell? ⟨g,1,none⟩=some (.int .i64 y))(h2:w.cell? ⟨g,2,none⟩=some (.int .i64 z))(h3:w.cell? ⟨g,3,none⟩=some (.int .i64 u)):zd zh 2 w w.heap.size (some ⟨g,0,none⟩) 2 [(x,y),(z,u)]:=
 ⟨zn _,by show 2≤9223372036854775807;omega,fun i t hi=>by
  match i,hi with
  |0,hi=>simp at hi;subst hi;exact⟨_,rfl,hg,by simpa[Addr.add]using h0,by simpa[Addr.add]using h1⟩
  |1,hi=>simp at hi;subst hi;exact⟨_,rfl,hg,by simpa[Addr.add]using h2,by simpa[Addr.add]using h3⟩
  |i+2,hi=>simp at hi⟩
theorem new_t3{w:World}{g:Nat}{x y z u v s:Int}(hg:g<w.heap.size)(h0:w.cell? ⟨g,0,none⟩=some (.int .i64 x))(h1:w.cell? ⟨g,1,none⟩=some (.int .i64 y))(h2:w.cell? ⟨g,2,none⟩=some (.int .i64 z))(h3:w.cell? ⟨g,3,none⟩=some (.int .i64 u))(h4:w.cell? ⟨g,4,none⟩=some (.int .i64 v))(h5:w.cell? ⟨g,5,none⟩=some (.int .i64 s)):zd zh 2 w w.heap.size (some ⟨g,0,none⟩) 3 [(x,y),(z,u),(v,s)]:=
 ⟨zn _,by show 3≤9223372036854775807;omega,fun i t hi=>by
  match i,hi with
  |0,hi=>simp at hi;subst hi;exact⟨_,rfl,hg,by simpa[Addr.add]using h0,by simpa[Addr.add]using h1⟩
  |1,hi=>simp at hi;subst hi;exact⟨_,rfl,hg,by simpa[Addr.add]using h2,by simpa[Addr.add]using h3⟩
  |2,hi=>simp at hi;subst hi;exact⟨_,rfl,hg,by simpa[Addr.add]using h4,by simpa[Addr.add]using h5⟩
  |i+3,hi=>simp at hi⟩
theorem qml{L:List Nat}{ad:Addr}{c B:Nat}{w:World}{k:Nat}(h:Hid (zx w B (some ad) (zP L)))(hB:Hid (B≤w.heap.size))(h0:Hid (0<L.length))(hl:Hid (L.length≤1048576))(hk:Hid (L.length=k)):
  Calls Tryz.prog 205 #[.slice (some ad) k c] w fun e w'=>∃gi ci,e= .returned (.slice (some ⟨gi,0,none⟩) k ci)∧w.heap.size≤gi∧w'.ownsRow w.heap.size 3 1 (.slice (some ⟨gi,0,none⟩) k ci) k (zP L)∧Below w.heap.size w w':=by
 obtain rfl:=hk.out;exact qhr L ad c B w h.out hB.out h0.out hl.out
theorem qjl:(Tryz.prog.info? 26).map (fun i=>(i.zero,i.size,i.bytes))=some (some (.slice none 0 0),1,24):=by kernel_rfl
def qt6(B g:Nat)(EL:List (List Int))(n:Nat)(S:Wk)(O X:List Nat)(w:World)(e:Ending)(w':World):Prop:=
 e= .returned (.tuple #[])∧(∃c a' ρ',c.Perm X∧c.Pairwise (· ≤ ·)∧zE w' B g EL n {S with opn:=O,back:=fun x=>if x ∈X then jX else S.back x,parts:=S.parts++[c]} a' ρ')∧Below B w w'
theorem qm4{L:List Nat}{t:Nat}(ht:t<L.length)(f:Nat→Int):qb (fun x=>if x ∈L.take t then jX else f x) L[t] jX=fun x=>if x ∈L.take (t+1)then jX else f x:=funext fun x=>by
 have e1:L.take (t+1)=L.take t++[L[t]]:=by rw[XA,Xc ht];rfl
 rw[e1];unfold qb;by_cases e:x=L[t]
 ·rw[Xb e,Xb (by rw[Xs,XG];exact .inr e)]
 ·rw[Xa e];show(if x ∈L.take t then jX else f x)=_;by_cases q:x ∈L.take t
  ·rw[Xb q,Xb (List.mem_append_left _ q)]
  ·rw[Xa q,Xa (by rw[Xs,XG];exact fun r=>r.elim q e)]
set_option maxHeartbeats 3200000 in
theorem qhq(B g n v:Nat)(EL:List (List Int))(S:Wk)(O X:List Nat)(a:Jg)(ρ:Nat→Nat)(w:World)(h:zE w B g EL n S a ρ)(ho:S.opn=O++v::X)(hX:v ∉X)(hlt:∀x ∈v::X,x<n)(hol:S.opn.length≤n)(hpl:S.parts.length≤n):
  Calls Tryz.prog 191 #[.pointer (some ⟨g,0,none⟩),.int .i64 (v:Int)] w (qt6 B g EL n S O (v::X) w):=by
 obtain⟨met,place,back,gone,way,opn,parts⟩:=S;obtain⟨gp,gb,gg,E,ce,Ay,cy,Ao,co,Ap,cp,vs⟩:=a;dsimp only at ho hol hpl;subst ho;have hn1:=h.n1;have hge:=h.g_ge;obtain⟨hg0,hg1,hg2,hg3⟩:=hge;have hoo:w.ownsRow B 3 1 (.slice Ao (O++v::X).length co) (O++v::X).length (zP (O++v::X)):=h.opn;have hlen:(O++v::X).length=O.length+X.length+1:=by simp;omega
 obtain⟨go,rfl,hc1,hc2,hgo,_⟩:=YH hoo (by omega);have HI:=zH h;have HOO:=zH hoo;have q6:=h.blk.cells 6 _ rfl;dsimp only at q6 hg1 hg2 hg3;rw[hlen]at q6 hol hc1;have HLE:=zH hlen;obtain⟨k,hk⟩:∃k,O.length=k:=⟨_,rfl⟩
 obtain⟨j,hj⟩:∃j,X.length=j:=⟨_,rfl⟩
 rw[hk,hj]at q6 hol hc1;have HK:=zH hk;have HJ:=zH hj;have HLT:=zH hlt;have HXN:=zH hX;have hv:v<n:=hlt v (XE ..);clear h hoo hlen hk hj hX hlt;go_enter Tryz.func191,Tryz.ntmps191;go_wp2_with fail
 go_loopw [4] (fun i wr=>∃t:Nat,t≤j∧i= .int .i64 ((k+t:Nat):Int)∧wr=w) (fun i _=>(intOf i).toNat)
 case atStart=>exact⟨j,zn _,by go_num,rfl⟩
 case round=>
  obtain⟨t,ht,rfl,hww⟩:=hrel;obtain rfl:=hww.symm;obtain⟨m,hm⟩:∃m,k+t=m:=⟨_,rfl⟩
  rw[hm];cases t with
  |succ s=>
   have hs:s<X.length:=by rw[HJ.out];omega
   obtain⟨y,hy⟩:∃y,X[s]=y:=⟨_,rfl⟩
   have hc:=YI HOO.out (Yc (l:=O++v::X) (j:=m) (v:=y) (by rw[XM (by rw[HK.out];omega),HK.out,show m - k=s+1 by omega,List.getElem?_cons_succ,Xc hs,hy]));have hne:y≠v:=fun e=>HXN.out (by rw[←e,←hy];exact Xd hs);have hne2:((y:Int) !=(v:Int))=true:=by simp;omega
   clear hy hne;go_wp2_with fail
   go_roundw;case rel=>exact⟨s,by omega,by go_num,by first|rfl|trivial⟩
   case measure=>simp[intOf];omega
  |zero=>
   obtain rfl:k=m:=by omega
   have hc:=YI HOO.out (Yc (l:=O++v::X) (j:=k) (v:=v) (by rw[XM (by rw[HK.out];exact zn _),HK.out,Nat.sub_self];rfl));have hne2:((v:Int) !=(v:Int))=false:=by simp
   have HT:Hid (zx w w.heap.size (some ⟨go,k,none⟩) (zP (v::X))):=zH (by
    have:=(zx.of_own HOO.out).drop_ k;rw[←qns,←HK.out,List.drop_left,HK.out]at this;have e:(⟨go,0,none⟩:Addr).add k=⟨go,k,none⟩:=by unfold Addr.add;split<;>simp_all
    rw[←e];exact this)
   have HLL:Hid ((v::X).length=k+j+1 - k):=zH (by simp[HJ.out];omega);have HL0:Hid (0<(v::X).length):=zH (by simp);have HL1:Hid ((v::X).length≤1048576):=zH (by rw[HLL.out];omega);have HWZ:Hid (w.heap.size≤w.heap.size):=zH (zn _);have hck:¬co=k:=by omega
   clear hm ht;go_upto_region 4 with(go_at_call 205;go_loud (refine(qml HT HWZ HL0 HL1 HLL).mono ?_);rintro e w2 ⟨gi,ci,rfl,hgi,hown,hb⟩;have HGI:=zH hgi;have HO2:=zH hown;have HB2:=zH hb;clear hgi hown hb)
   have hj1:k+j+1 - k=j+1:=by omega
   rw[hj1]at HO2;rw[hj1];have HLJ:Hid ((v::X).length=j+1):=zH (by rw[HLL.out,hj1]);have HF2:=zH (HI.out.fresh HB2.out HGI.out);have q6':=HF2.out.blk.cells 6 _ rfl;have f6':=HF2.out.blk.free 6;have HC3:=zH (HF2.out.opn_cut (O:=O) (X:=v::X) rfl);dsimp only at q6' HC3;rw[HLE.out,HK.out,HJ.out]at q6';rw[HK.out]at HC3;have X3:=zH (HF2.out.cell_below (HB2.out.mono HI.out.size) 6 (.slice (some ⟨go,0,none⟩) k co));have HR8:Hid (qb ρ gi 8 gi=8):=zH (kx _ _ _);have HO3:=zH (kH HO2.out (qj.cell (ρ:=qb ρ gi 8) (a:=⟨g,6,none⟩) HF2.out.r0 (.slice (some ⟨go,0,none⟩) k co)) (fun b hb=>by
    have e:gi=b:=by simpa[Value.ownBlock]using hb
    subst e;rw[HR8.out];decide))
   clear hc hne2 HT HLL HL0 HL1 hck q6;go_upto_region 5 with fail
   clear q6' f6' HF2 HB2 HO2;generalize w2.setCell ⟨g,6,none⟩ (.slice (some ⟨go,0,none⟩) k co)=w3 at*
   generalize qb ρ gi 8=ρ2 at*
   obtain⟨L,hL⟩:∃L,v::X=L:=⟨_,rfl⟩
   rw[hL]at HLT HO3 HLJ⊢
   have HXL:=zH hL;clear hL;go_wp2_with fail
   go_loopw [43] (fun i wi=>∃t:Nat,t≤j+1∧i= .int .i64 t∧Hid (zE wi B g EL n ⟨met,place,fun x=>if x ∈L.take t then jX else back x,gone,way,O,parts⟩ ⟨gp,gb,gg,E,ce,Ay,cy,some ⟨go,0,none⟩,co,Ap,cp,vs⟩ ρ2)∧Hid (wi.ownsRow w.heap.size 3 1 (.slice (some ⟨gi,0,none⟩) (j+1) ci) (j+1) (zP L))∧Hid (Below B w wi)) (fun i _=>j+1 - (intOf i).toNat)
   case atStart=>exact⟨0,Xl _,rfl,HC3,HO3,X3⟩
   case round=>
    clear HC3 HO3 X3;obtain⟨t,ht,rfl,HW,HO,HX⟩:=hrel;by_cases htj:t<j+1
    ·have htl:t<L.length:=by rw[HLJ.out];exact htj
     have HTB:=zH (qm4 htl back);have hx:=HLT.out _ (Xd htl);have hc:=YI HO.out (Yc (l:=L) (j:=t) (v:=L[t]) (Xc htl));generalize L[t]=x at*
     have q3:=HW.out.blk.cells 3 _ rfl;obtain⟨c3,f3⟩:=HW.out.b_at hx;have H4:=zH (HW.out.back (v:=x) (k:=jX));dsimp only at q3 c3 f3 H4;rw[HTB.out]at H4;have HO4:=zH (kH HO.out (qj.cell (ρ:=ρ2) (a:=⟨gb,x,none⟩) HW.out.r2 (.int .i64 jX)) (fun b hb=>by
      have e:gi=b:=by simpa[Value.ownBlock]using hb
      subst e;rw[HR8.out];decide))
     have X4:=zH (HX.out.setCell (p:=⟨gb,x,none⟩) hg2 (.int .i64 jX));clear htl;go_wp2_with fail
     go_roundw;case rel=>exact⟨t+1,by omega,by go_num,H4,HO4,X4⟩
     case measure=>simp[intOf];omega
    ·obtain rfl:t=j+1:=by omega
     rw[←HLJ.out,XP]at HW;have hsort:=qmb L w.heap.size gi ci wr (by rw[HLJ.out];exact HO.out) (by rw[HLJ.out];omega);rw[HLJ.out]at hsort;have HS:=zH hsort;clear hsort htj;obtain⟨C,hC⟩:∃C,(L.mergeSort fun x y=>decide (x≤y))=C:=⟨_,rfl⟩
     have hok:=qtg L;rw[hC]at hok HS;have HP:=zH hok.1;have HPW:=zH hok.2;have HCL:Hid (C.length=j+1):=zH (by rw[hok.1.length_eq,HLJ.out]);clear hok hC;have hgiB:B≤gi:=Xg HI.out.size HGI.out;go_upto_region 11 with(go_at_call 190;go_loud (refine HS.out.mono ?_);rintro e w5 ⟨rfl,hown,hg⟩;have HW5:=zH ((HW.out.sorted HR8.out hg).settled HR8.out);have HO5:=zH hown;have X5:=zH (HX.out.grown hg HW.out.size (fun b e=>by injection e with e;subst e;exact hgiB));clear hown hg)
     have HPI:Hid (Yj w5 B (qb ρ2 gi 7) (.slice (some ⟨gi,0,none⟩) (j+1) ci) C):=zH (by
      obtain⟨g',c',rest,e1,_,hwh⟩:=qaw HO5.out (Nat.succ_pos _);injection e1 with e1 e2 e3;injection e1 with e1;injection e1 with e1;subst e1;obtain⟨_,_,hl1,hl2,_,_⟩:=YH HO5.out (Nat.succ_pos _);exact⟨gi,ci,rest,by rw[HCL.out],hgiB,kx _ _ _,by rw[HCL.out];exact hl1,hl2,hwh⟩)
     clear HW HO HX HS HO5;have q7:=HW5.out.blk.cells 7 _ rfl;dsimp only at q7;have HY:Hid (w5.ownsRow B 26 1 (.slice Ap parts.length cp) parts.length vs):=zH HW5.out.prt;have hz5:=HW5.out.size;obtain⟨i1,hi1,hy0,hy1,hy2⟩:=info_parts qjl;go_wp2_with(at_builtin;go_loud (refine wpList_append_lies _ rfl _ _ 56 rfl B 26 i1 (.slice none 0 0) 1 24 Tryz.underlying56 hi1 hy0 hy1 hy2 rfl (by decide) _ _ _ rfl (HY.out.alloc _) ⟨_,0,none⟩ 1 1 [.slice (some ⟨gi,0,none⟩) (j+1) ci] rfl rfl (q6e _ _ _) (Qq rfl) (by decide) (by unfold maxLen;omega) (by omega) (by simp;omega) _ rfl ?_);intro g9 c9 w9 hown hgrow hor hlt9;have hb9:=ko HW5.out.blk (Vy HW5.out.r6 hgrow) (by rw[HW5.out.r0];decide);have q7':=hb9.cells 7 _ rfl;have f7':=hb9.free 7;have HA:=zH (HW5.out.prt_app HPI.out hown hgrow hor);clear hown hgrow hor hlt9 hb9;dsimp only at q7')
     go_end0
     obtain rfl:=HXL.out;exact⟨rfl,⟨C,_,_,HP.out,HPW.out,HA.out.1⟩,X5.out.trans HA.out.2⟩
open Go.ChangeShapes Go.WideShapes Go.ChangeAt Go.RowKit Go.Shelf
attribute [local go_sem] Oper.semAt_some
theorem qiz{w:World}{base e n c:Nat}{A:Option Addr}{xs:List Value}(h:w.ownsRow base e 1 (.slice A n c) n xs):VF w base w.heap.size A xs:=fun j u hu=>by
 obtain⟨ad,e,hb,hc⟩:=zx.of_own h j u hu;refine⟨ad,e,?_,hb,hc⟩;rcases h.2 with⟨h0,_⟩|⟨g,cap,cur,hv,hg,_⟩
 ·injection h0 with h0;rw[h0]at e;cases e
 ·injection hv with hv;rw[hv]at e;injection e with e;rw[←e];exact hg
theorem qq8{cl:List zO}{c:Int}{U:List Int}{A:Option Addr}{cap:Nat}{w:World}(hn:cl.length≤1048576)(HU:Hid (zv (zt cl) c=U))(h:zd jW 3 w w.heap.size A cap cl):
  Calls Tryz.prog 208 #[.slice A cl.length cap,.int .i64 c] w (vJ U w):=by
 have H:=qlq cl c A cap w hn h;rw[HU.out]at H;exact H
def jD(N g:Nat)(A B:World):Prop:=A.heap.size≤B.heap.size∧∀b,b<N→b≠g→B.heap[b]? =A.heap[b]?
theorem jD.refl(N g:Nat)(A:World):jD N g A A:=⟨zn _,fun _ _ _=>rfl⟩
theorem jD.trans{N g:Nat}{A B C:World}(h:jD N g A B)(h':jD N g B C):jD N g A C:=⟨Xg h.1 h'.1,fun b b0 b1=>(h'.2 b b0 b1).trans (h.2 b b0 b1)⟩
theorem jD.cell{N g:Nat}{A B:World}(h:jD N g A B){p:Addr}(h0:p.block<N)(h1:p.block≠g):B.cell? p=A.cell? p:=by
 unfold World.cell?;rw[h.2 _ h0 h1]
theorem jD.kept{N g:Nat}{A B:World}(h:jD N g A B):Kept (g+1) N A B:=fun q q0 q1=>h.cell q1 (by omega)
theorem jD.putObj{N g:Nat}{A:World}{l:Nat}{o:Obj}(hl:N≤l):jD N g A (A.putObj l o):=
 ⟨by simp,fun b b0 _=>World.putObj_heap_other (by omega)⟩
theorem jD.grown{N g:Nat}{A B C:World}{row:Option Nat}(h:jD N g A B)(hg:B.grownBy C row)(hN:N≤B.heap.size)(hr:∀r,row=some r→N≤r∨r=g):jD N g A C:=
 ⟨Xg h.1 hg.size,fun b b0 b1=>(hg.block b (by omega) (fun e=>by rcases hr b e.symm with x|x<;>omega)).trans (h.2 b b0 b1)⟩
theorem jD.box{N g:Nat}{A B:World}(h:jD N g A B){k:Nat}{hd:zg}{m:za}(H:Zs A k hd m)(h0:k<N)(h1:k≠g):Zs B k hd m:=by
 obtain⟨q0,q1,q2,q3,q4,q5,q6⟩:=H;have c:∀i,B.cell? ⟨k,i,none⟩=A.cell? ⟨k,i,none⟩:=fun i=>h.cell (p:=⟨k,i,none⟩) h0 h1;exact⟨(c 0).trans q0,(c 1).trans q1,(c 2).trans q2,(c 3).trans q3,(c 4).trans q4,(c 5).trans q5,(c 6).trans q6⟩
theorem qfl{β:Type}{B N g:Nat}{A:World}(hN:N≤B)(hA:N≤A.heap.size):OwnFrom B (fun(_:β) W=>jD N g A W):=fun s X Y row hs hg hr=>
 hs.grown hg (Xg hA hs.1) (fun r e=> .inl (Xg hN (hr r e).1))
def Qt(cl:List zO)(U:List Int)(pre:List (Fin U.length)):List (Int×Int):=(pre.map (fun x=>U[x])).flatMap (vE cl)
theorem qfa(cl:List zO)(U:List Int)(pre:List (Fin U.length))(x:Fin U.length):Qt cl U (pre++[x])=Qt cl U pre++vE cl U[x]:=by simp[Qt]
theorem qfq(cl:List zO)(U:List Int):Qt cl U (kQ U)=U.reverse.flatMap (vE cl):=by unfold Qt;rw[qox]
theorem qu9{w:World}{B e size n:Nat}{v:Value}{xs:List Value}(h:w.ownsRow B e size v n xs):∀r,v.ownBlock=some r→B≤r:=fun r hr=>by
 rcases h.2 with⟨rfl,_⟩|⟨g,cap,cur,rfl,hg,_⟩
 ·simp[Value.ownBlock]at hr
 ·have:g=r:=by simpa[Value.ownBlock]using hr
  omega
theorem qja{N g:Nat}{A B:World}(h:jD N g A B)(v:Value):jD N g A (B.setCell ⟨g,0,none⟩ v):=
 ⟨by have:=(KeepsWalks.setCell B ⟨g,0,none⟩ v).size;exact Xg h.1 this,fun b b0 b1=>(Below.heap_setCell _ _ _ b b1).trans (h.2 b b0 b1)⟩
theorem qnn{w:World}{B e size n:Nat}{v:Value}{xs:List Value}(h:w.ownsRow B e size v n xs):∀j o,v.ownBlock=some j→w.heap[j]? =some o→o.isCells=true:=fun j o hj ho=>by
 rcases h.2 with⟨rfl,_⟩|⟨g,cap,cur,rfl,hg,hh,_⟩
 ·simp[Value.ownBlock]at hj
 ·obtain rfl:g=j:=by simpa[Value.ownBlock]using hj
  rw[hh]at ho;cases ho;rfl
theorem qu8{w:World}{B e size n:Nat}{v:Value}{xs:List Value}(h:w.ownsRow B e size v n xs):∃A c,v= .slice A n c:=by
 rcases kq h with⟨rfl,rfl⟩|⟨g,c,rfl,_⟩
 ·exact⟨_,_,rfl⟩
 ·exact⟨_,_,rfl⟩
set_option maxHeartbeats 3200000 in
theorem q8a(m:za)(c:Int)(h:zg)(w:World)(H:zi w w.heap.size h m)(hn:m.classes.length≤1000)(hf:∀x ∈m.classes,x.fields.length≤1000):
  Calls Tryz.prog 197 #[zk h m,.int .i64 c] w (QX (zV m.classes c) w):=by
 obtain⟨i0,hi,hz0,hz1,hz2⟩:=qQ ZY;have HW:=zH (((zb w.heap.size w).alloc (zn _) (zo h m)).alloc (by simp) (.cells #[.slice none 0 0] 23));have HSZ:=zH (show((w.alloc (zo h m)).alloc (.cells #[.slice none 0 0] 23)).heap.size=w.heap.size+1+1 by simp);have HIM:=zH (H.now HW.out);have HBX:=zH ((zX w h m).keep ((zb _ (w.alloc (zo h m))).alloc (zn _) (.cells #[.slice none 0 0] 23)) (by simp));have HAL:=zH (show Go.Boxed ((w.alloc (zo h m)).alloc (.cells #[.slice none 0 0] 23)) (w.heap.size+1) 23 (.slice none 0 0)from by
  have:=Go.Boxed.new (w.alloc (zo h m)) 23 (.slice none 0 0);rw[World.size_alloc]at this;exact this)
 have HI0:=zH H;have HI0:=zH H;have HI0:=zH H;have HF:=zH hf;have HFO:=zH (show zV m.classes c=(zv (zt m.classes) c).reverse.flatMap (vE m.classes)from rfl);have hsl:(zt m.classes).length=m.classes.length:=jS _;obtain⟨U,hU⟩:∃U,zv (zt m.classes) c=U:=⟨_,rfl⟩
 have hUl:U.length≤1000:=by rw[←hU];have:=YB (zt m.classes) c;omega
 have HUm:Hid (∀i ∈U,0≤i∧i<m.classes.length):=zH (by rw[←hU];intro i hi;have:=qbx hi;omega);have HU:=zH hU;rw[hU]at HFO;clear hsl hU H hf;refine(callsIn_wide (n:=4)).1 ?_;refine callsIn_of_wp_marks Tryz.func197 rfl trivial ?_ rfl;simp only[Tryz.ntmps197,List.size_toArray,XL,List.length_nil,Nat.reduceAdd,Nat.reduceSub,Array.replicate_succ,Array.replicate_zero,List.push_toArray,List.append_toArray,List.nil_append,List.cons_append]
 gi_wp2_with (first
  |(refine⟨trivial,?_⟩;gi_at_call 208;refine(callsIn_wide.2 (qq8 (by omega) HU HIM.out.classes)).mono ?_;rintro e w3 ⟨v3,rfl,ho,hb⟩;obtain⟨A3,c3,rfl,hl3,g1,g2⟩:=ku ho;have HB3:=zH hb;have HO3:=zH (qiz ho);clear hb ho hl3)
  |(refine⟨trivial,?_⟩;gi_at_call 207;refine(qv1 Fence.wide _ trivial rfl _ _ _ _).mono ?_;rintro e w' ⟨rfl,rfl⟩))
 generalize(w.alloc (zo h m)).alloc (.cells #[.slice none 0 0] 23)=w2 at*
 obtain⟨N,hN⟩:∃N,N=w3.heap.size:=⟨_,rfl⟩
 have hs3:=HB3.out.size;have hs2:=HSZ.out;rw[←hN]at HO3 hs3;rw[hs2]at HO3;have hbB:Below w2.heap.size w2 (w3.alloc (.cells #[.slice A3 U.length c3] 26)):=HB3.out.trans ((zb _ w3).alloc (by omega) _);have HBB:=zH hbB;have hbox:=HBX.out.keep hbB (by omega);have hall:=(hbB.block (w.heap.size+1) (by omega)).trans HAL.out;have hcl:=HIM.out.now hbB;refine wpIn_rangeFunc_ownG rfl (by omega) (gf:=223) (lb:= #[.pointer (some ⟨w3.heap.size,0,none⟩)]) rfl trivial (enters_of Tryz.func223 (by kernel_rfl) rfl)
  (qla Fence.wide 3 trivial rfl (by omega) w3.heap.size (w.heap.size+1+1) (N+1) A3 c3 U (by omega) (Kp:=jD (N+1) (w.heap.size+1)) (fun _ _ hk=>hk.kept) (w3.alloc (.cells #[.slice A3 U.length c3] 26)) (by omega) (by omega) (by simp;omega)
   (by rw[World.cell?_alloc_at _ _ _ _ rfl];rfl) (fun j u hu=>by
    obtain⟨ad,e,a0,a1,hc⟩:=HO3.out j u hu;exact⟨ad,e,a0,by omega,(World.cell?_alloc_lt w3 _ _ (by rw[zp];omega)).trans hc⟩))
  (fun a b=>a.trans b) (fun W l o o' hl _ _ _=>jD.putObj (by simp at hl;omega)) (zb _ _) (fun _=>rfl)
  (fun pre W=>(∃v,Go.Boxed W (w.heap.size+1) 23 v∧W.ownsRow (N+1) 50 2 v (Qt m.classes U pre).length (zI (Qt m.classes U pre))∧True)∧jD (N+1) (w.heap.size+1) (w3.alloc (.cells #[.slice A3 U.length c3] 26)) W∧Below w.heap.size w W)
  (fun _ _ _=>False)
  (OwnFrom.and (Own.from (holdsRow_own (N+1) (w.heap.size+1) 23 50 2 (fun pre=>(Qt m.classes U pre).length) (fun pre=>zI (Qt m.classes U pre)) (fun _ _=>True)) _) (OwnFrom.and (qfl (by simp;omega) (by simp;omega)) (ownFrom_below (zn _) (by simp;omega))))
  (fun _ _ _ _ _ hs _ _=>hs)
  ⟨⟨_,hall,XT _ _ _ _,trivial⟩,jD.refl _ _ _,HW.out.trans (hbB.mono (by omega))⟩
  (fun x=> {tmps:= #[zk h m,.int .i64 c,.pointer (some ⟨w.heap.size,0,none⟩),undef,.slice none 0 0,.pointer (some ⟨w.heap.size+1,0,none⟩),undef,.int .i64 U[x],
   .pointer (some ⟨w.heap.size,0,none⟩),.slice h.A0 m.classes.length h.c0,.int .i64 c,.slice A3 U.length c3,.func (.func 223) #[] #[.pointer (some ⟨w3.heap.size,0,none⟩)],
   .int .i64 (x.1:Int),.int .i64 U[x],undef,undef,undef,undef,undef,undef,undef,undef,undef],defers:=[]}) ?assign ?body ?done ?stop
 case assign=>
  intro l x W K hK;unfold encU
  gi_wp2
  exact hK
 case body=>
  rintro l pre x W ⟨⟨v,hv,hrow,-⟩,hkb,hB⟩ hlt;have HSN:=zH (qfa m.classes U pre x);have hsum:=VY HF.out (pre.map (fun x=>U[x]));rw[Xi]at hsum;obtain⟨u0,u1⟩:=HUm.out U[x] (Xd x.2);generalize U[x]=u at*
  obtain⟨j,rfl⟩:=Xm u0;have hjl:j<m.classes.length:=by omega
  have hfx:=HF.out _ (Xd hjl);have HFA:=zH (q7l hjl);obtain⟨ad,e0,hab,hcx⟩:=(HI0.out.below_to hB (zn _)).classes.row.at_ hjl;generalize m.classes[j]=y at*
  obtain⟨s0,⟨A1,k1,s1,hs1⟩,_⟩:=hcx;have hmx:Tryz.prog.follows .mixedOrders=true:=by kernel_rfl
  obtain⟨q0,q1,q2,q3,q4,q5,q6⟩:=hkb.box hbox (by omega) (by omega);clear q1 q2 q3 q4 q5 q6 s0;rw[e0]at q0;obtain⟨L,hL⟩:∃L,Qt m.classes U pre=L:=⟨_,rfl⟩
  rw[hL]at hrow HSN;have hLl:L.length≤1000000:=by rw[←hL];unfold Qt;omega
  have HO:=zH hrow;obtain⟨Av,cv,rfl,_,_⟩:=kU hrow;clear hrow hL hsum;have hc:=hv.cell;have hfr:=hv.frozen;have HV:=zH hv;have HKB:=zH hkb;have HB:=zH hB;have HS1:Hid (∀W',Below w.heap.size W W'→W'.cell? (zc (ad.add (j*3)) 1)=some (.slice A1 y.fields.length k1)):=zH (fun W' hW=>(hW.cell (p:=zc (ad.add (j*3)) 1) (by show(ad.add _).block<_;rw[zp];exact hab)).trans s1);have HTL:=zH (Zn hs1.row);have hs2':=hs1.le;have hs3':=hs1.cap;have hNW:N+1≤W.heap.size:=by have:=hkb.1;simp at this;omega
  clear hv hkb hB hs1
  gi_wp2
  have HTLd:Hid (zx W.drew w.heap.size A1 (zI y.fields)):=HTL;have HOd:Hid (W.drew.ownsRow (N+1) 50 2 (.slice Av L.length cv) L.length (zI L)):=HO;have HVd:Hid (Go.Boxed W.drew (w.heap.size+1) 23 (.slice Av L.length cv)):=HV;have HKd:Hid (jD (N+1) (w.heap.size+1) W W.drew):=zH ⟨zn _,fun _ _ _=>rfl⟩;have HBd:Hid (Below w.heap.size W W.drew):=zH (zb w.heap.size W).drew;refine qer hmx (by kernel_rfl) (S:=fun w'=>w'.cell? ⟨w.heap.size,0,none⟩=some (.slice (some ad) m.classes.length h.c0)∧w'.cell? (zc (ad.add (j*3)) 1)=some (.slice A1 y.fields.length k1)) ⟨q0,s1⟩ (fun hHeld=> ?_);refine mT 1 (h:=mT 3 (h:=mT 2 (h:=mT 4 (h:=mT 5 (h:=mT 6 (h:= ?_))))));refine wpAnyH_ready (rs:=[0]) (by kernel_rfl) (by simp) ?_;refine AllReadyH.cons (o:=_) rfl (fun K hK=> ?_) AllReadyH.nil;go_simp;refine hK.out _ _ ⟨q0,s1⟩ (fun hHeld=> ?_);clear hK K;try simp only[sA,sB,sC,Act.put,sD,sE,sF]
  refine wpAnyH_ready (rs:=[7]) (by kernel_rfl) (by simp) ?_;refine AllReadyH.cons (o:=_) rfl (fun K hK=> ?_) AllReadyH.nil
  (refine Jm rfl _ _ 23 rfl (N+1) 50 i0 (.agg #[.int .i64 0,.int .i64 0]) 2 16 Tryz.underlying23 hi hz0 hz1 hz2 rfl (by decide) _ L.length (zI L) rfl HOd.out A1 y.fields.length k1 _ (zI y.fields) (kV _) rfl HTLd.out (kb _) (by unfold maxLen;omega) (by omega) hNW ?_;intro v6 w6 hown hgrow;have hrw:=qu9 HOd.out;have hV6:=HVd.out.kept hgrow (HVd.out.not_row (by decide) HOd.out);have HK6:=zH (HKd.out.grown hgrow hNW (fun r e=> .inl (hrw r e)));have HB6:=zH (HBd.out.grown hgrow (by show w.heap.size≤W.heap.size;omega) (fun r e=>by have:=hrw r e;omega));obtain⟨A6,c6,rfl⟩:=qu8 hown;have HO6:=zH hown;have HV6:=zH hV6;have HN6:=zH (KeepsOthers.of_grownBy hgrow (qnn HOd.out));clear hown hgrow hV6 hrw;have hc6:=HV6.out.cell;have hf6:=HV6.out.frozen;have HK8:=zH (qja HK6.out (.slice A6 (L.length+y.fields.length) c6));have HB8:=zH (HB6.out.setCell (p:=⟨w.heap.size+1,0,none⟩) (by show w.heap.size≤w.heap.size+1;omega) (.slice A6 (L.length+y.fields.length) c6)))
  refine hK.out _ _ ⟨(HK6.out.cell (p:=⟨w.heap.size,0,none⟩) (by show w.heap.size<N+1;omega) (by show w.heap.size≠w.heap.size+1;omega)).trans q0,HS1.out _ HB6.out⟩ (fun hHeld=> ?_);clear hK K;try simp only[sA,sB,sC,Act.put,sD,sE,sF]
  refine wpAnyH_ready (rs:=[8]) (by kernel_rfl) (by simp) ?_;refine AllReadyH.cons (o:=_) rfl (fun K hK=> ?_) AllReadyH.nil;go_simp;refine hK.out _ _ ⟨(HK8.out.cell (p:=⟨w.heap.size,0,none⟩) (by show w.heap.size<N+1;omega) (by show w.heap.size≠w.heap.size+1;omega)).trans q0,HS1.out _ HB8.out⟩ (fun hHeld=> ?_);clear hK K;try simp only[sA,sB,sC,Act.put,sD,sE,sF]
  refine wpAnyH_done (by kernel_rfl) ?_ _;refine VJ.normal ?_
  gi_wp2
  have hrow9:=HO6.out.kept (grownBy_setCell' w6 (w.heap.size+1) (.slice A6 (L.length+y.fields.length) c6)) (.inr (HV6.out.not_row (by decide) HO6.out).symm);refine⟨(((KeepsOthers.drew W).trans HN6.out).trans (KeepsOthers.setCell _ _ _)).from _,HK8.out,⟨_,HV6.out.set _,?_,trivial⟩,HKB.out.trans HK8.out,HB.out.trans HB8.out⟩;rw[HSN.out,HFA.out];unfold zI at hrow9⊢
  rw[Wc,Xt];exact hrow9
 case done=>
  rintro D ys W hD rfl ⟨⟨v,hv,hrow,-⟩,hkb,hB⟩ hK;have hc:=hv.cell
  gi_wp2
  refine⟨by simp,.inl ⟨_,_,rfl,run_takeDeferred hK,?_⟩⟩;rw[qfq,←HFO.out]at hrow;exact⟨_,results_tmp rfl _ _ _,v,rfl,jc (ownsRow_putObj hrow _ hK rfl) (by omega),hB.trans (belowK_b (w:=w) (zn _) W D _ _ (by simp at hD;omega) hK rfl rfl)⟩
 case stop=>
  rintro D c pre W _ _ h _;exact h.elim
theorem qsu{k:Int}{j n cap:Nat}{ad:Addr}{x y:Int}{w:World}(HJ:Hid (k=(j:Int)))(hk:j<n)(hn:n≤9223372036854775807)(hab:ad.block<w.heap.size)
  (r0:w.cell? (ad.add (j*2))=some (.int .i64 x)) (r1:w.cell? (zc (ad.add (j*2)) 1)=some (.int .i64 y)):
  Calls Tryz.prog 206 #[.slice (some ad) n cap,.int .i64 k] w fun e w'=>e= .returned (.tuple #[zA x y,.bool true])∧Below w.heap.size w w':=by
 rw[HJ.out];exact qbv j n cap ad x y w hk hn hab r0 r1
theorem qky(x:zf)(j:Nat)(hj:j<x.args.length)(hx:qh)(w:World)(H:qL w w.heap.size hx x):
  Calls Tryz.prog 195 #[jH hx x,.int .i64 j] w fun e w'=>e= .returned (zA (qm x j).1 (qm x j).2)∧Below w.heap.size w w':=by
 have HW:=zH (((zb w.heap.size w).alloc (zn _) (.cells (zL hx x).toArray 53)).alloc (by simp) (.cells #[.int .i64 0,.int .i64 0] 50));have HQ:=zH (show ze ((w.alloc (.cells (zL hx x).toArray 53)).alloc (.cells #[.int .i64 0,.int .i64 0] 50)) (w.heap.size+1) [.int .i64 0,.int .i64 0] 50 from ze.at_ (by simp) _ _);have HC:=zH ((qa w (zL hx x) 53).keep ((zb _ _).alloc (zn _) (.cells #[.int .i64 0,.int .i64 0] 50)) (by simp));have HM:=zH (H.now HW.out);have h1:=H.args.le;have h2:=H.args.cap;have h3:=H.locals.le;have h4:=H.locals.cap;have hn63:x.args.length≤9223372036854775807:=by omega
 have hl63:x.locals.length≤9223372036854775807:=by omega
 clear H h1 h2 h3 h4;obtain⟨ad,e0,hab,r0,r1⟩:=HM.out.args.row.at_ hj;have HE:=zH e0;rw[qgh hj];generalize x.args[j]=t at*
 clear e0;go_enter Tryz.func195,Tryz.ntmps195;go_upto_region 1 with fail
 generalize(w.alloc (.cells (zL hx x).toArray 53)).alloc (.cells #[.int .i64 0,.int .i64 0] 50)=w1 at*
 have q0:=HC.out 0 _ rfl;have q1:=HC.out 1 _ rfl;try rw[HE.out]at q0
 try rw[HE1.out]at q1
 have hlt:=HQ.out.lt;clear HC;go_wp2_with(go_at_call 206;(with_reducible refine(qbv j x.args.length hx.k0 ad t.1 t.2 w1 hj hn63 hab r0 r1).mono ?_);rintro e w2 ⟨rfl,hb⟩;have HB2:=zH hb;have HQ2:=zH (HQ.out.keep hb hlt);have c0:=HQ2.out.cells 0 _ rfl;have c1:=HQ2.out.cells 1 _ rfl;have f0:=HQ2.out.free 0;have f1:=HQ2.out.free 1;have hlt2:=HQ2.out.lt;clear hb)
 have HQ3a:=(HQ2.out.set 0 (.int .i64 t.1)).set 1 (.int .i64 t.2);have HB3:=zH ((HB2.out.mono HW.out.size).setCell (p:=⟨w.heap.size+1,0,none⟩) (by show w.heap.size≤w.heap.size+1;omega) (.int .i64 t.1)|>.setCell (p:=⟨w.heap.size+1,1,none⟩) (by show w.heap.size≤w.heap.size+1;omega) (.int .i64 t.2));have HQ3:=zH (ze.keep HQ3a ((zb _ _).alloc (zn _) (.cells #[.int .i64 t.1,.int .i64 t.2] 50)) HQ3a.lt);have d0:=HQ3.out.cells 0 _ rfl;have d1:=HQ3.out.cells 1 _ rfl;exact Xn (v:=zA t.1 t.2) (by simp[results,Tryz.results195,go_sem,d0,d1]) rfl ⟨rfl,HW.out.trans (HB3.out.alloc (Xg HW.out.size HB3.out.size) _)⟩
theorem qkx(x:zf)(n:Int)(hn:n<0)(hx:qh)(w:World)(H:qL w w.heap.size hx x):
  Calls Tryz.prog 195 #[jH hx x,.int .i64 n] w fun e w'=>e= .returned (zA (qm x n).1 (qm x n).2)∧Below w.heap.size w w':=by
 have HW:=zH (((zb w.heap.size w).alloc (zn _) (.cells (zL hx x).toArray 53)).alloc (by simp) (.cells #[.int .i64 0,.int .i64 0] 50));have HQ:=zH (show ze ((w.alloc (.cells (zL hx x).toArray 53)).alloc (.cells #[.int .i64 0,.int .i64 0] 50)) (w.heap.size+1) [.int .i64 0,.int .i64 0] 50 from ze.at_ (by simp) _ _);have HC:=zH ((qa w (zL hx x) 53).keep ((zb _ _).alloc (zn _) (.cells #[.int .i64 0,.int .i64 0] 50)) (by simp));have HM:=zH (H.now HW.out);have h1:=H.args.le;have h2:=H.args.cap;have h3:=H.locals.le;have h4:=H.locals.cap;have hn63:x.args.length≤9223372036854775807:=by omega
 have hl63:x.locals.length≤9223372036854775807:=by omega
 clear H h1 h2 h3 h4;have hno:n<0∨(x.args.length:Int)≤n:= .inl hn;have hlt0:n<(x.args.length:Int):=by omega
 rw[qgg hn];clear hn;go_enter Tryz.func195,Tryz.ntmps195;go_upto_region 1 with fail
 generalize(w.alloc (.cells (zL hx x).toArray 53)).alloc (.cells #[.int .i64 0,.int .i64 0] 50)=w1 at*
 have q0:=HC.out 0 _ rfl;have q1:=HC.out 1 _ rfl;try rw[HE.out]at q0
 try rw[HE1.out]at q1
 have hlt:=HQ.out.lt;clear HC;go_wp2_with(go_at_call 206;(with_reducible refine(qdd n x.args.length hx.k0 hx.A0 w1 hn63 hno).mono ?_);rintro e w2 ⟨rfl,hb⟩;have HB2:=zH hb;have HQ2:=zH (HQ.out.keep hb hlt);have c0:=HQ2.out.cells 0 _ rfl;have c1:=HQ2.out.cells 1 _ rfl;have f0:=HQ2.out.free 0;have f1:=HQ2.out.free 1;have hlt2:=HQ2.out.lt;clear hb)
 have HQ3a:=(HQ2.out.set 0 (.int .i64 ((0:Int),(0:Int)).1)).set 1 (.int .i64 ((0:Int),(0:Int)).2);have HB3:=zH ((HB2.out.mono HW.out.size).setCell (p:=⟨w.heap.size+1,0,none⟩) (by show w.heap.size≤w.heap.size+1;omega) (.int .i64 ((0:Int),(0:Int)).1)|>.setCell (p:=⟨w.heap.size+1,1,none⟩) (by show w.heap.size≤w.heap.size+1;omega) (.int .i64 ((0:Int),(0:Int)).2));have HQ3:=zH (ze.keep HQ3a ((zb _ _).alloc (zn _) (.cells #[.int .i64 ((0:Int),(0:Int)).1,.int .i64 ((0:Int),(0:Int)).2] 50)) HQ3a.lt);have d0:=HQ3.out.cells 0 _ rfl;have d1:=HQ3.out.cells 1 _ rfl;exact Xn (v:=zA ((0:Int),(0:Int)).1 ((0:Int),(0:Int)).2) (by simp[results,Tryz.results195,go_sem,d0,d1]) rfl ⟨rfl,HW.out.trans (HB3.out.alloc (Xg HW.out.size HB3.out.size) _)⟩
theorem qft(x:zf)(n:Int)(hlt0:(x.args.length:Int)≤n)(hn:n<(x.args.length:Int)+x.locals.length)(hs:n≤9223372036854775807)(hx:qh)(w:World)(H:qL w w.heap.size hx x):
  Calls Tryz.prog 195 #[jH hx x,.int .i64 n] w fun e w'=>e= .returned (zA (qm x n).1 (qm x n).2)∧Below w.heap.size w w':=by
 have HW:=zH (((zb w.heap.size w).alloc (zn _) (.cells (zL hx x).toArray 53)).alloc (by simp) (.cells #[.int .i64 0,.int .i64 0] 50));have HQ:=zH (show ze ((w.alloc (.cells (zL hx x).toArray 53)).alloc (.cells #[.int .i64 0,.int .i64 0] 50)) (w.heap.size+1) [.int .i64 0,.int .i64 0] 50 from ze.at_ (by simp) _ _);have HC:=zH ((qa w (zL hx x) 53).keep ((zb _ _).alloc (zn _) (.cells #[.int .i64 0,.int .i64 0] 50)) (by simp));have HM:=zH (H.now HW.out);have h1:=H.args.le;have h2:=H.args.cap;have h3:=H.locals.le;have h4:=H.locals.cap;have hn63:x.args.length≤9223372036854775807:=by omega
 have hl63:x.locals.length≤9223372036854775807:=by omega
 clear H h1 h2 h3 h4;obtain⟨j,hj⟩:=Xm (show 0≤n - (x.args.length:Int)by omega);have hjl:j<x.locals.length:=by omega
 have HJ:=zH hj;have e2:n=((x.args.length+j:Nat):Int):=by omega
 obtain⟨ad,e0,hab,r0,r1⟩:=HM.out.locals.row.at_ hjl;have HE1:=zH e0;have e3:qm x n=x.locals[j]:=by rw[e2];exact qf6 hjl
 rw[e3];generalize x.locals[j]=t at*
 clear e0 hj e2 e3;go_enter Tryz.func195,Tryz.ntmps195;go_upto_region 1 with fail
 generalize(w.alloc (.cells (zL hx x).toArray 53)).alloc (.cells #[.int .i64 0,.int .i64 0] 50)=w1 at*
 have q0:=HC.out 0 _ rfl;have q1:=HC.out 1 _ rfl;try rw[HE.out]at q0
 try rw[HE1.out]at q1
 have hlt:=HQ.out.lt;clear HC;go_wp2_with(go_at_call 206;(with_reducible refine(qsu HJ hjl hl63 hab r0 r1).mono ?_);rintro e w2 ⟨rfl,hb⟩;have HB2:=zH hb;have HQ2:=zH (HQ.out.keep hb hlt);have c0:=HQ2.out.cells 0 _ rfl;have c1:=HQ2.out.cells 1 _ rfl;have f0:=HQ2.out.free 0;have f1:=HQ2.out.free 1;have hlt2:=HQ2.out.lt;clear hb)
 have HQ3a:=(HQ2.out.set 0 (.int .i64 t.1)).set 1 (.int .i64 t.2);have HB3:=zH ((HB2.out.mono HW.out.size).setCell (p:=⟨w.heap.size+1,0,none⟩) (by show w.heap.size≤w.heap.size+1;omega) (.int .i64 t.1)|>.setCell (p:=⟨w.heap.size+1,1,none⟩) (by show w.heap.size≤w.heap.size+1;omega) (.int .i64 t.2));have HQ3:=zH (ze.keep HQ3a ((zb _ _).alloc (zn _) (.cells #[.int .i64 t.1,.int .i64 t.2] 50)) HQ3a.lt);have d0:=HQ3.out.cells 0 _ rfl;have d1:=HQ3.out.cells 1 _ rfl;exact Xn (v:=zA t.1 t.2) (by simp[results,Tryz.results195,go_sem,d0,d1]) rfl ⟨rfl,HW.out.trans (HB3.out.alloc (Xg HW.out.size HB3.out.size) _)⟩
theorem qh1(x:zf)(n:Int)(hn:(x.args.length:Int)+x.locals.length≤n)(hs:n≤9223372036854775807)(hx:qh)(w:World)(H:qL w w.heap.size hx x):
  Calls Tryz.prog 195 #[jH hx x,.int .i64 n] w fun e w'=>e= .returned (zA (qm x n).1 (qm x n).2)∧Below w.heap.size w w':=by
 have HW:=zH (((zb w.heap.size w).alloc (zn _) (.cells (zL hx x).toArray 53)).alloc (by simp) (.cells #[.int .i64 0,.int .i64 0] 50));have HQ:=zH (show ze ((w.alloc (.cells (zL hx x).toArray 53)).alloc (.cells #[.int .i64 0,.int .i64 0] 50)) (w.heap.size+1) [.int .i64 0,.int .i64 0] 50 from ze.at_ (by simp) _ _);have HC:=zH ((qa w (zL hx x) 53).keep ((zb _ _).alloc (zn _) (.cells #[.int .i64 0,.int .i64 0] 50)) (by simp));have HM:=zH (H.now HW.out);have h1:=H.args.le;have h2:=H.args.cap;have h3:=H.locals.le;have h4:=H.locals.cap;have hn63:x.args.length≤9223372036854775807:=by omega
 have hl63:x.locals.length≤9223372036854775807:=by omega
 clear H h1 h2 h3 h4;have hno:n - (x.args.length:Int)<0∨(x.locals.length:Int)≤n - (x.args.length:Int):=by omega
 rw[qfn hn];have hlt0:(x.args.length:Int)≤n:=by omega
 go_enter Tryz.func195,Tryz.ntmps195;go_upto_region 1 with fail
 generalize(w.alloc (.cells (zL hx x).toArray 53)).alloc (.cells #[.int .i64 0,.int .i64 0] 50)=w1 at*
 have q0:=HC.out 0 _ rfl;have q1:=HC.out 1 _ rfl;try rw[HE.out]at q0
 try rw[HE1.out]at q1
 have hlt:=HQ.out.lt;clear HC;go_wp2_with(go_at_call 206;(with_reducible refine(qdd (n - (x.args.length:Int)) x.locals.length hx.k1 hx.A1 w1 hl63 hno).mono ?_);rintro e w2 ⟨rfl,hb⟩;have HB2:=zH hb;have HQ2:=zH (HQ.out.keep hb hlt);have c0:=HQ2.out.cells 0 _ rfl;have c1:=HQ2.out.cells 1 _ rfl;have f0:=HQ2.out.free 0;have f1:=HQ2.out.free 1;have hlt2:=HQ2.out.lt;clear hb)
 have HQ3a:=(HQ2.out.set 0 (.int .i64 ((0:Int),(0:Int)).1)).set 1 (.int .i64 ((0:Int),(0:Int)).2);have HB3:=zH ((HB2.out.mono HW.out.size).setCell (p:=⟨w.heap.size+1,0,none⟩) (by show w.heap.size≤w.heap.size+1;omega) (.int .i64 ((0:Int),(0:Int)).1)|>.setCell (p:=⟨w.heap.size+1,1,none⟩) (by show w.heap.size≤w.heap.size+1;omega) (.int .i64 ((0:Int),(0:Int)).2));have HQ3:=zH (ze.keep HQ3a ((zb _ _).alloc (zn _) (.cells #[.int .i64 ((0:Int),(0:Int)).1,.int .i64 ((0:Int),(0:Int)).2] 50)) HQ3a.lt);have d0:=HQ3.out.cells 0 _ rfl;have d1:=HQ3.out.cells 1 _ rfl;exact Xn (v:=zA ((0:Int),(0:Int)).1 ((0:Int),(0:Int)).2) (by simp[results,Tryz.results195,go_sem,d0,d1]) rfl ⟨rfl,HW.out.trans (HB3.out.alloc (Xg HW.out.size HB3.out.size) _)⟩
theorem qkz(x:zf)(n:Int)(hs:n≤9223372036854775807)(hx:qh)(w:World)(H:qL w w.heap.size hx x):
  Calls Tryz.prog 195 #[jH hx x,.int .i64 n] w fun e w'=>e= .returned (zA (qm x n).1 (qm x n).2)∧Below w.heap.size w w':=by
 by_cases h0:n<0
 ·exact qkx x n h0 hx w H
 ·by_cases h1:n<x.args.length
  ·obtain⟨j,rfl⟩:=Xm (show 0≤n by omega);exact qky x j (by omega) hx w H
  ·by_cases h2:n<(x.args.length:Int)+x.locals.length
   ·exact qft x n (by omega) h2 hs hx w H
   ·exact qh1 x n (by omega) hs hx w H
section
variable{m:za}{h:zg}{w0 w:World}{c:Int}
theorem qgy{L:List (Int×Int)}(HI:Hid (zi w0 w0.heap.size h m))(HX:Hid (Below w0.heap.size w0 w))(HL:Hid (zV m.classes c=L))(hn:m.classes.length≤1000)(HF:Hid (∀x ∈m.classes,x.fields.length≤1000)):
  Calls Tryz.prog 197 #[zk h m,.int .i64 c] w (QX L w):=by
 have H:=q8a m c h w (HI.out.now HX.out) hn HF.out;rw[HL.out]at H;exact H
end
theorem qp5(m:za)(c:Int)(h:zg)(w:World)(H:zi w w.heap.size h m)(hn:m.classes.length≤1000)(hf:∀x ∈m.classes,x.fields.length≤1000):
  Calls Tryz.prog 187 #[zk h m,.int .i64 c] w fun e w'=>e= .returned (.int .i64 (1+((zV m.classes c).length:Int)))∧Below w.heap.size w w':=by
 have HW:=zH ((zb w.heap.size w).alloc (zn _) (zo h m));have HIM:=zH (H.now HW.out);have HBX:=zH (zX w h m);have HF:=zH hf;have hL:=VN hf hn c;obtain⟨L,e⟩:∃L,zV m.classes c=L:=⟨_,rfl⟩
 rw[e]at hL⊢
 have HL:=zH e;clear e hf H;go_enter Tryz.func187,Tryz.ntmps187;go_upto_region 1 with fail
 generalize w.alloc (zo h m)=w1 at*
 obtain⟨q0,q1,q2,q3,q4,q5,q6⟩:=HBX.out;go_wp2_with(go_at_call 197;(with_reducible refine(qgy HIM (zH (zb _ _)) HL hn HF).mono ?_);rintro e w2 ⟨v2,rfl,ho,hb⟩;have HB2:=zH hb;obtain⟨A2,c2,rfl,hl2,_⟩:=kU ho;clear hb ho hl2)
 go_ret;exact⟨by first|rfl|simp,HW.out.trans (HB2.out.mono HW.out.size)⟩
theorem qb7{P:Prop}(h:P:=by
 have e:ofO n=none:=by unfold ofO;rw[Xa];intro g;have:=JY.mp g;omega
 rw[e];clear e;go_enter Tryz.func95,Tryz.ntmps95;go_wp2_with fail
 have hz:=ze.new w [.int .i64 0,.bool true] 150;have k0:=hz.cells 0 _ rfl;have k1:=hz.cells 1 _ rfl;refine Xn (v:=jq none) (by simp[results,Tryz.results95,go_sem,k0,k1]) rfl ⟨rfl,?_⟩;exact(zb w.heap.size w).alloc (zn _) _):P:=h
theorem of_any(n:Int)(w:World):Calls Tryz.prog 95 #[.int .i64 n] w fun e w'=>e= .returned (jq (ofO n))∧Below w.heap.size w w':=by
 by_cases h1:n≤ -4611686018427387904
 ·exact qb7
 by_cases h2:n ≥ 4611686018427387904
 ·exact qb7
 ·have e:ofO n=some n:=by unfold ofO;rw[Xb];exact JY.mpr (by omega)
  rw[e];clear e;go_enter Tryz.func95,Tryz.ntmps95;go_wp2_with fail
  have hz:=ze.new w [.int .i64 n,.bool false] 150;have k0:=hz.cells 0 _ rfl;have k1:=hz.cells 1 _ rfl;refine Xn (v:=jq (some n)) (by simp[results,Tryz.results95,go_sem,k0,k1]) rfl ⟨rfl,?_⟩;exact(zb w.heap.size w).alloc (zn _) _
theorem Yo{n:Int}{r:Option Int}{w:World}(HR:Hid (ofO n=r)):Calls Tryz.prog 95 #[.int .i64 n] w fun e w'=>e= .returned (jq r)∧Below w.heap.size w w':=by
 have H:=of_any n w;rw[HR.out]at H;exact H
set_option maxHeartbeats 800000 in
theorem qr1(a b:Option Int)(ha:vO a)(hb:vO b)(w:World):Calls Tryz.prog 94 #[jq a,jq b] w fun e w'=>e= .returned (jq (QQ a b))∧Below w.heap.size w w':=by
 cases a with
 |none=>
  have e:QQ none b=none:=by cases b<;>rfl
  rw[e];show Calls Tryz.prog 94 #[.agg #[.int .i64 0,.bool true],.agg #[.int .i64 (b.getD 0),.bool b.isNone]] w _;generalize b.getD 0=y;generalize b.isNone=yb;go_enter Tryz.func94,Tryz.ntmps94;go_wp2_with fail
  have hz:=ze.at_ (w:=(w.alloc (.cells #[.int .i64 0,.bool true] 150)).alloc (.cells #[.int .i64 y,.bool yb] 150)) (N:=w.heap.size+1+1) (by simp) [.int .i64 0,.bool true] 150;have k0:=hz.cells 0 _ rfl;have k1:=hz.cells 1 _ rfl;refine Xn (v:=jq none) (by simp[results,Tryz.results94,go_sem,k0,k1]) rfl ⟨rfl,?_⟩;exact(((zb w.heap.size w).alloc (zn _) _).alloc (by simp) _).alloc (by simp;omega) _
 |some x=>cases b with
  |none=>
   show Calls Tryz.prog 94 #[.agg #[.int .i64 x,.bool false],.agg #[.int .i64 0,.bool true]] w (fun e w'=>e= .returned (jq none)∧Below w.heap.size w w');go_enter Tryz.func94,Tryz.ntmps94;go_wp2_with fail
   have hz:=ze.at_ (w:=(w.alloc (.cells #[.int .i64 x,.bool false] 150)).alloc (.cells #[.int .i64 0,.bool true] 150)) (N:=w.heap.size+1+1) (by simp) [.int .i64 0,.bool true] 150;have k0:=hz.cells 0 _ rfl;have k1:=hz.cells 1 _ rfl;refine Xn (v:=jq none) (by simp[results,Tryz.results94,go_sem,k0,k1]) rfl ⟨rfl,?_⟩;exact(((zb w.heap.size w).alloc (zn _) _).alloc (by simp) _).alloc (by simp;omega) _
  |some y=>
   have h1:=JY.mp (ha x rfl);have h2:=JY.mp (hb y rfl);have hw:IntKind.i64.wrap (x+y)=x+y:=IntWalk.i64_in _ (by omega);show Calls Tryz.prog 94 #[.agg #[.int .i64 x,.bool false],.agg #[.int .i64 y,.bool false]] w (fun e w'=>e= .returned (jq (ofO (x+y)))∧Below w.heap.size w w');obtain⟨r,hr⟩:∃r,ofO (x+y)=r:=⟨_,rfl⟩
   have HR:=zH hr;rw[hr];clear hr ha hb;go_enter Tryz.func94,Tryz.ntmps94;go_wp2_with(first|(go_at_call 95;(with_reducible refine(Yo HR).mono ?_);rintro e w9 ⟨rfl,hb⟩;have hW:=(ze.at_ (w:=_) (N:=w.heap.size+1+1) (by simp) [.int .i64 0,.bool false] 150).keep hb (by simp);have HW:=zH hW;have z0:=hW.cells 0 _ rfl;have z1:=hW.cells 1 _ rfl;have f0:=hW.free 0;have f1:=hW.free 1;have HB:=zH ((((((zb w.heap.size w).alloc (zn _) _).alloc (by simp) _).alloc (by simp;omega) _).trans (hb.mono (by simp;omega))));clear hb hW))
   have hz:=(HW.out.set 0 (.int .i64 (r.getD 0))).set 1 (.bool r.isNone);have k0:=hz.cells 0 _ rfl;have k1:=hz.cells 1 _ rfl;refine Xn (v:=jq r) (by simp[results,Tryz.results94,go_sem,k0,k1]) rfl ⟨rfl,?_⟩;exact(HB.out.setCell (p:=⟨w.heap.size+1+1,0,none⟩) (by simp;omega) _).setCell (p:=⟨w.heap.size+1+1,1,none⟩) (by simp;omega) _
theorem qu7{a b r:Option Int}{w:World}(HA:Hid (vO a))(HB:Hid (vO b))(HR:Hid (QQ a b=r)):Calls Tryz.prog 94 #[jq a,jq b] w fun e w'=>e= .returned (jq r)∧Below w.heap.size w w':=by
 have H:=qr1 a b HA.out HB.out w;rw[HR.out]at H;exact H
set_option maxHeartbeats 800000 in
theorem qlx(a b:Option Int)(ha:vO a)(hb:vO b)(w:World):Calls Tryz.prog 96 #[jq a,jq b] w fun e w'=>e= .returned (jq (ZC a b))∧Below w.heap.size w w':=by
 cases a with
 |none=>
  have e:ZC none b=none:=by cases b<;>rfl
  rw[e];show Calls Tryz.prog 96 #[.agg #[.int .i64 0,.bool true],.agg #[.int .i64 (b.getD 0),.bool b.isNone]] w _;generalize b.getD 0=y;generalize b.isNone=yb;go_enter Tryz.func96,Tryz.ntmps96;go_wp2_with fail
  have hz:=ze.at_ (w:=(w.alloc (.cells #[.int .i64 0,.bool true] 150)).alloc (.cells #[.int .i64 y,.bool yb] 150)) (N:=w.heap.size+1+1) (by simp) [.int .i64 0,.bool true] 150;have k0:=hz.cells 0 _ rfl;have k1:=hz.cells 1 _ rfl;refine Xn (v:=jq none) (by simp[results,Tryz.results96,go_sem,k0,k1]) rfl ⟨rfl,?_⟩;exact(((zb w.heap.size w).alloc (zn _) _).alloc (by simp) _).alloc (by simp;omega) _
 |some x=>cases b with
  |none=>
   show Calls Tryz.prog 96 #[.agg #[.int .i64 x,.bool false],.agg #[.int .i64 0,.bool true]] w (fun e w'=>e= .returned (jq none)∧Below w.heap.size w w');go_enter Tryz.func96,Tryz.ntmps96;go_wp2_with fail
   have hz:=ze.at_ (w:=(w.alloc (.cells #[.int .i64 x,.bool false] 150)).alloc (.cells #[.int .i64 0,.bool true] 150)) (N:=w.heap.size+1+1) (by simp) [.int .i64 0,.bool true] 150;have k0:=hz.cells 0 _ rfl;have k1:=hz.cells 1 _ rfl;refine Xn (v:=jq none) (by simp[results,Tryz.results96,go_sem,k0,k1]) rfl ⟨rfl,?_⟩;exact(((zb w.heap.size w).alloc (zn _) _).alloc (by simp) _).alloc (by simp;omega) _
  |some y=>
   have HX:=zH (ha x rfl);have HY:=zH (hb y rfl);show Calls Tryz.prog 96 #[.agg #[.int .i64 x,.bool false],.agg #[.int .i64 y,.bool false]] w (fun e w'=>e= .returned (jq (ofO (x*y)))∧Below w.heap.size w w');obtain⟨n,hn⟩:∃n,IntKind.i64.wrap (x*y)=n:=⟨_,rfl⟩
   clear ha hb;by_cases h0:y=0
   ·have hd:(y !=0)=false:=by simp[h0]
    have hr:ofO (x*y)=some 0:=by rw[h0,Int.mul_zero];rfl
    have hn0:n=0:=by rw[←hn,h0,Int.mul_zero];rfl
    have HR:Hid (ofO n=some 0):=zH (by rw[hn0];rfl);rw[hr];clear hr hn0 h0;go_enter Tryz.func96,Tryz.ntmps96;go_upto_region 4 with fail
    go_quiet (fail)
    go_wp2_with(first|(go_at_call 95;(with_reducible refine(Yo HR).mono ?_);rintro e w9 ⟨rfl,hb⟩;have hW:=((ze.at_ (w:=_) (N:=w.heap.size+1+1) (by simp) [.int .i64 0,.bool false] 150).keep (qZ (zb (w.heap.size+1+1+1) _) _) (by simp)).keep hb (by simp);have HW:=zH hW;have z0:=hW.cells 0 _ rfl;have z1:=hW.cells 1 _ rfl;have f0:=hW.free 0;have f1:=hW.free 1;have HB:=zH ((qZ (((((zb w.heap.size w).alloc (zn _) _).alloc (by simp) _).alloc (by simp;omega) _)) _).trans (hb.mono (by simp;omega)));clear hb hW))
    have hz:=(HW.out.set 0 (.int .i64 0)).set 1 (.bool false);have k0:=hz.cells 0 _ rfl;have k1:=hz.cells 1 _ rfl;refine Xn (v:=jq (some 0)) (by simp[results,Tryz.results96,go_sem,k0,k1]) rfl ⟨rfl,?_⟩;exact(HB.out.setCell (p:=⟨w.heap.size+1+1,0,none⟩) (by simp;omega) _).setCell (p:=⟨w.heap.size+1+1,1,none⟩) (by simp;omega) _
   ·have hd:(y !=0)=true:=by simp[h0]
    have⟨hq,_⟩:=qbz HX.out HY.out h0 hn;have⟨hp1,hp2⟩:=qri HX.out HY.out h0 hn;obtain⟨q,hqv⟩:∃q,Int.tdiv n y=q:=⟨_,rfl⟩
    rw[hqv]at hq hp1 hp2;have hwq:IntKind.i64.wrap q=q:=IntWalk.i64_in _ (by omega);by_cases hqx:q=x
    ·have hb:(q !=x)=false:=by simp[hqx]
     have hnx:ofO (x*y)=ofO n:=by rw[hp2 hqx]
     obtain⟨r,hr⟩:∃r,ofO n=r:=⟨_,rfl⟩
     rw[hnx,hr];have HR:=zH hr;have HQ:=zH hqx;clear hr hnx hp1 hp2 hqx;go_enter Tryz.func96,Tryz.ntmps96;go_upto_region 4 with fail
     go_quiet (fail)
     go_wp2_with(first|(go_at_call 95;(with_reducible refine(Yo HR).mono ?_);rintro e w9 ⟨rfl,hb⟩;have hW:=((ze.at_ (w:=_) (N:=w.heap.size+1+1) (by simp) [.int .i64 0,.bool false] 150).keep (qZ (zb (w.heap.size+1+1+1) _) _) (by simp)).keep hb (by simp);have HW:=zH hW;have z0:=hW.cells 0 _ rfl;have z1:=hW.cells 1 _ rfl;have f0:=hW.free 0;have f1:=hW.free 1;have HB:=zH ((qZ (((((zb w.heap.size w).alloc (zn _) _).alloc (by simp) _).alloc (by simp;omega) _)) _).trans (hb.mono (by simp;omega)));clear hb hW))
     have hz:=(HW.out.set 0 (.int .i64 (r.getD 0))).set 1 (.bool r.isNone);have k0:=hz.cells 0 _ rfl;have k1:=hz.cells 1 _ rfl;refine Xn (v:=jq r) (by simp[results,Tryz.results96,go_sem,k0,k1]) rfl ⟨rfl,?_⟩;exact(HB.out.setCell (p:=⟨w.heap.size+1+1,0,none⟩) (by simp;omega) _).setCell (p:=⟨w.heap.size+1+1,1,none⟩) (by simp;omega) _
    ·have hb:(q !=x)=true:=by simp[hqx]
     have hr:ofO (x*y)=none:=by unfold ofO;rw[hp1 hqx];rfl
     rw[hr];clear hr hp1 hp2 hqx;go_enter Tryz.func96,Tryz.ntmps96;go_upto_region 4 with fail
     go_quiet (fail)
     go_wp2_with fail
     have hz:=(((ze.at_ (w:=(w.alloc (.cells #[.int .i64 x,.bool false] 150)).alloc (.cells #[.int .i64 y,.bool false] 150)) (N:=w.heap.size+1+1) (by simp) [.int .i64 0,.bool false] 150).keep (qZ (zb (w.heap.size+1+1+1) _) nq) (by simp)).set 0 (.int .i64 0)).set 1 (.bool true);have k0:=hz.cells 0 _ rfl;have k1:=hz.cells 1 _ rfl;refine Xn (v:=jq none) (by simp[results,Tryz.results96,go_sem,k0,k1]) rfl ⟨rfl,?_⟩;exact((qZ (((((zb w.heap.size w).alloc (zn _) _).alloc (by simp) _).alloc (by simp;omega) _)) _).setCell (p:=⟨w.heap.size+1+1,0,none⟩) (by simp;omega) _).setCell (p:=⟨w.heap.size+1+1,1,none⟩) (by simp;omega) _
theorem q2f{a b r:Option Int}{w:World}(HA:Hid (vO a))(HB:Hid (vO b))(HR:Hid (ZC a b=r)):Calls Tryz.prog 96 #[jq a,jq b] w fun e w'=>e= .returned (jq r)∧Below w.heap.size w w':=by
 have H:=qlx a b HA.out HB.out w;rw[HR.out]at H;exact H
def putI(op a b:Int):List Int:=jw op.toNat++((if 0<qJ op then jw a.toNat else [])++(if 1<qJ op then jw b.toNat else []))
def Rd(w:World)(N:Nat)(rest:List Int)(bad:Bool):Prop:=
 ∃(A:Option Addr) (cap:Nat) (xs:List Int),w.heap[N]? =some (.cells #[.slice A xs.length cap,.bool bad] 171 (0,0))∧zx w N A (xs.map (Value.int .u8))∧xs.length≤cap∧cap≤9223372036854775807∧(bad=false→xs=rest)
theorem Rd.lt{w:World}{N:Nat}{rest:List Int}{bad:Bool}(h:Rd w N rest bad):N<w.heap.size:=by
 obtain⟨A,cap,xs,hh,_⟩:=h;exact lt_of_block hh
theorem Rd.keep{w w':World}{N:Nat}{rest:List Int}{bad:Bool}(h:Rd w N rest bad)(hb:Below w.heap.size w w'):Rd w' N rest bad:=by
 have hlt:=h.lt;obtain⟨A,cap,xs,hh,hl,h1,h2,h3⟩:=h;exact⟨A,cap,xs,by rw[hb.block N hlt];exact hh,hl.below_to hb (by omega),h1,h2,h3⟩
theorem Rd.more{w:World}{N:Nat}{rest rest':List Int}(h:Rd w N rest true):Rd w N rest' true:=by
 obtain⟨A,cap,xs,hh,hl,h1,h2,h3⟩:=h;exact⟨A,cap,xs,hh,hl,h1,h2,fun h=>by cases h⟩
def ZV(N:Nat)(w w':World):Prop:=w'.heap.size=w.heap.size∧∀b,b≠N→w'.heap[b]? =w.heap[b]?
theorem ZV.refl(N:Nat)(w:World):ZV N w w:=⟨rfl,fun _ _=>rfl⟩
theorem ZV.trans{N:Nat}{w w1 w2:World}(h:ZV N w w1)(g:ZV N w1 w2):ZV N w w2:=⟨g.1.trans h.1,fun b hb=>(g.2 b hb).trans (h.2 b hb)⟩
theorem ZV.setCell{N:Nat}{w w1:World}(h:ZV N w w1)(i:Nat)(v:Value):ZV N w (w1.setCell ⟨N,i,none⟩ v):=by
 refine⟨by simpa using h.1,fun b hb=>Eq.trans ?_ (h.2 b hb)⟩;show(w1.heap.modify N _)[b]? =_;rw[Array.getElem?_modify,Xa (fun g=>hb g.symm)]
theorem ZV.cell{N:Nat}{w w':World}(h:ZV N w w'){p:Addr}(hp:p.block≠N):w'.cell? p=w.cell? p:=by
 have e:=h.2 p.block hp;simp[World.cell?,e]
theorem ZV.frozen{N:Nat}{w w':World}(h:ZV N w w'){p:Addr}(hp:p.block≠N):w'.frozen? p=w.frozen? p:=by
 have e:=h.2 p.block hp;simp[World.frozen?,e]
section
variable{w:World}{N B:Nat}{rest rest':List Int}{bad bad':Bool}{n most:Int}
end
end Go.Proofs.YtcmiljnbmgkdnaaGreat
