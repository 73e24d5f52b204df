import Derived.Test.YtcmiljnbmgkdnaaGreatFB05
namespace Go.Proofs.YtcmiljnbmgkdnaaGreat
set_option maxRecDepth 100000
set_option linter.unusedVariables false
set_option linter.unusedSimpArgs false
open Go.ChangeShapes Go.WideShapes Go.ChangeAt Go.RowKit
def q1s(sup:List Int)(a b m:Int):Prop:=
 (m= -1∧∀x ∈zv sup a,x ∉zv sup b)∨(0≤m∧m ∈zv sup a∧m ∈zv sup b∧∀y ∈zv sup a,y ∈zv sup b→y≤m)
def q0i(sup:List Int)(a b c d:Int):Prop:=∀x,x ∈zv sup a∧x ∈zv sup b↔x ∈zv sup c∧x ∈zv sup d
theorem qia{sup:List Int}{a b c d:Int}(h:q0i sup a b c d)(h0:0≤c)(h1:c<sup.length)(hdc:d<c):q0i sup a b (jH sup c) d:=fun x=>by
 rw[h x,q19 h0 h1,XA];constructor
 ·rintro⟨rfl|g,g2⟩
  ·have:=vP g2;omega
  ·exact⟨g,g2⟩
 ·rintro⟨g,g2⟩;exact⟨.inr g,g2⟩
theorem qgq{sup:List Int}{a b c d:Int}(h:q0i sup a b c d)(h0:0≤d)(h1:d<sup.length)(hdc:c<d):q0i sup a b c (jH sup d):=fun x=>by
 rw[h x,q19 h0 h1,XA];constructor
 ·rintro⟨g2,rfl|g⟩
  ·have:=vP g2;omega
  ·exact⟨g2,g⟩
 ·rintro⟨g,g2⟩;exact⟨g,.inr g2⟩
theorem qi9{sup:List Int}{a b c:Int}(h:q0i sup a b c c)(h0: -1≤c)(h1:c<sup.length):q1s sup a b c:=by
 by_cases hc:0≤c
 ·have g:=(h c).mpr ⟨VJ hc h1,VJ hc h1⟩;exact .inr ⟨hc,g.1,g.2,fun y g1 g2=>(vP ((h y).mp ⟨g1,g2⟩).1).2.1⟩
 ·exact .inl ⟨by omega,fun x g1 g2=>by have:=vP ((h x).mp ⟨g1,g2⟩).1;omega⟩
theorem qox(sup:List Int)(a b:Int)(A:Option Addr)(cap B:Nat)(w:World)(hl:sup.length≤1048576)(hB:B≤w.heap.size)(h:qY w B A sup):
  Calls Tryz.prog 186 #[.slice A sup.length cap,.int .i64 a,.int .i64 b] w fun e w'=>(∃m,e= .returned (.int .i64 m)∧q1s sup a b m)∧w=w':=by
 have HS:=zH h;clear h;by_cases ha:kU sup a=true
 ·by_cases hb:kU sup b=true
  ·obtain⟨a0,a1⟩:=q2m ha;obtain⟨b0,b1⟩:=q2m hb;have HA:=zH ha;have HB:=zH hb;clear ha hb;go_enter Tryz.func186,Tryz.ntmps186;go_wp2_with(first
    |(go_at_call 199;(with_reducible refine(QQ sup a A cap w hl).mono ?_);rintro e w' ⟨he,rfl⟩;rw[HA.out]at he;subst he)
    |(go_at_call 199;(with_reducible refine(QQ sup b A cap w hl).mono ?_);rintro e w' ⟨he,rfl⟩;rw[HB.out]at he;subst he))
   go_loop [1,2] (fun i j=>∃c d:Int,i= .int .i64 c∧j= .int .i64 d∧ -1≤c∧c<sup.length∧ -1≤d∧d<sup.length∧q0i sup a b c d) (fun i j=>(intOf i+1).toNat+(intOf j+1).toNat)
   case atStart=>exact⟨a,b,rfl,rfl,by omega,a1,by omega,b1,fun _=>Iff.rfl⟩
   case round=>
    obtain⟨c,d,rfl,rfl,c0,c1,d0,d1,hn⟩:=hrel;have HN:=zH hn;clear hn;have hs:=q0r sup c;have ht:=q0r sup d;by_cases hcd:c=d
    ·subst hcd;have R:=zH (qi9 HN.out c0 c1);clear HN hs ht;go_wp2_with fail
     go_ret;exact⟨⟨_,rfl,R.out⟩,rfl⟩
    ·by_cases hdc:d<c
     ·have hc0:0≤c:=by omega
      have R:=zH (qia HN.out hc0 c1 hdc);have h2:=hs.2 hc0;clear HN ht;go_wp2_with(go_at_call 200;(with_reducible refine(q4z sup c hc0 c1 A cap B w hl HS.out).mono ?_);rintro e w' ⟨rfl,rfl⟩)
      go_round
      case rel=>exact⟨jH sup c,d,rfl,rfl,hs.1,by omega,d0,d1,R.out⟩
      case measure=>simp[intOf];omega
     ·have hd0:0≤d:=by omega
      have R:=zH (qgq HN.out hd0 d1 (by omega));have h2:=ht.2 hd0;clear HN hs;go_wp2_with(go_at_call 200;(with_reducible refine(q4z sup d hd0 d1 A cap B w hl HS.out).mono ?_);rintro e w' ⟨rfl,rfl⟩)
      go_round
      case rel=>exact⟨c,jH sup d,rfl,rfl,c0,c1,ht.1,by omega,R.out⟩
      case measure=>simp[intOf];omega
  ·have HA:=zH ha;have HB:=zH (show kU sup b=false by simpa using hb);have R:=zH (show q1s sup a b (-1)from .inl ⟨rfl,fun x g g2=>by have:=vP g2;have:=q2e hb;omega⟩);clear ha hb;go_enter Tryz.func186,Tryz.ntmps186;go_wp2_with(first
    |(go_at_call 199;(with_reducible refine(QQ sup a A cap w hl).mono ?_);rintro e w' ⟨he,rfl⟩;rw[HA.out]at he;subst he)
    |(go_at_call 199;(with_reducible refine(QQ sup b A cap w hl).mono ?_);rintro e w' ⟨he,rfl⟩;rw[HB.out]at he;subst he))
   go_ret;exact⟨⟨_,rfl,R.out⟩,rfl⟩
 ·have HA:=zH (show kU sup a=false by simpa using ha);have R:=zH (show q1s sup a b (-1)from .inl ⟨rfl,fun x g g2=>by have:=vP g;have:=q2e ha;omega⟩);clear ha;go_enter Tryz.func186,Tryz.ntmps186;go_wp2_with(go_at_call 199;(with_reducible refine(QQ sup a A cap w hl).mono ?_);rintro e w' ⟨he,rfl⟩;rw[HA.out]at he;subst he)
  go_ret;exact⟨⟨_,rfl,R.out⟩,rfl⟩
theorem q5l(sup:List Int)(k n k' n':Int)(A:Option Addr)(cap B:Nat)(w:World)(hl:sup.length≤1048576)(hB:B≤w.heap.size)(h:qY w B A sup)(hno:¬(k=3∧k'=3)∨zA sup k n k' n'=true∨zA sup k' n' k n=true):
  Calls Tryz.prog 145 #[.slice A sup.length cap,zU k n,zU k' n'] w fun e w'=>e= .returned (zU (qB sup k n k' n').1 (qB sup k n k' n').2)∧Below w.heap.size w w':=by
 have hW:Below w.heap.size w (((w.alloc (.cells #[.int .i64 k,.int .i64 n] 50)).alloc (.cells #[.int .i64 k',.int .i64 n'] 50)).alloc (.cells #[.int .i64 0,.int .i64 0] 50)):=
  (((zb w.heap.size w).alloc (zn _) _).alloc (by simp) _).alloc (by simp;omega) _
 have HS:=zH (h.below_to hW hB);have HW:=zH hW;have HB:=zH hB;clear h hW hB;have J:=zH (show qB sup k n k' n'=if zA sup k n k' n' then(k',n')else if zA sup k' n' k n then(k,n)else if k=3∧k'=3 then jX ((zv sup n).drop 1) (zv sup n')else(0,0)from rfl);generalize qB sup k n k' n'=j at J⊢
 have hz1:w.heap.size<w.heap.size+1+1+1:=by omega
 have hz2:w.heap.size+1<w.heap.size+1+1+1:=by omega
 by_cases h1:zA sup k n k' n'=true
 ·have J2:=zH (show j=(k',n')by rw[J.out,Xb h1]);have H1:=zH h1;clear h1 J;go_enter Tryz.func145,Tryz.ntmps145;go_wp2_with(go_at_call 144;(with_reducible refine(QS sup _ _ _ _ A cap B _ hl (by have:=HB.out;simp;omega) HS.out).mono ?_);rintro e w1 ⟨he,hb⟩;rw[H1.out]at he;subst he;obtain⟨hc,hf⟩:=YC hb;obtain⟨r0,r1,r2,r3⟩:=YM hb)
  rw[J2.out];refine Xl (v:=zU k' n') ?_ rfl ⟨rfl,?_⟩
  ·simp[results,Tryz.results145,go_sem,r0,r1]
  ·exact HW.out.trans (((hb.mono (by simp;omega)).setCell (by simp;omega) _).setCell (by simp;omega) _)
 ·have F1:=zH (show zA sup k n k' n'=false by simpa using h1);have H1:=F1;clear h1;by_cases h2:zA sup k' n' k n=true
  ·have J2:=zH (show j=(k,n)by rw[J.out,F1.out,h2];rfl);have H2:=zH h2;clear h2 J;go_enter Tryz.func145,Tryz.ntmps145;go_wp2_with(first|(go_at_call 144;(with_reducible refine(QS sup _ _ _ _ A cap B _ hl (by have:=HB.out;simp;omega) HS.out).mono ?_);rintro e w1 ⟨he,hb⟩;rw[H1.out]at he;subst he;obtain⟨hc,hf⟩:=YC hb;obtain⟨r0,r1,r2,r3⟩:=YM hb;obtain⟨q0,q1,q2,q3⟩:=VV hb;have HS1:=zH (HS.out.below_to hb (by have:=HB.out;simp;omega));have HZ:=zH hb.size)|(go_at_call 144;(with_reducible refine(QS sup _ _ _ _ A cap B _ hl (by have:=HB.out;have:=HZ.out;simp at this;omega) HS1.out).mono ?_);rintro e w2 ⟨he,hb2⟩;rw[H2.out]at he;subst he;have hbb:=zH (hb.trans (hb2.mono hb.size));clear hc hf r0 r1 r2 r3 q0 q1 q2 q3;obtain⟨hc,hf⟩:=YC hbb.out;obtain⟨r0,r1,r2,r3⟩:=YM hbb.out;obtain⟨q0,q1,q2,q3⟩:=VV hbb.out;have HS2:=zH (HS.out.below_to hbb.out (by have:=HB.out;simp;omega));have HZ2:=zH hbb.out.size))
   rw[J2.out];refine Xl (v:=zU k n) ?_ rfl ⟨rfl,?_⟩
   ·simp[results,Tryz.results145,go_sem,r0,r1]
   ·exact HW.out.trans (((hbb.out.mono (by simp;omega)).setCell (by simp;omega) _).setCell (by simp;omega) _)
  ·have H2:=zH (show zA sup k' n' k n=false by simpa using h2);clear h2;by_cases h3:k=3∧k'=3
   ·rcases hno with g|g|g
    ·exact absurd h3 g
    ·rw[H1.out]at g;cases g
    ·rw[H2.out]at g;cases g
   ·have J2:=zH (show j=(0,0)by rw[J.out,H1.out,H2.out,Xa h3];rfl);have h3':¬k=3∨(k=3∧¬k'=3):=by omega
    clear h3 J;rcases h3' with h3|⟨rfl,h3⟩
    all_goals
     go_enter Tryz.func145,Tryz.ntmps145;go_wp2_with(first|(go_at_call 144;(with_reducible refine(QS sup _ _ _ _ A cap B _ hl (by have:=HB.out;simp;omega) HS.out).mono ?_);rintro e w1 ⟨he,hb⟩;rw[H1.out]at he;subst he;obtain⟨hc,hf⟩:=YC hb;obtain⟨r0,r1,r2,r3⟩:=YM hb;obtain⟨q0,q1,q2,q3⟩:=VV hb;have HS1:=zH (HS.out.below_to hb (by have:=HB.out;simp;omega));have HZ:=zH hb.size)|(go_at_call 144;(with_reducible refine(QS sup _ _ _ _ A cap B _ hl (by have:=HB.out;have:=HZ.out;simp at this;omega) HS1.out).mono ?_);rintro e w2 ⟨he,hb2⟩;rw[H2.out]at he;subst he;have hbb:=zH (hb.trans (hb2.mono hb.size));clear hc hf r0 r1 r2 r3 q0 q1 q2 q3;obtain⟨hc,hf⟩:=YC hbb.out;obtain⟨r0,r1,r2,r3⟩:=YM hbb.out;obtain⟨q0,q1,q2,q3⟩:=VV hbb.out;have HS2:=zH (HS.out.below_to hbb.out (by have:=HB.out;simp;omega));have HZ2:=zH hbb.out.size))
     rw[J2.out];refine Xl (v:=zU 0 0) ?_ rfl ⟨rfl,?_⟩
     ·simp[results,Tryz.results145,go_sem,r0,r1]
     ·exact HW.out.trans (((hbb.out.mono (by simp;omega)).setCell (by simp;omega) _).setCell (by simp;omega) _)
theorem qoq{sup:List Int}{n n' m:Int}(h1:zA sup 3 n 3 n'=false)(h2:zA sup 3 n' 3 n=false)(h:q1s sup n n' m):
  jX ((zv sup n).drop 1) (zv sup n')=if m= -1 then(0,0)else(3,m):=by
 have a1:n' ∉zv sup n:=fun g=>by rw[(jW ..).mpr (.inr (.inl ⟨rfl,rfl,g⟩))]at h1;cases h1
 have a2:n ∉zv sup n':=fun g=>by rw[(jW ..).mpr (.inr (.inl ⟨rfl,rfl,g⟩))]at h2;cases h2
 rcases h with⟨rfl,h⟩|⟨g0,g1,g2,g3⟩
 ·rw[Xb rfl];rcases q3s a1 a2 with⟨e,_⟩|⟨x,_,f1,f2,_⟩
  ·exact e
  ·exact absurd f2 (h x f1)
 ·rw[Xa (by omega)];rcases q3s a1 a2 with⟨_,f⟩|⟨x,e,f1,f2,f3⟩
  ·exact absurd g2 (f m g1)
  ·have:=f3 m g1 g2;have:=g3 x f1 f2;rw[e,show x=m by omega]
theorem qsv(sup:List Int)(n n':Int)(A:Option Addr)(cap B:Nat)(w:World)(hl:sup.length≤1048576)(hB:B≤w.heap.size)(h:qY w B A sup)
  (h1:zA sup 3 n 3 n'=false) (h2:zA sup 3 n' 3 n=false):
  Calls Tryz.prog 145 #[.slice A sup.length cap,zU 3 n,zU 3 n'] w fun e w'=>e= .returned (zU (jX ((zv sup n).drop 1) (zv sup n')).1 (jX ((zv sup n).drop 1) (zv sup n')).2)∧Below w.heap.size w w':=by
 have hW:Below w.heap.size w (((w.alloc (.cells #[.int .i64 3,.int .i64 n] 50)).alloc (.cells #[.int .i64 3,.int .i64 n'] 50)).alloc (.cells #[.int .i64 0,.int .i64 0] 50)):=
  (((zb w.heap.size w).alloc (zn _) _).alloc (by simp) _).alloc (by simp;omega) _
 have HS:=zH (h.below_to hW hB);have HW:=zH hW;have HB:=zH hB;clear h hW hB;have H1:=zH h1;have H2:=zH h2;clear h1 h2;have J:=zH (fun m=> @qoq sup n n' m H1.out H2.out);generalize jX ((zv sup n).drop 1) (zv sup n')=j at J⊢
 go_enter Tryz.func145,Tryz.ntmps145;go_wp2_with(first|(go_at_call 144;(with_reducible refine(QS sup _ _ _ _ A cap B _ hl (by have:=HB.out;simp;omega) HS.out).mono ?_);rintro e w1 ⟨he,hb⟩;rw[H1.out]at he;subst he;obtain⟨hc,hf⟩:=YC hb;obtain⟨r0,r1,r2,r3⟩:=YM hb;obtain⟨q0,q1,q2,q3⟩:=VV hb;have HS1:=zH (HS.out.below_to hb (by have:=HB.out;simp;omega));have HZ:=zH hb.size)|(go_at_call 144;(with_reducible refine(QS sup _ _ _ _ A cap B _ hl (by have:=HB.out;have:=HZ.out;simp at this;omega) HS1.out).mono ?_);rintro e w2 ⟨he,hb2⟩;rw[H2.out]at he;subst he;have hbb:=zH (hb.trans (hb2.mono hb.size));clear hc hf r0 r1 r2 r3 q0 q1 q2 q3;obtain⟨hc,hf⟩:=YC hbb.out;obtain⟨r0,r1,r2,r3⟩:=YM hbb.out;obtain⟨q0,q1,q2,q3⟩:=VV hbb.out;have HS2:=zH (HS.out.below_to hbb.out (by have:=HB.out;simp;omega));have HZ2:=zH hbb.out.size)|(go_at_call 186;(with_reducible refine(qox sup _ _ A cap B _ hl (by have:=HB.out;have:=HZ2.out;simp at this;omega) HS2.out).mono ?_);rintro e w3 ⟨⟨m,rfl,hm⟩,rfl⟩;have J2:=zH (J.out m hm);clear J;by_cases hm1:m= -1))
 ·have J3:=zH (show j=(0,0)by rw[J2.out,Xb hm1]);rw[J3.out];refine Xl (v:=zU 0 0) ?_ rfl ⟨rfl,?_⟩
  ·simp[results,Tryz.results145,go_sem,r0,r1]
  ·exact HW.out.trans (((hbb.out.mono (by simp;omega)).setCell (by simp;omega) _).setCell (by simp;omega) _)
 ·have J3:=zH (show j=(3,m)by rw[J2.out,Xa hm1]);rw[J3.out];refine Xl (v:=zU 3 m) ?_ rfl ⟨rfl,?_⟩
  ·simp[results,Tryz.results145,go_sem,r0,r1]
  ·exact HW.out.trans (((hbb.out.mono (by simp;omega)).setCell (by simp;omega) _).setCell (by simp;omega) _)
theorem qoy(sup:List Int)(k n k' n':Int)(A:Option Addr)(cap B:Nat)(w:World)(hl:sup.length≤1048576)(hB:B≤w.heap.size)(h:qY w B A sup):
  Calls Tryz.prog 145 #[.slice A sup.length cap,zU k n,zU k' n'] w fun e w'=>e= .returned (zU (qB sup k n k' n').1 (qB sup k n k' n').2)∧Below w.heap.size w w':=by
 by_cases h1:zA sup k n k' n'=true
 ·exact q5l sup k n k' n' A cap B w hl hB h (.inr (.inl h1))
 ·by_cases h2:zA sup k' n' k n=true
  ·exact q5l sup k n k' n' A cap B w hl hB h (.inr (.inr h2))
  ·by_cases h3:k=3∧k'=3
   ·obtain⟨rfl,rfl⟩:=h3;have e:qB sup 3 n 3 n'=jX ((zv sup n).drop 1) (zv sup n'):=by unfold qB;rw[Xa h1,Xa h2,Xb ⟨rfl,rfl⟩]
    rw[e];exact qsv sup n n' A cap B w hl hB h (by simpa using h1) (by simpa using h2)
   ·exact q5l sup k n k' n' A cap B w hl hB h (.inl h3)
theorem q9z{w:World}{B c n:Nat}{ad:Addr}{L:List (Int×Int)}(h:ze zc 2 w B (some ad) c L)(hn:n≤L.length):ze zc 2 w B (some (ad.add (n*2))) (c - n) (L.drop n):=by
 refine⟨by have:=h.le;rw[XT];omega,by have:=h.cap;omega,fun i t hi=> ?_⟩;rw[List.getElem?_drop]at hi;obtain⟨ad',e,hb,ht⟩:=h.row (n+i) t hi;injection e with e;subst e;refine⟨_,rfl,by rw[zu];exact hb,?_⟩;rw[Vz,←Nat.add_mul];exact ht
theorem VP{w:World}{B c:Nat}{A:Option Addr}{L:List (Int×Int)}(hL:L=[])(hc:c≤9223372036854775807):ze zc 2 w B A c L:=by
 subst hL;exact⟨Xp _,hc,qv.nil⟩
theorem qhy(m:za)(f:Nat)(x:zh)(hal:0<x.args.length)(h:zi)(w:World)(H:zm w w.heap.size h m)(hx:m.methods[f]? =some x):
  Calls Tryz.prog 176 #[zp h m,.int .i64 f] w (qm (x.args.drop 1) w):=by
 have HW:=zH ((zb w.heap.size w).alloc (zn _) (zg h m));have HI:=zH (H.now HW.out);have HBX:=zH (ql w h m);have HLE:=zH hx;have hdl:(x.args.drop 1).length=x.args.length - 1:=XT;have HDL:=zH hdl;clear H hx hdl;go_enter Tryz.func176,Tryz.ntmps176;go_upto_region 1 with fail
 generalize w.alloc (zg h m)=w1 at*
 obtain⟨q0,q1,q2,q3,q4,q5,q6⟩:=HBX.out;have HX0:Hid (Below w1.heap.size w1 w1):=zH (zb _ _);go_upto_region 2 with(go_at_call 175;(with_reducible refine(qdm HI HX0 HLE.out).mono ?_);rintro e w2 ⟨A,c,rfl,hs,hb⟩;have HS2:=zH hs;have HB2:=zH hb;clear hs hb)
 obtain⟨ad,rfl,hab,_⟩:=HS2.out.row.at_ (i:=0) hal;have hle:=HS2.out.le;have hcap:=HS2.out.cap;have hgt:(x.args.length:Int)>0:=by omega
 have hb1:(1:Int)≤(x.args.length:Int):=by omega
 have hb2:(x.args.length:Int)≤(c:Int):=by omega
 by_cases hc1:c=1
 ·subst hc1;go_wp2_with fail
  go_ret;exact⟨some ad,0,by rw[show(x.args.drop 1).length=0 by rw[HDL.out];omega];rfl,VP (X6 (by rw[HDL.out];omega)) (by omega),HW.out.trans (HB2.out.mono HW.out.size)⟩
 ·go_wp2_with fail
  go_ret;exact⟨some (ad.add (1*2)),c - 1,by rw[HDL.out];rfl,q9z (n:=1) HS2.out hal,HW.out.trans (HB2.out.mono HW.out.size)⟩
theorem q0t{w:World}{A:Option Addr}{c:Nat}{L:List (Int×Int)}(h:ze zc 2 w w.heap.size A c L)(o:Obj):ze zc 2 (w.alloc o) (w.alloc o).heap.size A c L:=
 (h.below_to zc.keeps ((zb _ _).alloc (zn _) o) (zn _)).keep' zc.keeps (by simp) (fun _ _=>rfl)
theorem qkz{m:za}{h:zi}{w0 w:World}{f:Nat}{x:zh}(HI:Hid (zm w0 w0.heap.size h m))(HX:Hid (Below w0.heap.size w0 w))(hx:m.methods[f]? =some x)(hal:0<x.args.length):
  Calls Tryz.prog 176 #[zp h m,.int .i64 f] w (qm (x.args.drop 1) w):=qhy m f x hal h w (HI.out.now HX.out) hx
theorem qad{m:za}{h:zi}{w0 w:World}{c:Int}{L:List (Int×Int)}(HI:Hid (zm w0 w0.heap.size h m))(HX:Hid (Below w0.heap.size w0 w))(HL:Hid (qh m.classes c=L))(hn:m.classes.length≤1000)(HF:Hid (∀x ∈m.classes,x.fields.length≤1000)):
  Calls Tryz.prog 197 #[zp h m,.int .i64 c] w (QT L w):=by
 have H:=q8x m c h w (HI.out.now HX.out) hn HF.out;rw[HL.out]at H;exact H
set_option maxHeartbeats 1600000 in
theorem ql8(m:za)(op a:Int)(k:Nat)(t:Int×Int)(hk:(qh m.classes a)[k]? =some t)(hn:m.classes.length≤1000)(hf:∀x ∈m.classes,x.fields.length≤1000)(h:zi)(w:World)(H:zm w w.heap.size h m):
  Calls Tryz.prog 173 #[zp h m,zF op a (k:Int)] w fun e w'=>e= .returned (zU t.1 t.2)∧Below w.heap.size w w':=by
 obtain⟨L,hL⟩:∃L,qh m.classes a=L:=⟨_,rfl⟩
 have HL:=zH hL;rw[hL]at hk;have HF:=zH hf;have HK:=zH hk;obtain⟨hw,hp⟩:=q4c h m op a (k:Int) w;have HW:=zH hw;have HP:=zH hp;have HI:=zH (H.now hw);clear hw hp H hk hL hf;go_enter Tryz.func173,Tryz.ntmps173;go_upto_region 1 with fail
 change Code.wp _ _ _ _ (Yc h m op a (k:Int) w);generalize Yc h m op a (k:Int) w=w1 at*
 have HX:Hid (Below w1.heap.size w1 w1.drew):=zH (zb w1.heap.size w1).drew;have HXA:Hid (Below w1.heap.size w1 (w1.alloc (.cells #[.int .i64 0,.int .i64 0] 50)).drew):=zH ((zb w1.heap.size w1).alloc (zn _) _).drew;have HKP:Hid (∀W,Below w1.heap.size w1 W→(fun w'=>w'.cell? ⟨w.heap.size,0,none⟩=some (.slice h.A0 m.classes.length h.c0)∧w'.cell? ⟨w.heap.size,1,none⟩=some (.slice h.A1 m.statics.length h.c1)∧w'.cell? ⟨w.heap.size,2,none⟩=some (.slice h.A2 m.ints.length h.c2)∧w'.cell? ⟨w.heap.size,3,none⟩=some (.slice h.A3 m.methods.length h.c3)∧w'.cell? ⟨w.heap.size,4,none⟩=some (.slice h.A4 m.entries.length h.c4)∧w'.cell? ⟨w.heap.size,5,none⟩=some (.int .i64 m.stack)∧w'.cell? ⟨w.heap.size,6,none⟩=some (.int .i64 m.heap)∧w'.cell? ⟨w.heap.size+1,1,none⟩=some (.int .i64 a)∧w'.cell? ⟨w.heap.size+1,2,none⟩=some (.int .i64 (k:Int))) W):=zH (fun W hW=>by
  have hz:=HP.out.size;obtain⟨d0,d1,d2,d3,d4,d5,d6⟩:=HP.out.img.keep hW (by omega);have di:=HP.out.ins.keep hW (by omega);exact⟨d0,d1,d2,d3,d4,d5,d6,di 1 _ rfl,di 2 _ rfl⟩)
 go_region_held3 (fun w'=>w'.cell? ⟨w.heap.size,0,none⟩=some (.slice h.A0 m.classes.length h.c0)∧w'.cell? ⟨w.heap.size,1,none⟩=some (.slice h.A1 m.statics.length h.c1)∧w'.cell? ⟨w.heap.size,2,none⟩=some (.slice h.A2 m.ints.length h.c2)∧w'.cell? ⟨w.heap.size,3,none⟩=some (.slice h.A3 m.methods.length h.c3)∧w'.cell? ⟨w.heap.size,4,none⟩=some (.slice h.A4 m.entries.length h.c4)∧w'.cell? ⟨w.heap.size,5,none⟩=some (.int .i64 m.stack)∧w'.cell? ⟨w.heap.size,6,none⟩=some (.int .i64 m.heap)∧w'.cell? ⟨w.heap.size+1,1,none⟩=some (.int .i64 a)∧w'.cell? ⟨w.heap.size+1,2,none⟩=some (.int .i64 (k:Int))) (first|exact HKP.out _ HX.out|exact HKP.out _ HXA.out|exact HKP.out _ HX4.out|exact HKP.out _ HX3.out|exact HKP.out _ (HX3.out.alloc HX3.out.size _)|exact HKP.out _ (HX4.out.alloc HX4.out.size _)|exact HKP.out _ ((HX4.out.setCell (p:=⟨w1.heap.size,0,none⟩) (zn _) _).setCell (p:=⟨w1.heap.size,1,none⟩) (zn _) _)|exact HKP.out _ ((HX4.out.setCell (p:=⟨w3.heap.size,0,none⟩) HX3.out.size _).setCell (p:=⟨w3.heap.size,1,none⟩) HX3.out.size _)) (first
  |(go_at_call 197;(first|((with_reducible refine(qad HI HX HL hn HF).mono ?_);have HY:=HX)|((with_reducible refine(qad HI HXA HL hn HF).mono ?_);have HY:=HXA));rintro e w3 ⟨v3,rfl,ho,hb⟩;(first|(have HQA:=zH (zd.keep (show zd (w1.alloc (.cells #[.int .i64 0,.int .i64 0] 50)).drew w1.heap.size [.int .i64 0,.int .i64 0] 50 from zd.new w1 _ _) hb (by simp)))|skip);obtain⟨A3,c3,rfl,hs,_⟩:=YN ho;have HZ3:=zH hb;have HX3:=zj HY hb;have HS3:=zH hs;clear ho hb hs)
  |(go_at_call 196;(first|((with_reducible refine(q5s HS3.out HK.out).mono ?_);have HY4:=HX3)|((with_reducible refine(q5s (q0t HS3.out _) HK.out).mono ?_);have HY4:=zH (HX3.out.alloc HX3.out.size (.cells #[.int .i64 0,.int .i64 0] 50))));rintro e w4 ⟨rfl,hb⟩;have HZ4:=zH hb;have HX4:=zj HY4 hb;(first|(have hq:=HQA.out.keep hb HQA.out.lt)|(have hq:=(zd.new w3 [.int .i64 0,.int .i64 0] 50).keep hb (by simp))|(have hq:=trivial));(first|(have f0:=hq.free 0;have f1:=hq.free 1;have r0:=hq.cells 0 _ rfl;have r1:=hq.cells 1 _ rfl)|skip);have HQ4:=zH hq;clear hq hb))
 all_goals
  first
   |(have HQ5:Hid (zd ((w4.setCell ⟨w1.heap.size,0,none⟩ (.int .i64 t.1)).setCell ⟨w1.heap.size,1,none⟩ (.int .i64 t.2)) w1.heap.size [.int .i64 t.1,.int .i64 t.2] 50):=zH ((HQ4.out.set 0 (.int .i64 t.1)).set 1 (.int .i64 t.2));have HB5:Hid (Below w1.heap.size w1 ((w4.setCell ⟨w1.heap.size,0,none⟩ (.int .i64 t.1)).setCell ⟨w1.heap.size,1,none⟩ (.int .i64 t.2))):=zH ((HX4.out.setCell (p:=⟨w1.heap.size,0,none⟩) (zn _) (.int .i64 t.1)).setCell (p:=⟨w1.heap.size,1,none⟩) (zn _) (.int .i64 t.2));generalize((w4.setCell ⟨w1.heap.size,0,none⟩ (.int .i64 t.1)).setCell ⟨w1.heap.size,1,none⟩ (.int .i64 t.2))=w5 at*)
   |(have HQ5:Hid (zd ((w4.setCell ⟨w3.heap.size,0,none⟩ (.int .i64 t.1)).setCell ⟨w3.heap.size,1,none⟩ (.int .i64 t.2)) w3.heap.size [.int .i64 t.1,.int .i64 t.2] 50):=zH ((HQ4.out.set 0 (.int .i64 t.1)).set 1 (.int .i64 t.2));have HB5:Hid (Below w1.heap.size w1 ((w4.setCell ⟨w3.heap.size,0,none⟩ (.int .i64 t.1)).setCell ⟨w3.heap.size,1,none⟩ (.int .i64 t.2))):=zH ((HX4.out.setCell (p:=⟨w3.heap.size,0,none⟩) HX3.out.size (.int .i64 t.1)).setCell (p:=⟨w3.heap.size,1,none⟩) HX3.out.size (.int .i64 t.2));generalize((w4.setCell ⟨w3.heap.size,0,none⟩ (.int .i64 t.1)).setCell ⟨w3.heap.size,1,none⟩ (.int .i64 t.2))=w5 at*)
   |(have HQ5:=zH (zd.new w4 [.int .i64 t.1,.int .i64 t.2] 50);have HB5:Hid (Below w1.heap.size w1 (w4.alloc (.cells #[.int .i64 t.1,.int .i64 t.2] 50))):=zH (HX4.out.alloc HX4.out.size _);change Exit.then _ _ _ _ (w4.alloc (.cells #[.int .i64 t.1,.int .i64 t.2] 50));generalize w4.alloc (.cells #[.int .i64 t.1,.int .i64 t.2] 50)=w5 at*)
  have c0:=HQ5.out.cells 0 _ rfl;have c1:=HQ5.out.cells 1 _ rfl;have hq:=HP.out.res.keep HB5.out HP.out.res.lt;have f0:=hq.free 0;have f1:=hq.free 1;have r0:=hq.cells 0 _ rfl;have r1:=hq.cells 1 _ rfl;clear hq;go_wp2_with fail
  obtain⟨d0,d1,db⟩:=q6v (x:=t.1) (y:=t.2) HW.out HB5.out HP.out.res.lt HP.out.res;exact Xl (v:=zU t.1 t.2) (by simp[results,Tryz.results173,go_sem,d0,d1]) rfl ⟨rfl,db⟩
theorem qc2{m:za}{h:zi}{w0 w:World}{op a:Int}{k:Nat}{t:Int×Int}(HI:Hid (zm w0 w0.heap.size h m))(HX:Hid (Below w0.heap.size w0 w))(HK:Hid ((qh m.classes a)[k]? =some t))(hn:m.classes.length≤1000)(HF:Hid (∀x ∈m.classes,x.fields.length≤1000)):
  Calls Tryz.prog 173 #[zp h m,zF op a (k:Int)] w fun e w'=>e= .returned (zU t.1 t.2)∧Below w.heap.size w w':=ql8 m op a k t HK.out hn HF.out h w (HI.out.now HX.out)
theorem zip_at{L U:List (Int×Int)}{k:Nat}(h:k<L.length)(h':k<U.length):∃hz:k<(L.zip U).length,(L.zip U)[k]=(L[k],U[k]):=⟨by rw[List.length_zip];omega,by simp⟩
theorem qaq{w w':World}{A:Option Addr}{sup:List Int}(h:qY w w.heap.size A sup)(hb:Below w.heap.size w w'):qY w' w'.heap.size A sup:=fun i s hs=>by
 obtain⟨ad,e,hlt,hc⟩:=h i s hs;exact⟨ad,e,Xj hlt hb.size,(hb.cell (by rw[zu];omega)).trans hc⟩
theorem qdl{sup:List Int}{t u:Int×Int}{A:Option Addr}{c N:Nat}{w0 w:World}{r:Bool}(hl:sup.length≤1048576)(HS:Hid (qY w0 w0.heap.size A sup))(HN:Hid (N<w0.heap.size))(HC:Hid (w0.cell? ⟨N,0,none⟩=some (.slice A sup.length c)))(HX:Hid (Below w0.heap.size w0 w))(HR:Hid (jS sup t u=r)):
  Calls Tryz.prog 181 #[zU t.1 t.2,zU u.1 u.2,.pointer (some ⟨N,0,none⟩)] w fun e w'=>e= .returned (.bool r)∧Below w.heap.size w w':=by
 have H:=qpu sup t.1 t.2 u.1 u.2 A c N w hl (qaq HS.out HX.out) (Xj HN.out HX.out.size) ((HX.out.cell (p:=⟨N,0,none⟩) HN.out).trans HC.out);rw[HR.out]at H;exact H
set_option maxHeartbeats 3200000 in
theorem ql9(sup:List Int)(L U:List (Int×Int))(A A' A'':Option Addr)(c c' c'' N:Nat)(w:World)(hl:sup.length≤1048576)(hS:qY w w.heap.size A'' sup)(hN:N<w.heap.size)(hc:w.cell? ⟨N,0,none⟩=some (.slice A'' sup.length c''))
  (h:ze zc 2 w w.heap.size A c L) (h':ze zc 2 w w.heap.size A' c' U):
  Calls Tryz.prog 180 #[.slice A L.length c,.slice A' U.length c',fitF N] w fun e w'=>e= .returned (.bool (QX sup L U))∧Below w.heap.size w w':=by
 have hlc:=h.le;have hcm:=h.cap;have hlc':=h'.le;have hcm':=h'.cap;have HL:=zH h;have HM:=zH h';have HS:=zH hS;have HN:=zH hN;have HC:=zH hc;clear h h' hS hN hc;obtain⟨b,hb⟩:∃b,QX sup L U=b:=⟨_,rfl⟩
 rw[hb];have E:=zH hb.symm;clear hb;by_cases hn:L.length=U.length
 ·have HLN:=zH hn;have hlen:U.length=L.length:=hn.symm;have HE2:Hid (b=(L.zip U).all (fun p=>jS sup p.1 p.2)):=zH (by rw[E.out];unfold QX;rw[Xm hn,Bool.true_and]);rw[hlen];clear hn;go_enter Tryz.func180,Tryz.ntmps180;go_wp2
  go_loopw [17] (fun i wr=>∃k:Nat,k≤L.length∧i= .int .i64 k∧Hid (∀p ∈(L.zip U).take k,jS sup p.1 p.2=true)∧Hid (Below w.heap.size w wr)) (fun i _=>L.length - (intOf i).toNat)
  case atStart=>exact⟨0,by omega,rfl,zH (by simp),zH (zb _ _)⟩
  case round=>
   obtain⟨k,hk,rfl,HA,HX⟩:=hrel;by_cases hlt:k<L.length
   ·have hltm:k<U.length:=by omega
    obtain⟨ad,rfl,hab,s0,s1⟩:=(HL.out.below_to zc.keeps HX.out (zn _)).row.at_ hlt;obtain⟨ad',rfl,hab',t0,t1⟩:=(HM.out.below_to zc.keeps HX.out (zn _)).row.at_ hltm;obtain⟨hz,hze⟩:=zip_at hlt hltm;obtain⟨r,hr⟩:∃r,jS sup L[k] U[k]=r:=⟨_,rfl⟩
    have HR:=zH hr;have HT:Hid (r=true→∀p ∈(L.zip U).take (k+1),jS sup p.1 p.2=true):=zH (fun g=>vH (f:=fun p:(Int×Int)×(Int×Int)=>jS sup p.1 p.2) hz HA.out (by rw[hze];show jS sup L[k] U[k]=true;rw[hr,g]));have HF:Hid (r=false→b=false):=zH (fun g=>by rw[HE2.out];exact vK (f:=fun p:(Int×Int)×(Int×Int)=>jS sup p.1 p.2) hz (by rw[hze];show jS sup L[k] U[k]=false;rw[hr,g]));clear hr hze hz;generalize L[k]=t at*
    generalize U[k]=u at*
    have hA1:Below wr.heap.size wr (wr.alloc (.cells #[.int .i64 t.1,.int .i64 t.2] 50)):=(zb _ _).alloc (zn _) _;have hsz:=HX.out.size;have u0:=(hA1.cell (p:=ad'.add (k*2)) (by rw[zu];omega)).trans t0;have u1:=(hA1.cell (p:=zf (ad'.add (k*2)) 1) (by show(ad'.add _).block<_;rw[zu];omega)).trans t1;obtain⟨c1,c2,hb,hzz⟩:=q7f wr t.1 t.2 u.1 u.2;have HC1:=zH c1;have HC2:=zH c2;have HX3:=zH (HX.out.trans (hb.mono hsz));clear c1 c2 hb hzz hA1;go_upto_region 7 with fail
    generalize(wr.alloc (.cells #[.int .i64 t.1,.int .i64 t.2] 50)).alloc (.cells #[.int .i64 u.1,.int .i64 u.2] 50)=w3 at*
    have d0:=HC1.out 0 _ rfl;have d1:=HC1.out 1 _ rfl;have e0:=HC2.out 0 _ rfl;have e1:=HC2.out 1 _ rfl;cases r
    ·go_wp2_with(go_at_call 181;(with_reducible refine(qdl hl HS HN HC HX3 HR).mono ?_);rintro e w4 ⟨rfl,hb⟩;have HX4:=zj HX3 hb;clear hb)
     go_ret;exact⟨by rw[HF.out (by simp)];rfl,HX4.out⟩
    ·go_wp2_with(go_at_call 181;(with_reducible refine(qdl hl HS HN HC HX3 HR).mono ?_);rintro e w4 ⟨rfl,hb⟩;have HX4:=zj HX3 hb;clear hb)
     go_roundw;case rel=>exact⟨k+1,by omega,by go_num,zH (HT.out (by simp)),HX4⟩
     case measure=>simp[intOf];omega
   ·have E2:=zH (show b=true by rw[HE2.out];exact vL (f:=fun p:(Int×Int)×(Int×Int)=>jS sup p.1 p.2) HA.out (by rw[List.length_zip];omega));go_wp2_with fail
    go_ret;exact⟨by rw[E2.out];rfl,HX.out⟩
 ·have E2:=zH (show b=false by rw[E.out];unfold QX;rw[Xg hn,Bool.false_and]);have hn':((L.length:Int)==(U.length:Int))=false:=XG.mpr (by omega);go_enter Tryz.func180,Tryz.ntmps180;go_wp2
  go_ret;exact⟨by rw[E2.out];rfl,zb _ _⟩
theorem qi3(sup:List Int)(L U:List (Int×Int))(A A' A'':Option Addr)(c c' c'':Nat)(w:World)(hl:sup.length≤1048576)(hS:qY w w.heap.size A'' sup)(h:ze zc 2 w w.heap.size A c L)(h':ze zc 2 w w.heap.size A' c' U):
  Calls Tryz.prog 140 #[.slice A'' sup.length c'',.slice A L.length c,.slice A' U.length c'] w fun e w'=>e= .returned (.bool (QX sup L U))∧Below w.heap.size w w':=by
 have hA:Below w.heap.size w (w.alloc (.cells #[.slice A'' sup.length c''] 22)):=(zb _ _).alloc (zn _) _;have HA:=zH hA;have HL:Hid (ze zc 2 (w.alloc (.cells #[.slice A'' sup.length c''] 22)) (w.alloc (.cells #[.slice A'' sup.length c''] 22)).heap.size A c L):=zH ((h.below_to zc.keeps hA (zn _)).keep' zc.keeps hA.size (fun _ _=>rfl));have HU:Hid (ze zc 2 (w.alloc (.cells #[.slice A'' sup.length c''] 22)) (w.alloc (.cells #[.slice A'' sup.length c''] 22)).heap.size A' c' U):=zH ((h'.below_to zc.keeps hA (zn _)).keep' zc.keeps hA.size (fun _ _=>rfl));have HS:=zH (qaq hS hA);have HC:=zH (qr w [.slice A'' sup.length c''] 22);have HZ:Hid (w.heap.size<(w.alloc (.cells #[.slice A'' sup.length c''] 22)).heap.size):=zH (by simp);clear h h' hA hS;go_enter Tryz.func140,Tryz.ntmps140;go_upto_region 1 with fail
 generalize w.alloc (.cells #[.slice A'' sup.length c''] 22)=w1 at*
 have c0:=HC.out 0 _ rfl;go_wp2_with(go_at_call 180;(with_reducible refine(ql9 sup L U A A' A'' c c' c'' w.heap.size w1 hl HS.out HZ.out c0 HL.out HU.out).mono ?_);rintro e w2 ⟨rfl,hb⟩;have HB2:=zH hb;clear hb)
 go_ret;exact⟨rfl,HA.out.trans (HB2.out.mono HA.out.size)⟩
theorem qa4{m:za}{h:zi}{L U:List (Int×Int)}{A A':Option Addr}{c c':Nat}{w0 w:World}{r:Bool}(HI:Hid (zm w0 w0.heap.size h m))(HX:Hid (Below w0.heap.size w0 w))(hn:m.classes.length≤1000)(HL:ze zc 2 w w.heap.size A c L)(HU:ze zc 2 w w.heap.size A' c' U)(HR:Hid (QX (zz m.classes) L U=r)):
  Calls Tryz.prog 140 #[.slice h.A0 m.classes.length h.c0,.slice A L.length c,.slice A' U.length c'] w fun e w'=>e= .returned (.bool r)∧Below w.heap.size w w':=by
 have H:=qi3 (zz m.classes) L U A A' h.A0 c c' h.c0 w (by rw[kq];omega) (JP (HI.out.now HX.out).classes.row) HL HU;rw[HR.out,kq]at H;exact H
theorem q51{w:World}{B c n:Nat}{A:Option Addr}{L:List (Int×Int)}(h:ze zc 2 w B A c L):ze zc 2 w B A c (L.take n):=
 ⟨Xd (by rw[XO];omega) h.le,h.cap,h.row.take_ n⟩
theorem qte(st:List (Int×Int))(n:Nat)(hn:n≤1000000)(hs:st.length≤1000000)(A:Option Addr)(c:Nat)(w:World)(h:ze zc 2 w w.heap.size A c st):
  Calls Tryz.prog 139 #[.slice A st.length c,.int .i64 n] w fun e w'=>∃A1 c1 A2 c2,e= .returned (.tuple #[.slice A1 (st.take (st.length - n)).length c1,.slice A2 (st.drop (st.length - n)).length c2])∧
   ze zc 2 w w.heap.size A1 c1 (st.take (st.length - n))∧ze zc 2 w w.heap.size A2 c2 (st.drop (st.length - n))∧Below w.heap.size w w'∧w'.heap=w.heap:=by
 have hle:=h.le;have hcap:=h.cap;have HS:=zH h;obtain⟨d,hd⟩:∃d,st.length - n=d:=⟨_,rfl⟩
 have htl:(st.take (st.length - n)).length=d:=by rw[XO];omega
 have hdl:(st.drop (st.length - n)).length=st.length - d:=by rw[XT];omega
 have HTL:=zH htl;have HDL:=zH hdl;rw[hd]at HTL HDL;rw[hd];have hw1:IntKind.i64.wrap ((st.length:Int) - (n:Int))=(st.length:Int) - (n:Int):=IntWalk.i64_in _ (by omega);have hdl0:d≤st.length:=by omega
 have hd0:(0:Int)≤(d:Int):=by omega
 have hd1:(d:Int)≤(st.length:Int):=by omega
 have hd2:(d:Int)≤(c:Int):=by omega
 have hd3:(st.length:Int)≤(c:Int):=by omega
 have hmx:max ((st.length:Int) - (n:Int)) 0=(d:Int):=by omega
 clear h htl hdl;rcases A with _|ad
 ·have hst:st=[]:=by
   cases st with
   |nil=>rfl
   |cons t r=>
    obtain⟨ad,e,_⟩:=HS.out.row.at_ (i:=0) (by simp);cases e
  subst hst;obtain rfl:d=0:=by simp at hdl0;exact hdl0
  clear hd hmx HTL HDL hle hs hdl0 hd0 hd1 hd2;have hw1:IntKind.i64.wrap (((0:Nat):Int) - (n:Int))=0 - (n:Int):=hw1;by_cases hn0:n=0
  ·subst hn0;go_enter Tryz.func139,Tryz.ntmps139;go_upto_region 2 with fail
   go_quiet (fail)
   all_goals
    go_wp2_with fail
    go_ret2
    exact⟨none,_,none,_,rfl,VP rfl hcap,VP rfl hcap,qZ (zb _ _) _,rfl⟩
  ·have hng: -(n:Int)<0:=by omega
   have hm0:max (-(n:Int)) 0=0:=by omega
   go_enter Tryz.func139,Tryz.ntmps139;go_upto_region 2 with fail
   go_quiet (fail)
   all_goals
    go_wp2_with fail
    go_ret2
    exact⟨none,_,none,_,rfl,VP rfl hcap,VP rfl hcap,qZ (zb _ _) _,rfl⟩
 ·by_cases hlt:(st.length:Int) - (n:Int)<0
  ·obtain rfl:d=0:=by omega
   go_enter Tryz.func139,Tryz.ntmps139;go_upto_region 2 with fail
   go_quiet (fail)
   go_wp2_with fail
   go_ret2
   exact⟨some ad,c,some ad,c,by first|rfl|(rw[HTL.out,HDL.out];rfl),q51 HS.out,HS.out,qZ (zb _ _) _,rfl⟩
  ·have hde:(st.length:Int) - (n:Int)=(d:Int):=by omega
   rw[hde]at hw1 hmx hlt;have hw1:IntKind.i64.wrap ((st.length:Int) - (n:Int))=(d:Int):=by rw[hde];exact hw1
   by_cases hcd:c=d
   ·subst hcd;go_enter Tryz.func139,Tryz.ntmps139;go_upto_region 2 with fail
    go_quiet (fail)
    go_wp2_with fail
    go_ret2
    exact⟨some ad,c,some ad,0,by first|rfl|(rw[HTL.out,HDL.out];rfl)|(rw[HDL.out];rfl),q51 HS.out,VP (X6 (by rw[HDL.out];omega)) (by omega),qZ (zb _ _) _,rfl⟩
   ·go_enter Tryz.func139,Tryz.ntmps139;go_upto_region 2 with fail
    go_quiet (fail)
    go_wp2_with fail
    go_ret2
    exact⟨some ad,c,some (ad.add (d*2)),c - d,by first|rfl|(rw[HTL.out,HDL.out];rfl)|(rw[HDL.out];rfl),q51 HS.out,q9z HS.out hdl0,qZ (zb _ _) _,rfl⟩
set_option maxHeartbeats 1600000 in
theorem q0x(op:Int)(w:World):Calls Tryz.prog 164 #[.int .i64 op] w fun e w'=>e= .returned (.int .i64 (zM op))∧w=w':=by
 obtain⟨n,hn⟩:∃n,zM op=n:=⟨_,rfl⟩
 have H:=zH hn;rw[hn];clear hn;go_enter Tryz.func164,Tryz.ntmps164;go_wp2
 all_goals
  go_ret;refine⟨q6u ?_,rfl⟩;rw[←H.out];clear H;try simp only[beq_iff_eq,XG,ne_eq]at*
  unfold zM JI;simp;omega
theorem q6q{w w':World}{x y:Value}{T:TypeId}(hb:Below (w.alloc (.cells #[x,y] T)).heap.size (w.alloc (.cells #[x,y] T)) w'):
  zq w' w'.heap.size (some ⟨w.heap.size,0,none⟩) [x,y]∧zq w' w'.heap.size (some ⟨w.heap.size,0,none⟩) [x]∧zq w' w'.heap.size (some ⟨w.heap.size,1,none⟩) [y]:=by
 have hs:w.heap.size<(w.alloc (.cells #[x,y] T)).heap.size:=by simp
 have hs':=hb.size;have c0:w'.cell? ⟨w.heap.size,0,none⟩=some x:=(hb.cell hs).trans (by rw[World.cell?_alloc_at _ _ _ _ rfl];rfl);have c1:w'.cell? ⟨w.heap.size,1,none⟩=some y:=(hb.cell hs).trans (by rw[World.cell?_alloc_at _ _ _ _ rfl];rfl);refine⟨?_,?_,?_⟩
 ·intro j u hj;refine⟨_,rfl,(by show w.heap.size<_;omega),?_⟩
  match j,hj with
  |0,hj=>simp at hj;subst hj;exact c0
  |1,hj=>simp at hj;subst hj;exact c1
 ·intro j u hj;refine⟨_,rfl,(by show w.heap.size<_;omega),?_⟩
  match j,hj with
  |0,hj=>simp at hj;subst hj;exact c0
 ·intro j u hj;refine⟨_,rfl,(by show w.heap.size<_;omega),?_⟩
  match j,hj with
  |0,hj=>simp at hj;subst hj;exact c1
def q7o(N n c:Nat)(w:World)(e:Ending)(w':World):Prop:=
 e= .returned (.tuple #[.slice (some ⟨N,0,none⟩) n 2,.slice (some ⟨N,c,none⟩) (2 - n) (2 - n)])∧Below w.heap.size w w'
theorem q4k{P:Prop}(h:P:=by
 go_enter Tryz.func165,Tryz.ntmps165;go_wp2_with(go_at_call 164;(with_reducible refine(q0x _ _).mono ?_);rintro e w1 ⟨rfl,rfl⟩;rw[H.out])
 go_quiet (skip)
 go_wp2
 go_ret2
 exact⟨rfl,qZ (zb _ _) _⟩):P:=h
theorem qeo(op:Int)(N:Nat)(w:World)(h:zM op=2):Calls Tryz.prog 165 #[.int .i64 op,.slice (some ⟨N,0,none⟩) 2 2] w (q7o N 2 0 w):=by
 have H:=zH h;clear h;exact q4k
theorem qep(op:Int)(N:Nat)(w:World)(h:zM op=1):Calls Tryz.prog 165 #[.int .i64 op,.slice (some ⟨N,0,none⟩) 2 2] w (q7o N 1 1 w):=by
 have H:=zH h;clear h;exact q4k
theorem qds(op:Int)(N:Nat)(w:World)(h:zM op≤0):Calls Tryz.prog 165 #[.int .i64 op,.slice (some ⟨N,0,none⟩) 2 2] w (q7o N 0 0 w):=by
 have hr:=YI op;rcases(show zM op= -1∨zM op=0 by omega)with hn|hn;all_goals
  have H:=zH hn;clear hn h hr;exact q4k
def upB(e:Int)(l:List Int):Bool:=decide (∀x ∈l,0≤x∧x≤e)
theorem q37(en:Int)(l:List Int)(n:Nat)(A:Option Addr)(cap B:Nat)(w:World)(hn:l.length=n)(hl:n≤2)(h:zq w B A (l.map (Value.int .i64))):
  Calls Tryz.prog 166 #[.int .i64 en,.slice A n cap] w fun e w'=>e= .returned (.bool (upB en l))∧w=w':=by
 subst hn;have HL:=zH h;clear h;go_enter Tryz.func166,Tryz.ntmps166;go_wp2
 go_loop [9] (fun i=>∃k:Nat,k≤l.length∧i= .int .i64 k∧Hid (upB en l=upB en (l.drop k))) (fun i=>l.length - (intOf i).toNat)
 case atStart=>exact⟨0,by omega,rfl,zH rfl⟩
 case round=>
  obtain⟨k,hk,rfl,HN⟩:=hrel;by_cases hlt:k<l.length
  ·obtain⟨ad,rfl,_,hc⟩:=HL.out.at_ (k:=k) (by simpa using hlt);have E1:=zH (Wq hlt);simp only[List.getElem_map]at hc;generalize l[k]=b at*
   have HS:Hid (upB en l=(decide (0≤b∧b≤en)&& upB en (l.drop (k+1)))):=zH (by
    rw[HN.out,E1.out];unfold upB;rw[XV];simp)
   clear HN E1;by_cases hb:0≤b
   ·by_cases hb':b≤en
    ·go_wp2_with fail
     go_round
     case rel=>exact⟨k+1,by omega,by go_num,zH (by rw[HS.out,Xm (show 0≤b∧b≤en from⟨hb,hb'⟩)];rfl)⟩
     case measure=>simp[intOf];omega
    ·have HF:Hid (upB en l=false):=zH (by rw[HS.out,Xg (show ¬(0≤b∧b≤en)by omega)];rfl);clear HS;go_wp2_with fail
     go_ret;refine⟨?_,rfl⟩;rw[HF.out];rfl
   ·have HF:Hid (upB en l=false):=zH (by rw[HS.out,Xg (show ¬(0≤b∧b≤en)by omega)];rfl);clear HS;go_wp2_with fail
    go_ret;refine⟨?_,rfl⟩;rw[HF.out];rfl
  ·have R:=zH (show upB en l=true by rw[HN.out,List.drop_eq_nil_of_le (by omega)];rfl);clear HN;go_wp2_with fail
   go_ret;refine⟨?_,rfl⟩;rw[R.out];rfl
section
variable{w0 w:World}{a b en:Int}{T:TypeId}{N:Nat}
theorem qck(hN:w0.heap.size=N)(HB:Hid (Below (w0.alloc (.cells #[.int .i64 a,.int .i64 b] T)).heap.size (w0.alloc (.cells #[.int .i64 a,.int .i64 b] T)) w)):
  Calls Tryz.prog 166 #[.int .i64 en,.slice (some ⟨N,0,none⟩) 2 2] w fun e w'=>e= .returned (.bool (upB en [a,b]))∧w=w':=by
 subst hN;exact q37 en [a,b] 2 _ _ _ w rfl (zn _) (q6q HB.out).1
theorem qrh(hN:w0.heap.size=N)(HB:Hid (Below (w0.alloc (.cells #[.int .i64 a,.int .i64 b] T)).heap.size (w0.alloc (.cells #[.int .i64 a,.int .i64 b] T)) w)):
  Calls Tryz.prog 166 #[.int .i64 en,.slice (some ⟨N,0,none⟩) 1 2] w fun e w'=>e= .returned (.bool (upB en [a]))∧w=w':=by
 subst hN;exact q37 en [a] 1 _ _ _ w rfl (by omega) (q6q HB.out).2.1
theorem qrg(hN:w0.heap.size=N)(HB:Hid (Below (w0.alloc (.cells #[.int .i64 a,.int .i64 b] T)).heap.size (w0.alloc (.cells #[.int .i64 a,.int .i64 b] T)) w)):
  Calls Tryz.prog 166 #[.int .i64 en,.slice (some ⟨N,1,none⟩) 1 1] w fun e w'=>e= .returned (.bool (upB en [b]))∧w=w':=by
 subst hN;exact q37 en [b] 1 _ _ _ w rfl (by omega) (q6q HB.out).2.2
theorem qe8(A:Option Addr)(c:Nat):Calls Tryz.prog 166 #[.int .i64 en,.slice A 0 c] w fun e w'=>e= .returned (.bool true)∧w=w':=
 q37 en [] 0 A c 0 w rfl (by omega) zq.nil
end
set_option maxHeartbeats 800000 in
theorem qbt(op a b:Int)(w:World):Calls Tryz.prog 124 #[zF op a b] w fun e w'=>e= .returned (.bool (qf op a b))∧Below w.heap.size w w':=by
 have hr:=YI op;rcases(show zM op= -1∨zM op=0∨zM op=1∨zM op=2 by omega)with hn|hn|hn|hn
 ·have H:=zH hn;have E:=zH (show qf op a b=false by unfold qf;rw[hn];simp);rw[E.out];clear hn hr;go_enter Tryz.func124,Tryz.ntmps124;go_wp2_with(go_at_call 164;(with_reducible refine(q0x _ _).mono ?_);rintro e w1 ⟨rfl,rfl⟩;rw[H.out])
  go_ret;exact⟨rfl,(zb _ _).alloc (zn _) _⟩
 ·have H:=zH hn;have HZ:=zH (show zM op≤0 by omega);have E:=zH (show qf op a b=upB 0 [a,b]by unfold qf upB;rw[hn,X8];simp;omega);rw[E.out];clear hn hr;go_enter Tryz.func124,Tryz.ntmps124;go_wp2_with(first
   |(go_at_call 164;(with_reducible refine(q0x _ _).mono ?_);rintro e w1 ⟨rfl,rfl⟩;rw[H.out])
   |(go_at_call 165;(with_reducible refine(qds _ _ _ HZ.out).mono ?_);rintro e w2 ⟨rfl,hb⟩;have HB:=zH hb;clear hb)
   |(go_at_call 166;(with_reducible refine(qe8 _ _).mono ?_);rintro e w3 ⟨rfl,rfl⟩)
   |(go_at_call 166;(with_reducible refine(qck (by simp) HB).mono ?_);rintro e w3 ⟨rfl,rfl⟩))
  all_goals
   go_ret;exact⟨rfl,(((zb _ _).alloc (zn _) _).alloc (by simp) _).trans (HB.out.mono (by simp;omega))⟩
 ·have H:=zH hn;have E:=zH (show qf op a b=(upB 255 [a]&& upB 0 [b])by unfold qf upB;rw[hn,XV];simp;omega);rw[E.out];clear hn hr;go_enter Tryz.func124,Tryz.ntmps124;go_wp2_with(first
   |(go_at_call 164;(with_reducible refine(q0x _ _).mono ?_);rintro e w1 ⟨rfl,rfl⟩;rw[H.out])
   |(go_at_call 165;(with_reducible refine(qep _ _ _ H.out).mono ?_);rintro e w2 ⟨rfl,hb⟩;have HB:=zH hb;clear hb)
   |(go_at_call 166;(with_reducible refine(qrh (by simp) HB).mono ?_);rintro e w3 ⟨rfl,rfl⟩)
   |(go_at_call 166;(with_reducible refine(qrg (by simp) HB).mono ?_);rintro e w3 ⟨rfl,rfl⟩))
  all_goals
   go_ret;refine⟨q6b ?_,(((zb _ _).alloc (zn _) _).alloc (by simp) _).trans (HB.out.mono (by simp;omega))⟩;simp_all
 ·have H:=zH hn;have E:=zH (show qf op a b=upB 255 [a,b]by unfold qf upB;rw[hn,X8];simp;omega);rw[E.out];clear hn hr;go_enter Tryz.func124,Tryz.ntmps124;go_wp2_with(first
   |(go_at_call 164;(with_reducible refine(q0x _ _).mono ?_);rintro e w1 ⟨rfl,rfl⟩;rw[H.out])
   |(go_at_call 165;(with_reducible refine(qeo _ _ _ H.out).mono ?_);rintro e w2 ⟨rfl,hb⟩;have HB:=zH hb;clear hb)
   |(go_at_call 166;(with_reducible refine(qe8 _ _).mono ?_);rintro e w3 ⟨rfl,rfl⟩)
   |(go_at_call 166;(with_reducible refine(qck (by simp) HB).mono ?_);rintro e w3 ⟨rfl,rfl⟩))
  all_goals
   go_ret;refine⟨q6b ?_,(((zb _ _).alloc (zn _) _).alloc (by simp) _).trans (HB.out.mono (by simp;omega))⟩;simp_all
def CutHas(N n:Nat)(w:World)(e:Ending)(w':World):Prop:=
 ∃v,e= .returned (.tuple #[.slice (some ⟨N,0,none⟩) n 2,v])∧Below w.heap.size w w'
theorem qvc(op:Int)(N n:Nat)(w:World)(h:(zM op).toNat=n):Calls Tryz.prog 165 #[.int .i64 op,.slice (some ⟨N,0,none⟩) 2 2] w (CutHas N n w):=by
 have hr:=YI op;rcases(show zM op≤0∨zM op=1∨zM op=2 by omega)with g|g|g
 ·obtain rfl:n=0:=by omega
  exact(qds op N w g).mono fun e w' ⟨he,hb⟩=>⟨_,he,hb⟩
 ·obtain rfl:n=1:=by omega
  exact(qep op N w g).mono fun e w' ⟨he,hb⟩=>⟨_,he,hb⟩
 ·obtain rfl:n=2:=by omega
  exact(qeo op N w g).mono fun e w' ⟨he,hb⟩=>⟨_,he,hb⟩
theorem qN{w w1 w2:World}{r:Option Nat}(h:w.grownBy w1 r)(g:w1.grownBy w2 r):w.grownBy w2 r:=
 ⟨g.os.trans h.os,g.tape.trans h.tape,g.output.trans h.output,Xd h.size g.size,fun k hk hn=>(g.block k (Xj hk h.size) hn).trans (h.block k hk hn)⟩
theorem qn{w w1:World}{r:Option Nat}(h:w.grownBy w1 r){a:Addr}(ha:w.heap.size≤a.block)(v:Value):w.grownBy (w1.setCell a v) r:=
 ⟨h.os,h.tape,h.output,by simpa using h.size,fun k hk hn=>(Below.heap_setCell w1 a v k (by omega)).trans (h.block k hk hn)⟩
theorem JN{w w1:World}{r:Option Nat}(h:w.grownBy w1 r)(o:Obj):w.grownBy (w1.alloc o) r:=qN h (World.grownBy_alloc _ _ _)
theorem YB{w w1 w2:World}{r r':Option Nat}(h:w.grownBy w1 r)(g:w1.grownBy w2 r')(hr:∀k,r'=some k→w.heap.size≤k):w.grownBy w2 r:=
 ⟨g.os.trans h.os,g.tape.trans h.tape,g.output.trans h.output,Xd h.size g.size,fun k hk hn=>(g.block k (Xj hk h.size) (fun e=>by have:=hr k e.symm;omega)).trans (h.block k hk hn)⟩
theorem q8r{w w1:World}{N B:Nat}(h:w.grownBy w1 (some N))(hB:B≤N)(hN:N<w.heap.size):Below B w w1:=
 (zb B w).grown h (by omega) (fun k hk=>by injection hk with hk;omega)
theorem q9a{k:IntKind}{n:Int}{rest:List Int}{bad:Bool}{N B:Nat}{w w1:World}{e:Ending}(h:q3x k N B n rest bad w e w1∧jz N w w1):w.grownBy w1 (some N):=
 ⟨h.1.2.2.os,h.1.2.2.tape,h.1.2.2.output,by rw[h.2.1];exact zn _,fun b hb hn=>h.2.2 b (fun e=>hn (by rw[e]))⟩
theorem qgt{w w1:World}(h:Below w.heap.size w w1)(r:Option Nat):w.grownBy w1 r:=⟨h.os,h.tape,h.output,h.size,fun k hk _=>h.block k hk⟩
theorem qhs{w w1:World}{r:Option Nat}(h:w.grownBy w1 r)(n:Nat):w.grownBy (w1.drewN n) r:=⟨h.os,h.tape,h.output,h.size,h.block⟩
def qvn(N B:Nat)(rest:List Int)(bad:Bool)(w:World)(e:Ending)(w':World):Prop:=
 ∃op a b,e= .returned (zF op a b)∧Rd w' N (vC rest bad).2.1 (vC rest bad).2.2∧Below B w w'∧((vC rest bad).2.2=false→(vC rest bad).1=(op,a,b))
def stI(rest:List Int)(bad:Bool):Nat→(Int×Int)×List Int×Bool
 |0=>((0,0),rest,bad)
 |1=>(((qc rest bad 255).1,0),(qc rest bad 255).2)
 |_=>(((qc rest bad 255).1,(qc (qc rest bad 255).2.1 (qc rest bad 255).2.2 255).1),(qc (qc rest bad 255).2.1 (qc rest bad 255).2.2 255).2)
theorem qv6{rest r0:List Int}{bad b0:Bool}{op:Int}{n:Nat}(hg:qc rest bad 34=(op,r0,b0))(h:(zM op).toNat=n):
  vC rest bad=((op,(stI r0 b0 n).1.1,(stI r0 b0 n).1.2),(stI r0 b0 n).2):=by
 have hr:=YI op;unfold vC;rw[hg];dsimp only;rcases(show zM op≤0∨zM op=1∨zM op=2 by omega)with g|g|g
 ·obtain rfl:n=0:=by omega
  have c1:¬0<zM op:=by omega
  have c2:¬1<zM op:=by omega
  simp only[Xa c1,Xa c2,stI]
 ·obtain rfl:n=1:=by omega
  have c1:0<zM op:=by omega
  have c2:¬1<zM op:=by omega
  simp only[Xb c1,Xa c2,stI]
 ·obtain rfl:n=2:=by omega
  have c1:0<zM op:=by omega
  have c2:1<zM op:=by omega
  simp only[Xb c1,Xb c2,stI]
theorem st_one{rest rest':List Int}{bad bad':Bool}{x0 y0 x:Int}{r1:List Int}{b1:Bool}(h:stI r1 b1 0=((x0,y0),rest,bad))(g:qc rest bad 255=(x,rest',bad')):y0=0∧stI r1 b1 1=((x,0),rest',bad'):=by
 simp only[stI,Prod.mk.injEq]at h;obtain⟨⟨rfl,rfl⟩,rfl,rfl⟩:=h;simp[stI,g]
theorem st_two{rest rest':List Int}{bad bad':Bool}{x0 y0 x:Int}{r1:List Int}{b1:Bool}(h:stI r1 b1 1=((x0,y0),rest,bad))(g:qc rest bad 255=(x,rest',bad')):stI r1 b1 2=((x0,x),rest',bad'):=by
 simp only[stI,Prod.mk.injEq]at h;obtain⟨⟨rfl,_⟩,h⟩:=h;unfold stI;rw[h];dsimp only;rw[g];rfl
theorem q5p{rest:List Int}{bad:Bool}{most:Int}(hl:rest.length≤1048576)(hr:∀b ∈rest,0≤b∧b≤255):
  ∃n rest' bad',qc rest bad most=(n,rest',bad')∧rest'.length≤1048576∧∀b ∈rest',0≤b∧b≤255:=by
 unfold qc;split
 ·exact⟨_,_,_,rfl,by simp;omega,fun b hb=>hr b (List.mem_of_mem_drop hb)⟩
 ·exact⟨_,_,_,rfl,hl,hr⟩
theorem Rd.keep_to{w w':World}{N C:Nat}{rest:List Int}{bad:Bool}(h:Rd w N rest bad)(hb:Below C w w')(hN:N<C):Rd w' N rest bad:=by
 obtain⟨A,cap,xs,hh,hl,h1,h2,h3⟩:=h;exact⟨A,cap,xs,by rw[hb.block N hN];exact hh,hl.below_to hb (by omega),h1,h2,h3⟩
theorem q6f{w:World}{N B:Nat}{rest rest':List Int}{bad bad':Bool}{n most:Int}(HR:Hid (Rd w N rest bad))(HB:Hid (B≤N))(HL:Hid (rest.length≤1048576))(HG:Hid (∀b ∈rest,0≤b∧b≤255))(G:Hid (qc rest bad most=(n,rest',bad'))):
  Calls Tryz.prog 121 #[.pointer (some ⟨N,0,none⟩),.int .i64 most] w fun e w'=>q3x .i64 N B n rest' bad' w e w'∧jz N w w':=by
 have h:=q5z N B rest bad most w HL.out HG.out HB.out HR.out;rw[G.out]at h;exact h
abbrev blk3(x y z:Int):Obj:= .cells #[.int .i64 x,.int .i64 y,.int .i64 z] 55 (0,0)
abbrev Yr(x y:Int):Obj:= .cells #[.int .i64 x,.int .i64 y] 3 (0,0)
theorem qm6{w:World}{b:Nat}{x y z:Int}(h:w.heap[b]? =some (blk3 x y z)):w.cell? ⟨b,0,none⟩=some (.int .i64 x)∧w.cell? ⟨b,1,none⟩=some (.int .i64 y)∧w.cell? ⟨b,2,none⟩=some (.int .i64 z):=by
 refine⟨?_,?_,?_⟩<;>simp[World.cell?,h]
theorem q53{w:World}{b i:Nat}{x y z:Int}(h:w.heap[b]? =some (blk3 x y z)):w.frozen? ⟨b,i,none⟩=false:=by simp[World.frozen?,h]
def GSt(w wr:World)(N B M:Nat)(x y:Int)(rest:List Int)(bad:Bool):Prop:=
 wr.heap[w.heap.size]? =some (blk3 0 0 0)∧wr.heap[M]? =some (Yr x y)∧Rd wr N rest bad∧w.grownBy wr (some N)∧N<w.heap.size∧w.heap.size<M∧B≤N
theorem qpf{w w1 w2:World}{N B:Nat}{r0:List Int}{b0:Bool}(hN:N<w.heap.size)(hBN:B≤N)(hr:Rd w1 N r0 b0)(hb1:Below B (w.alloc (blk3 0 0 0)) w1)(hs:jz N (w.alloc (blk3 0 0 0)) w1)
  (hb2:Below (w1.alloc (Yr 0 0)).heap.size (w1.alloc (Yr 0 0)) w2):GSt w w2 N B w1.heap.size 0 0 r0 b0:=by
 have z0:(w.alloc (blk3 0 0 0)).heap.size=w.heap.size+1:=by simp
 have z1:(w1.alloc (Yr 0 0)).heap.size=w1.heap.size+1:=by simp
 have z2:=hs.1;have h12:Below w1.heap.size w1 w2:=((zb _ _).alloc (zn _) _).trans (hb2.mono (by omega));refine⟨?_,?_,hr.keep h12,?_,hN,by omega,hBN⟩
 ·rw[h12.block _ (by omega),hs.2 _ (by omega)];exact Xw _ _
 ·rw[hb2.block _ (by omega)];exact Xw _ _
 ·exact qN (qN (World.grownBy_alloc _ _ _) ⟨hb1.os,hb1.tape,hb1.output,by omega,fun b hb hn=>hs.2 b (fun e=>hn (by rw[e]))⟩) (qgt h12 _)
theorem qpe{w wr w3:World}{N B M:Nat}{x y x':Int}{rest rest':List Int}{bad bad':Bool}(h:GSt w wr N B M x y rest bad)(hr:Rd w3 N rest' bad')(hb:Below B wr w3)(hs:jz N wr w3):
  w3.heap[M]? =some (Yr x y)∧GSt w (w3.setCell ⟨M,0,none⟩ (.int .i64 x')) N B M x' y rest' bad':=by
 obtain⟨h1,h2,h3,h4,h5,h6,h7⟩:=h;have hm:w3.heap[M]? =some (Yr x y):=by rw[hs.2 M (by omega)];exact h2
 refine⟨hm,?_,q62 hm,hr.keep_to ((zb M w3).setCell (zn _) _) (by omega),qn (qN h4 ⟨hb.os,hb.tape,hb.output,hb.size,fun b hb' hn=>hs.2 b (fun e=>hn (by rw[e]))⟩) (by show w.heap.size≤M;omega) _,h5,h6,h7⟩;rw[((jz.refl M w3).setCell 0 _).2 _ (by omega),hs.2 _ (by omega)];exact h1
theorem qpd{w wr w3:World}{N B M:Nat}{x y y':Int}{rest rest':List Int}{bad bad':Bool}(h:GSt w wr N B M x y rest bad)(hr:Rd w3 N rest' bad')(hb:Below B wr w3)(hs:jz N wr w3):
  w3.heap[M]? =some (Yr x y)∧GSt w (w3.setCell ⟨M,1,none⟩ (.int .i64 y')) N B M x y' rest' bad':=by
 obtain⟨h1,h2,h3,h4,h5,h6,h7⟩:=h;have hm:w3.heap[M]? =some (Yr x y):=by rw[hs.2 M (by omega)];exact h2
 refine⟨hm,?_,qco hm,hr.keep_to ((zb M w3).setCell (zn _) _) (by omega),qn (qN h4 ⟨hb.os,hb.tape,hb.output,hb.size,fun b hb' hn=>hs.2 b (fun e=>hn (by rw[e]))⟩) (by show w.heap.size≤M;omega) _,h5,h6,h7⟩;rw[((jz.refl M w3).setCell 1 _).2 _ (by omega),hs.2 _ (by omega)];exact h1
set_option maxHeartbeats 800000 in
theorem qt0(N B:Nat)(rest:List Int)(bad:Bool)(w:World)(hl:rest.length≤1048576)(hr:∀b ∈rest,0≤b∧b≤255)(hBN:B≤N)(h:Rd w N rest bad):
  Calls Tryz.prog 161 #[.pointer (some ⟨N,0,none⟩)] w fun e w'=>qvn N B rest bad w e w'∧w.grownBy w' (some N):=by
 have hlt:=h.lt;obtain⟨op,r0,b0,hg,hl0,hr0⟩:=q5p (bad:=bad) (most:=34) hl hr;obtain⟨n,hn⟩:∃n,(zM op).toNat=n:=⟨_,rfl⟩
 have hn2:n≤2:=by have:=YI op;omega
 have HI:=zH (qv6 hg hn);have HN:=zH hn;have HG:=zH hg;have HB:=zH hBN;have HL:=zH hl;have HR:=zH hr;have HL0:=zH hl0;have HR0:=zH hr0;have HRd:=zH (h.keep ((zb _ _).alloc (zn _) (.cells #[.int .i64 0,.int .i64 0,.int .i64 0] 55)));clear hn hg hl hr hl0 hr0 h hBN;go_enter Tryz.func161,Tryz.ntmps161;go_wp2_with(first
  |(go_at_call 121;(with_reducible refine(q6f HRd HB HL HR HG).mono ?_);rintro e w1 ⟨⟨rfl,hrd,hb⟩,hs⟩;have HRd1:=zH hrd;have HB1:=zH hb;have HS1:=zH hs;clear hrd hb hs)
  |(go_at_call 165;(with_reducible refine(qvc _ _ _ _ HN.out).mono ?_);rintro e w2 ⟨v2,rfl,hb⟩;have HG2:=zH (qpf hlt HB.out HRd1.out HB1.out HS1.out hb);clear hb HRd1 HB1 HS1))
 go_loopw [19] (fun i wr=>∃(k:Nat) (x y:Int) (rest':List Int) (bad':Bool),i= .int .i64 k∧k≤n∧Hid (GSt w wr N B w1.heap.size x y rest' bad')∧Hid (rest'.length≤1048576)∧Hid (∀b ∈rest',0≤b∧b≤255)∧Hid (stI r0 b0 k=((x,y),rest',bad'))) (fun i _=>n - (intOf i).toNat)
 case atStart=>exact⟨0,0,0,r0,b0,rfl,by omega,HG2,HL0,HR0,zH rfl⟩
 case round=>
  obtain⟨k,x,y,r2,b2,rfl,hk,HS,HL2,HR2,HT⟩:=hrel;obtain⟨x',r3,b3,hg3,hl3,hr3⟩:=q5p (bad:=b2) (most:=255) HL2.out HR2.out;have HG3:=zH hg3;have HL3:=zH hl3;have HR3:=zH hr3;have HRd2:=zH HS.out.2.2.1;clear hg3 hl3 hr3;by_cases hlt':k<n
  ·rcases(show k=0∨k=1 by omega)with rfl|rfl
   ·go_wp2_with(go_at_call 121;(with_reducible refine(q6f HRd2 HB HL2 HR2 HG3).mono ?_);rintro e w3 ⟨⟨rfl,hrd,hb⟩,hs⟩;obtain⟨hm,hg⟩:=qpe (x':=x') HS.out hrd hb hs;have f0:w3.frozen? ⟨w1.heap.size,0,none⟩=false:=q3h hm;have c0:=q34 hm;have HS3:=zH hg;clear hm hg hrd hb hs)
    go_roundw;case rel=>exact⟨1,x',y,r3,b3,rfl,by omega,HS3,HL3,HR3,zH (by obtain⟨e1,e2⟩:=st_one HT.out HG3.out;rw[e1];exact e2)⟩
    case measure=>simp[intOf];omega
   ·go_wp2_with(go_at_call 121;(with_reducible refine(q6f HRd2 HB HL2 HR2 HG3).mono ?_);rintro e w3 ⟨⟨rfl,hrd,hb⟩,hs⟩;obtain⟨hm,hg⟩:=qpd (y':=x') HS.out hrd hb hs;have f1:w3.frozen? ⟨w1.heap.size,1,none⟩=false:=q3h hm;have c1:=q33 hm;have HS3:=zH hg;clear hm hg hrd hb hs)
    go_roundw;case rel=>exact⟨2,x,x',r3,b3,rfl,by omega,HS3,HL3,HR3,zH (st_two HT.out HG3.out)⟩
    case measure=>simp[intOf];omega
  ·obtain rfl:k=n:=by omega
   have c0:=q34 HS.out.2.1;have c1:=q33 HS.out.2.1;have r0':=qm6 HS.out.1;have f0:wr.frozen? ⟨w.heap.size,0,none⟩=false:=q53 HS.out.1;have f1:wr.frozen? ⟨w.heap.size,1,none⟩=false:=q53 HS.out.1;have f2:wr.frozen? ⟨w.heap.size,2,none⟩=false:=q53 HS.out.1;obtain⟨q0,q1,q2⟩:=r0';go_wp2_with fail
   go_region
   go_wp2
   refine Xl (v:=zF op x y) (by simp[results,Tryz.results161,go_sem,q0,q1,q2]) rfl ⟨⟨op,x,y,rfl,?_,?_,?_⟩,qhs (qn (qn (qn HS.out.2.2.2.1 (zn _) _) (zn _) _) (zn _) _) 1⟩
   ·rw[HI.out,HT.out];exact HS.out.2.2.1.keep_to (qZ ((((zb w.heap.size wr).setCell (zn _) _).setCell (zn _) _).setCell (zn _) _) 1) hlt
   ·have hBw:B≤w.heap.size:=Xd HB.out (Xh hlt);exact qZ ((((q8r HS.out.2.2.2.1 HB.out hlt).setCell hBw _).setCell hBw _).setCell hBw _) 1
   ·intro _;rw[HI.out,HT.out]
end Go.Proofs.YtcmiljnbmgkdnaaGreat
