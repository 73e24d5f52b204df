import Derived.Test.YtcmiljnbmgkdnaaGreatFA05
namespace Go.Proofs.YtcmiljnbmgkdnaaGreat
set_option maxRecDepth 100000
set_option linter.unusedVariables false
set_option linter.unusedSimpArgs false
open Go.ChangeShapes Go.WideShapes Go.ChangeAt Go.RowKit
theorem q92{w:World}{B e:Nat}{v:Value}{l:List (Int×Int)}(h:w.ownsRow B e 2 v l.length (zI l))(hl:0<l.length):∃g c,v= .slice (some ⟨g,0,none⟩) l.length c∧zd zh 2 w w.heap.size (some ⟨g,0,none⟩) c l∧g<w.heap.size:=by
 obtain⟨A,c,rfl,hs,_⟩:=kU h;rcases kq h with⟨_,hn⟩|⟨g,c',hv,_⟩
 ·omega
 ·injection hv with hA;subst hA;obtain⟨ad,e,hb,_⟩:=hs.row.at_ hl;injection e with e;subst e;exact⟨g,c,rfl,hs,hb⟩
theorem qqp{w:World}{B g c k:Nat}{L:List (Int×Int)}(h:zd zh 2 w B (some ⟨g,0,none⟩) c L)(hk:k<L.length):w.cell? ⟨g,k*2,none⟩=some (.int .i64 L[k].1)∧w.cell? ⟨g,k*2+1,none⟩=some (.int .i64 L[k].2):=by
 obtain⟨ad,e,hb,t0,t1⟩:=h.row.at_ hk;injection e with e;subst e;have e1:(⟨g,0,none⟩:Addr).add (k*2)=⟨g,k*2,none⟩:=by
  unfold Addr.add;by_cases q:k*2=0
  ·simp[q]
  ·simp[q]
 rw[e1]at t0 t1;exact⟨t0,t1⟩
theorem qca{w:World}{B g c k:Nat}{L:List (Int×Int)}(h:zd zh 2 w B (some ⟨g,0,none⟩) c L)(hk:k<L.length):zd zh 2 w B (some ⟨g,k*2,none⟩) (c - k) [L[k]]:=by
 refine⟨by have:=h.le;show 1≤c - k;omega,by have:=h.cap;omega,fun i t hi=> ?_⟩;obtain⟨ad,e,hb,ht⟩:=h.row.at_ hk;injection e with e;subst e
 match i,hi with
 |0,hi=>
  simp at hi;subst hi;refine⟨_,rfl,hb,?_⟩;have e1:(⟨g,k*2,none⟩:Addr).add (0*2)=(⟨g,0,none⟩:Addr).add (k*2):=by
   unfold Addr.add;by_cases q:k*2=0
   ·simp[q]
   ·simp[q]
  rw[e1];exact ht
 |i+1,hi=>simp at hi
set_option maxHeartbeats 1600000 in
theorem qtq(m:za)(x:zf)(f:Nat)(a:Int)(k:Nat)(hk:k<(zV m.classes a).length)(hn:m.classes.length≤1000)(hf:∀x ∈m.classes,x.fields.length≤1000)(h:zg)(w:World)(H:zi w w.heap.size h m):
  Calls Tryz.prog 101 #[zk h m,.int .i64 f,zz 27 a (k:Int)] w (jB (zB m x 27 a (k:Int)) (zy m x 27 a (k:Int)) w):=by
 obtain⟨L,hL⟩:∃L,zV m.classes a=L:=⟨_,rfl⟩
 have HL:=zH hL;rw[hL]at hk;have HF:=zH hf;have hLl:L.length≤1000000:=by rw[←hL];exact VN hf hn a
 have hL0:0<L.length:=by omega
 have e0:ZL m a (k:Int)=L[k]:=by unfold ZL;rw[hL,Xe,Xc hk];rfl
 have e1:zB m x 27 a (k:Int)=[(3,a)]:=by simp[zB]
 have e2:zy m x 27 a (k:Int)=[L[k]]:=by simp[zy,e0]
 rw[e1,e2];clear e0 e1 e2 hL hf;obtain⟨hw,hp⟩:=jI h m 27 a (k:Int) w;have HW:=zH hw;have HP:=zH hp;have HI:=zH (H.now hw);clear hw hp H;go_enter Tryz.func101,Tryz.ntmps101;go_upto_region 3 with fail
 change Code.wp _ _ _ _ (qc h m 27 a (k:Int) w);generalize qc h m 27 a (k:Int) w=w1 at*
 obtain⟨o0,o1,o2⟩:=zM HP.out.ins;have hz:=HP.out.size;have HX:Hid (Below w1.heap.size w1 w1.drew):=zH (zb w1.heap.size w1).drew;have HXA:Hid (Below w1.heap.size w1 (w1.alloc (.cells #[.int .i64 3,.int .i64 a] 50)).drew):=zH ((zb w1.heap.size w1).alloc (zn _) _).drew;have HK:Hid (∀W,Below w1.heap.size w1 W→(fun w'=>w'.cell? ⟨w.heap.size,0,none⟩=some (.slice h.A0 m.classes.length h.c0)∧w'.cell? ⟨w.heap.size,1,none⟩=some (.slice h.A1 m.statics.length h.c1)∧w'.cell? ⟨w.heap.size,2,none⟩=some (.slice h.A2 m.ints.length h.c2)∧w'.cell? ⟨w.heap.size,3,none⟩=some (.slice h.A3 m.methods.length h.c3)∧w'.cell? ⟨w.heap.size,4,none⟩=some (.slice h.A4 m.entries.length h.c4)∧w'.cell? ⟨w.heap.size,5,none⟩=some (.int .i64 m.stack)∧w'.cell? ⟨w.heap.size,6,none⟩=some (.int .i64 m.heap)∧w'.cell? ⟨w.heap.size+1,1,none⟩=some (.int .i64 a)∧w'.cell? ⟨w.heap.size+1,2,none⟩=some (.int .i64 (k:Int))∧w'.cell? ⟨w.heap.size+1+1+1+1+1+1,0,none⟩=some (.int .i64 3)∧w'.cell? ⟨w.heap.size+1+1+1+1+1+1,1,none⟩=some (.int .i64 a)) W):=zH (fun W hW=>by
  obtain⟨d0,d1,d2,d3,d4,d5,d6⟩:=HP.out.img.keep hW (by omega);have di:=HP.out.ins.keep hW (by omega);have d3:=HP.out.t3.keep hW (by omega);exact⟨d0,d1,d2,by assumption,d4,d5,d6,di 1 _ rfl,di 2 _ rfl,d3 0 _ rfl,d3 1 _ rfl⟩)
 go_wp2_with fail
 have hw1:IntKind.i64.wrap ((k:Int)+1)=(k:Int)+1:=IntWalk.i64_in _ (by omega);go_region_held3 (fun w'=>w'.cell? ⟨w.heap.size,0,none⟩=some (.slice h.A0 m.classes.length h.c0)∧w'.cell? ⟨w.heap.size,1,none⟩=some (.slice h.A1 m.statics.length h.c1)∧w'.cell? ⟨w.heap.size,2,none⟩=some (.slice h.A2 m.ints.length h.c2)∧w'.cell? ⟨w.heap.size,3,none⟩=some (.slice h.A3 m.methods.length h.c3)∧w'.cell? ⟨w.heap.size,4,none⟩=some (.slice h.A4 m.entries.length h.c4)∧w'.cell? ⟨w.heap.size,5,none⟩=some (.int .i64 m.stack)∧w'.cell? ⟨w.heap.size,6,none⟩=some (.int .i64 m.heap)∧w'.cell? ⟨w.heap.size+1,1,none⟩=some (.int .i64 a)∧w'.cell? ⟨w.heap.size+1,2,none⟩=some (.int .i64 (k:Int))∧w'.cell? ⟨w.heap.size+1+1+1+1+1+1,0,none⟩=some (.int .i64 3)∧w'.cell? ⟨w.heap.size+1+1+1+1+1+1,1,none⟩=some (.int .i64 a)) (first|exact HK.out _ HX.out|exact HK.out _ HXA.out|exact HK.out _ HX3.out|exact HK.out _ (HX3.out.alloc HX3.out.size _)) (first|(go_at_call 46;(first|((with_reducible refine(q1m HI HX HL hn HF).mono ?_);have HY:=HX)|((with_reducible refine(q1m HI HXA HL hn HF).mono ?_);have HY:=HXA));rintro e w3 ⟨v3,rfl,ho,hb⟩;obtain⟨g,c3,rfl,hs,hg⟩:=q92 ho hL0;have HX3:=zl HY hb;have HZ3:=zH hb;have HS3:=zH hs;have HG3:=zH hg;have hc3:=HS3.out.le;have hc3':=HS3.out.cap;have hb1:(0:Int)≤(k:Int)+1:=(by omega);have hb2:(k:Int)+1≤(c3:Int):=(by omega);have hb3:¬c3=k:=(by omega);clear ho hb hs hg))
 all_goals
  go_wp2_with fail
  go_ret2
  first
   |exact⟨_,_,_,_,rfl,jV (by simp) (by go_simp) (by go_simp),qca ((HS3.out.below_to zh.keeps ((zb w3.heap.size w3).alloc (zn _) _) (zn _)).keep' zh.keeps (by simp) (fun _ _=>rfl)) hk,HW.out.trans ((HX3.out.alloc HX3.out.size _).mono HW.out.size)⟩
   |exact⟨_,_,_,_,rfl,jV (Xp (by simp;omega) HZ3.out.size) ((HZ3.out.cell (p:=⟨w.heap.size+1+1+1+1+1+1+1,0,none⟩) (by simp;omega)).trans (by go_simp)) ((HZ3.out.cell (p:=⟨w.heap.size+1+1+1+1+1+1+1,1,none⟩) (by simp;omega)).trans (by go_simp)),qca HS3.out hk,HW.out.trans (HX3.out.mono HW.out.size)⟩
set_option maxHeartbeats 1600000 in
theorem qtp(m:za)(x:zf)(f:Nat)(a:Int)(k:Nat)(hk:k<(zV m.classes a).length)(hn:m.classes.length≤1000)(hf:∀x ∈m.classes,x.fields.length≤1000)(h:zg)(w:World)(H:zi w w.heap.size h m):
  Calls Tryz.prog 101 #[zk h m,.int .i64 f,zz 28 a (k:Int)] w (jB (zB m x 28 a (k:Int)) (zy m x 28 a (k:Int)) w):=by
 obtain⟨L,hL⟩:∃L,zV m.classes a=L:=⟨_,rfl⟩
 have HL:=zH hL;rw[hL]at hk;have HF:=zH hf;have hLl:L.length≤1000000:=by rw[←hL];exact VN hf hn a
 have hL0:0<L.length:=by omega
 have e0:ZL m a (k:Int)=L[k]:=by unfold ZL;rw[hL,Xe,Xc hk];rfl
 have e1:zB m x 28 a (k:Int)=[(3,a),L[k]]:=by simp[zB,e0]
 have e2:zy m x 28 a (k:Int)=[]:=by simp[zy]
 rw[e1,e2];clear e0 e1 e2 hL hf;obtain⟨hw,hp⟩:=jI h m 28 a (k:Int) w;have HW:=zH hw;have HP:=zH hp;have HI:=zH (H.now hw);clear hw hp H;go_enter Tryz.func101,Tryz.ntmps101;go_upto_region 3 with fail
 change Code.wp _ _ _ _ (qc h m 28 a (k:Int) w);generalize qc h m 28 a (k:Int) w=w1 at*
 obtain⟨o0,o1,o2⟩:=zM HP.out.ins;have hz:=HP.out.size;have HX:Hid (Below w1.heap.size w1 w1.drew):=zH (zb w1.heap.size w1).drew;have HXA:Hid (Below w1.heap.size w1 (w1.alloc (.cells #[.int .i64 3,.int .i64 a] 50)).drew):=zH ((zb w1.heap.size w1).alloc (zn _) _).drew;have HK:Hid (∀W,Below w1.heap.size w1 W→(fun w'=>w'.cell? ⟨w.heap.size,0,none⟩=some (.slice h.A0 m.classes.length h.c0)∧w'.cell? ⟨w.heap.size,1,none⟩=some (.slice h.A1 m.statics.length h.c1)∧w'.cell? ⟨w.heap.size,2,none⟩=some (.slice h.A2 m.ints.length h.c2)∧w'.cell? ⟨w.heap.size,3,none⟩=some (.slice h.A3 m.methods.length h.c3)∧w'.cell? ⟨w.heap.size,4,none⟩=some (.slice h.A4 m.entries.length h.c4)∧w'.cell? ⟨w.heap.size,5,none⟩=some (.int .i64 m.stack)∧w'.cell? ⟨w.heap.size,6,none⟩=some (.int .i64 m.heap)∧w'.cell? ⟨w.heap.size+1,1,none⟩=some (.int .i64 a)∧w'.cell? ⟨w.heap.size+1,2,none⟩=some (.int .i64 (k:Int))∧w'.cell? ⟨w.heap.size+1+1+1+1+1+1,0,none⟩=some (.int .i64 3)∧w'.cell? ⟨w.heap.size+1+1+1+1+1+1,1,none⟩=some (.int .i64 a)) W):=zH (fun W hW=>by
  obtain⟨d0,d1,d2,d3,d4,d5,d6⟩:=HP.out.img.keep hW (by omega);have di:=HP.out.ins.keep hW (by omega);have d3:=HP.out.t3.keep hW (by omega);exact⟨d0,d1,d2,by assumption,d4,d5,d6,di 1 _ rfl,di 2 _ rfl,d3 0 _ rfl,d3 1 _ rfl⟩)
 go_wp2_with fail
 refine wp_region_noPanic ?_;refine wp_region_held_drew (S:=(fun w'=>w'.cell? ⟨w.heap.size,0,none⟩=some (.slice h.A0 m.classes.length h.c0)∧w'.cell? ⟨w.heap.size,1,none⟩=some (.slice h.A1 m.statics.length h.c1)∧w'.cell? ⟨w.heap.size,2,none⟩=some (.slice h.A2 m.ints.length h.c2)∧w'.cell? ⟨w.heap.size,3,none⟩=some (.slice h.A3 m.methods.length h.c3)∧w'.cell? ⟨w.heap.size,4,none⟩=some (.slice h.A4 m.entries.length h.c4)∧w'.cell? ⟨w.heap.size,5,none⟩=some (.int .i64 m.stack)∧w'.cell? ⟨w.heap.size,6,none⟩=some (.int .i64 m.heap)∧w'.cell? ⟨w.heap.size+1,1,none⟩=some (.int .i64 a)∧w'.cell? ⟨w.heap.size+1,2,none⟩=some (.int .i64 (k:Int))∧w'.cell? ⟨w.heap.size+1+1+1+1+1+1,0,none⟩=some (.int .i64 3)∧w'.cell? ⟨w.heap.size+1+1+1+1+1+1,1,none⟩=some (.int .i64 a))) (by kernel_rfl) (HK.out _ HX.out) (fun hHeld=> ?_);refine mT 0 (h:=mT 1 (h:=mT 2 (h:=mT 3 (h:=mT 5 (h:=mT 6 (h:= ?_))))));refine wpAnyH_ready (rs:=[4]) (by kernel_rfl) (by simp) ?_;refine AllReadyH.cons (o:=_) rfl (fun K hK=> ?_) AllReadyH.nil;go_simp;go_wp2_with(go_at_call 46;(with_reducible refine(q1m HI HX HL hn HF).mono ?_);rintro e w3 ⟨v3,rfl,ho,hb⟩;obtain⟨g,c3,rfl,hs,hg⟩:=q92 ho hL0;have HX3:=zl HX hb;have HS3:=zH hs;have HG3:=zH hg;have hc3:=HS3.out.le;have hc3':=HS3.out.cap;obtain⟨r0,r1⟩:=qqp HS3.out hk;clear ho hb hs hg)
 refine hK.out _ _ (HK.out _ HX3.out) (fun hHeld=> ?_);clear hK K;try simp only[sA,sB,sC,Act.put,sD,sE,sF]
 refine mT 7 (h:= ?_);refine wpAnyH_ready (rs:=[8]) (by kernel_rfl) (by simp) ?_;refine AllReadyH.cons (o:=_) rfl (fun K hK=> ?_) AllReadyH.nil;go_simp;refine hK.out _ _ (HK.out _ HX3.out) (fun hHeld=> ?_);clear hK K;try simp only[sA,sB,sC,Act.put,sD,sE,sF]
 refine wpAnyH_ready (rs:=[9]) (by kernel_rfl) (by simp) ?_;refine AllReadyH.cons (o:=_) rfl (fun K hK=> ?_) AllReadyH.nil;go_simp;refine hK.out _ _ (HK.out _ (HX3.out.alloc HX3.out.size _)) (fun hHeld=> ?_);clear hK K;try simp only[sA,sB,sC,Act.put,sD,sE,sF]
 refine mT 10 (h:=mT 11 (h:= ?_));refine wpAnyH_done (by kernel_rfl) ?_ _;refine NoPanic.normal ?_;go_wp2_with fail
 go_ret2
 exact⟨_,_,_,_,rfl,q2s (by simp) (by go_simp) (by go_simp) (by go_simp) (by go_simp),ja,HW.out.trans ((HX3.out.alloc HX3.out.size _).mono HW.out.size)⟩
def q0u(sup:List Int)(a b m:Int):Prop:=
 (m= -1∧∀x ∈zv sup a,x ∉zv sup b)∨(0≤m∧m ∈zv sup a∧m ∈zv sup b∧∀y ∈zv sup a,y ∈zv sup b→y≤m)
def VI(sup:List Int)(a b c d:Int):Prop:=∀x,x ∈zv sup a∧x ∈zv sup b↔x ∈zv sup c∧x ∈zv sup d
theorem qh0{sup:List Int}{a b c d:Int}(h:VI sup a b c d)(h0:0≤c)(h1:c<sup.length)(hdc:d<c):VI sup a b (jR sup c) d:=fun x=>by
 rw[h x,q0a h0 h1,Xz];constructor
 ·rintro⟨rfl|g,g2⟩
  ·have:=kj g2;omega
  ·exact⟨g,g2⟩
 ·rintro⟨g,g2⟩;exact⟨.inr g,g2⟩
theorem qfs{sup:List Int}{a b c d:Int}(h:VI sup a b c d)(h0:0≤d)(h1:d<sup.length)(hdc:c<d):VI sup a b c (jR sup d):=fun x=>by
 rw[h x,q0a h0 h1,Xz];constructor
 ·rintro⟨g2,rfl|g⟩
  ·have:=kj g2;omega
  ·exact⟨g2,g⟩
 ·rintro⟨g,g2⟩;exact⟨g,.inr g2⟩
theorem qgz{sup:List Int}{a b c:Int}(h:VI sup a b c c)(h0: -1≤c)(h1:c<sup.length):q0u sup a b c:=by
 by_cases hc:0≤c
 ·have g:=(h c).mpr ⟨Vi hc h1,Vi hc h1⟩;exact .inr ⟨hc,g.1,g.2,fun y g1 g2=>(kj ((h y).mp ⟨g1,g2⟩).1).2.1⟩
 ·exact .inl ⟨by omega,fun x g1 g2=>by have:=kj ((h x).mp ⟨g1,g2⟩).1;omega⟩
theorem qo1(sup:List Int)(a b:Int)(A:Option Addr)(cap B:Nat)(w:World)(hl:sup.length≤1048576)(hB:B≤w.heap.size)(h:qD w B A sup):
  Calls Tryz.prog 186 #[.slice A sup.length cap,.int .i64 a,.int .i64 b] w fun e w'=>(∃m,e= .returned (.int .i64 m)∧q0u sup a b m)∧w=w':=by
 have HS:=zH h;clear h;by_cases ha:kZ sup a=true
 ·by_cases hb:kZ sup b=true
  ·obtain⟨a0,a1⟩:=q1p ha;obtain⟨b0,b1⟩:=q1p hb;have HA:=zH ha;have HB:=zH hb;clear ha hb;go_enter Tryz.func186,Tryz.ntmps186;go_wp2_with(first
    |(go_at_call 199;(with_reducible refine(QS sup a A cap w hl).mono ?_);rintro e w' ⟨he,rfl⟩;rw[HA.out]at he;subst he)
    |(go_at_call 199;(with_reducible refine(QS sup b A cap w hl).mono ?_);rintro e w' ⟨he,rfl⟩;rw[HB.out]at he;subst he))
   go_loop [1,2] (fun i j=>∃c d:Int,i= .int .i64 c∧j= .int .i64 d∧ -1≤c∧c<sup.length∧ -1≤d∧d<sup.length∧VI sup a b c d) (fun i j=>(intOf i+1).toNat+(intOf j+1).toNat)
   case atStart=>exact⟨a,b,rfl,rfl,by omega,a1,by omega,b1,fun _=>Iff.rfl⟩
   case round=>
    obtain⟨c,d,rfl,rfl,c0,c1,d0,d1,hn⟩:=hrel;have HN:=zH hn;clear hn;have hs:=VP sup c;have ht:=VP sup d;by_cases hcd:c=d
    ·subst hcd;have R:=zH (qgz HN.out c0 c1);clear HN hs ht;go_wp2_with fail
     go_ret;exact⟨⟨_,rfl,R.out⟩,rfl⟩
    ·by_cases hdc:d<c
     ·have hc0:0≤c:=by omega
      have R:=zH (qh0 HN.out hc0 c1 hdc);have h2:=hs.2 hc0;clear HN ht;go_wp2_with(go_at_call 200;(with_reducible refine(q43 sup c hc0 c1 A cap B w hl HS.out).mono ?_);rintro e w' ⟨rfl,rfl⟩)
      go_round
      case rel=>exact⟨jR sup c,d,rfl,rfl,hs.1,by omega,d0,d1,R.out⟩
      case measure=>simp[intOf];omega
     ·have hd0:0≤d:=by omega
      have R:=zH (qfs HN.out hd0 d1 (by omega));have h2:=ht.2 hd0;clear HN hs;go_wp2_with(go_at_call 200;(with_reducible refine(q43 sup d hd0 d1 A cap B w hl HS.out).mono ?_);rintro e w' ⟨rfl,rfl⟩)
      go_round
      case rel=>exact⟨c,jR sup d,rfl,rfl,c0,c1,ht.1,by omega,R.out⟩
      case measure=>simp[intOf];omega
  ·have HA:=zH ha;have HB:=zH (show kZ sup b=false by simpa using hb);have R:=zH (show q0u sup a b (-1)from .inl ⟨rfl,fun x g g2=>by have:=kj g2;have:=q1h hb;omega⟩);clear ha hb;go_enter Tryz.func186,Tryz.ntmps186;go_wp2_with(first
    |(go_at_call 199;(with_reducible refine(QS sup a A cap w hl).mono ?_);rintro e w' ⟨he,rfl⟩;rw[HA.out]at he;subst he)
    |(go_at_call 199;(with_reducible refine(QS sup b A cap w hl).mono ?_);rintro e w' ⟨he,rfl⟩;rw[HB.out]at he;subst he))
   go_ret;exact⟨⟨_,rfl,R.out⟩,rfl⟩
 ·have HA:=zH (show kZ sup a=false by simpa using ha);have R:=zH (show q0u sup a b (-1)from .inl ⟨rfl,fun x g g2=>by have:=kj g;have:=q1h ha;omega⟩);clear ha;go_enter Tryz.func186,Tryz.ntmps186;go_wp2_with(go_at_call 199;(with_reducible refine(QS sup a A cap w hl).mono ?_);rintro e w' ⟨he,rfl⟩;rw[HA.out]at he;subst he)
  go_ret;exact⟨⟨_,rfl,R.out⟩,rfl⟩
theorem q4v(sup:List Int)(k n k' n':Int)(A:Option Addr)(cap B:Nat)(w:World)(hl:sup.length≤1048576)(hB:B≤w.heap.size)(h:qD w B A sup)(hno:¬(k=3∧k'=3)∨zw sup k n k' n'=true∨zw sup k' n' k n=true):
  Calls Tryz.prog 145 #[.slice A sup.length cap,zA k n,zA k' n'] w fun e w'=>e= .returned (zA (qe sup k n k' n').1 (qe sup k n k' n').2)∧Below w.heap.size w w':=by
 have hW:Below w.heap.size w (((w.alloc (.cells #[.int .i64 k,.int .i64 n] 50)).alloc (.cells #[.int .i64 k',.int .i64 n'] 50)).alloc (.cells #[.int .i64 0,.int .i64 0] 50)):=
  (((zb w.heap.size w).alloc (zn _) _).alloc (by simp) _).alloc (by simp;omega) _
 have HS:=zH (h.below_to hW hB);have HW:=zH hW;have HB:=zH hB;clear h hW hB;have J:=zH (show qe sup k n k' n'=if zw sup k n k' n' then(k',n')else if zw sup k' n' k n then(k,n)else if k=3∧k'=3 then qP ((zv sup n).drop 1) (zv sup n')else(0,0)from rfl);generalize qe sup k n k' n'=j at J⊢
 have hz1:w.heap.size<w.heap.size+1+1+1:=by omega
 have hz2:w.heap.size+1<w.heap.size+1+1+1:=by omega
 by_cases h1:zw sup k n k' n'=true
 ·have J2:=zH (show j=(k',n')by rw[J.out,Xb h1]);have H1:=zH h1;clear h1 J;go_enter Tryz.func145,Tryz.ntmps145;go_wp2_with(go_at_call 144;(with_reducible refine(QW sup _ _ _ _ A cap B _ hl (by have:=HB.out;simp;omega) HS.out).mono ?_);rintro e w1 ⟨he,hb⟩;rw[H1.out]at he;subst he;obtain⟨hc,hf⟩:=kT hb;obtain⟨r0,r1,r2,r3⟩:=Zk hb)
  rw[J2.out];refine Xn (v:=zA k' n') ?_ rfl ⟨rfl,?_⟩
  ·simp[results,Tryz.results145,go_sem,r0,r1]
  ·exact HW.out.trans (((hb.mono (by simp;omega)).setCell (by simp;omega) _).setCell (by simp;omega) _)
 ·have F1:=zH (show zw sup k n k' n'=false by simpa using h1);have H1:=F1;clear h1;by_cases h2:zw sup k' n' k n=true
  ·have J2:=zH (show j=(k,n)by rw[J.out,F1.out,h2];rfl);have H2:=zH h2;clear h2 J;go_enter Tryz.func145,Tryz.ntmps145;go_wp2_with(first|(go_at_call 144;(with_reducible refine(QW sup _ _ _ _ A cap B _ hl (by have:=HB.out;simp;omega) HS.out).mono ?_);rintro e w1 ⟨he,hb⟩;rw[H1.out]at he;subst he;obtain⟨hc,hf⟩:=kT hb;obtain⟨r0,r1,r2,r3⟩:=Zk hb;obtain⟨q0,q1,q2,q3⟩:=ZZ hb;have HS1:=zH (HS.out.below_to hb (by have:=HB.out;simp;omega));have HZ:=zH hb.size)|(go_at_call 144;(with_reducible refine(QW sup _ _ _ _ A cap B _ hl (by have:=HB.out;have:=HZ.out;simp at this;omega) HS1.out).mono ?_);rintro e w2 ⟨he,hb2⟩;rw[H2.out]at he;subst he;have hbb:=zH (hb.trans (hb2.mono hb.size));clear hc hf r0 r1 r2 r3 q0 q1 q2 q3;obtain⟨hc,hf⟩:=kT hbb.out;obtain⟨r0,r1,r2,r3⟩:=Zk hbb.out;obtain⟨q0,q1,q2,q3⟩:=ZZ hbb.out;have HS2:=zH (HS.out.below_to hbb.out (by have:=HB.out;simp;omega));have HZ2:=zH hbb.out.size))
   rw[J2.out];refine Xn (v:=zA k n) ?_ rfl ⟨rfl,?_⟩
   ·simp[results,Tryz.results145,go_sem,r0,r1]
   ·exact HW.out.trans (((hbb.out.mono (by simp;omega)).setCell (by simp;omega) _).setCell (by simp;omega) _)
  ·have H2:=zH (show zw sup k' n' k n=false by simpa using h2);clear h2;by_cases h3:k=3∧k'=3
   ·rcases hno with g|g|g
    ·exact absurd h3 g
    ·rw[H1.out]at g;cases g
    ·rw[H2.out]at g;cases g
   ·have J2:=zH (show j=(0,0)by rw[J.out,H1.out,H2.out,Xa h3];rfl);have h3':¬k=3∨(k=3∧¬k'=3):=by omega
    clear h3 J;rcases h3' with h3|⟨rfl,h3⟩
    all_goals
     go_enter Tryz.func145,Tryz.ntmps145;go_wp2_with(first|(go_at_call 144;(with_reducible refine(QW sup _ _ _ _ A cap B _ hl (by have:=HB.out;simp;omega) HS.out).mono ?_);rintro e w1 ⟨he,hb⟩;rw[H1.out]at he;subst he;obtain⟨hc,hf⟩:=kT hb;obtain⟨r0,r1,r2,r3⟩:=Zk hb;obtain⟨q0,q1,q2,q3⟩:=ZZ hb;have HS1:=zH (HS.out.below_to hb (by have:=HB.out;simp;omega));have HZ:=zH hb.size)|(go_at_call 144;(with_reducible refine(QW sup _ _ _ _ A cap B _ hl (by have:=HB.out;have:=HZ.out;simp at this;omega) HS1.out).mono ?_);rintro e w2 ⟨he,hb2⟩;rw[H2.out]at he;subst he;have hbb:=zH (hb.trans (hb2.mono hb.size));clear hc hf r0 r1 r2 r3 q0 q1 q2 q3;obtain⟨hc,hf⟩:=kT hbb.out;obtain⟨r0,r1,r2,r3⟩:=Zk hbb.out;obtain⟨q0,q1,q2,q3⟩:=ZZ hbb.out;have HS2:=zH (HS.out.below_to hbb.out (by have:=HB.out;simp;omega));have HZ2:=zH hbb.out.size))
     rw[J2.out];refine Xn (v:=zA 0 0) ?_ rfl ⟨rfl,?_⟩
     ·simp[results,Tryz.results145,go_sem,r0,r1]
     ·exact HW.out.trans (((hbb.out.mono (by simp;omega)).setCell (by simp;omega) _).setCell (by simp;omega) _)
theorem qnv{sup:List Int}{n n' m:Int}(h1:zw sup 3 n 3 n'=false)(h2:zw sup 3 n' 3 n=false)(h:q0u sup n n' m):
  qP ((zv sup n).drop 1) (zv sup n')=if m= -1 then(0,0)else(3,m):=by
 have a1:n' ∉zv sup n:=fun g=>by rw[(vv ..).mpr (.inr (.inl ⟨rfl,rfl,g⟩))]at h1;cases h1
 have a2:n ∉zv sup n':=fun g=>by rw[(vv ..).mpr (.inr (.inl ⟨rfl,rfl,g⟩))]at h2;cases h2
 rcases h with⟨rfl,h⟩|⟨g0,g1,g2,g3⟩
 ·rw[Xb rfl];rcases q2t a1 a2 with⟨e,_⟩|⟨x,_,f1,f2,_⟩
  ·exact e
  ·exact absurd f2 (h x f1)
 ·rw[Xa (by omega)];rcases q2t a1 a2 with⟨_,f⟩|⟨x,e,f1,f2,f3⟩
  ·exact absurd g2 (f m g1)
  ·have:=f3 m g1 g2;have:=g3 x f1 f2;rw[e,show x=m by omega]
theorem qrs(sup:List Int)(n n':Int)(A:Option Addr)(cap B:Nat)(w:World)(hl:sup.length≤1048576)(hB:B≤w.heap.size)(h:qD w B A sup)
  (h1:zw sup 3 n 3 n'=false) (h2:zw sup 3 n' 3 n=false):
  Calls Tryz.prog 145 #[.slice A sup.length cap,zA 3 n,zA 3 n'] w fun e w'=>e= .returned (zA (qP ((zv sup n).drop 1) (zv sup n')).1 (qP ((zv sup n).drop 1) (zv sup n')).2)∧Below w.heap.size w w':=by
 have hW:Below w.heap.size w (((w.alloc (.cells #[.int .i64 3,.int .i64 n] 50)).alloc (.cells #[.int .i64 3,.int .i64 n'] 50)).alloc (.cells #[.int .i64 0,.int .i64 0] 50)):=
  (((zb w.heap.size w).alloc (zn _) _).alloc (by simp) _).alloc (by simp;omega) _
 have HS:=zH (h.below_to hW hB);have HW:=zH hW;have HB:=zH hB;clear h hW hB;have H1:=zH h1;have H2:=zH h2;clear h1 h2;have J:=zH (fun m=> @qnv sup n n' m H1.out H2.out);generalize qP ((zv sup n).drop 1) (zv sup n')=j at J⊢
 go_enter Tryz.func145,Tryz.ntmps145;go_wp2_with(first|(go_at_call 144;(with_reducible refine(QW sup _ _ _ _ A cap B _ hl (by have:=HB.out;simp;omega) HS.out).mono ?_);rintro e w1 ⟨he,hb⟩;rw[H1.out]at he;subst he;obtain⟨hc,hf⟩:=kT hb;obtain⟨r0,r1,r2,r3⟩:=Zk hb;obtain⟨q0,q1,q2,q3⟩:=ZZ hb;have HS1:=zH (HS.out.below_to hb (by have:=HB.out;simp;omega));have HZ:=zH hb.size)|(go_at_call 144;(with_reducible refine(QW sup _ _ _ _ A cap B _ hl (by have:=HB.out;have:=HZ.out;simp at this;omega) HS1.out).mono ?_);rintro e w2 ⟨he,hb2⟩;rw[H2.out]at he;subst he;have hbb:=zH (hb.trans (hb2.mono hb.size));clear hc hf r0 r1 r2 r3 q0 q1 q2 q3;obtain⟨hc,hf⟩:=kT hbb.out;obtain⟨r0,r1,r2,r3⟩:=Zk hbb.out;obtain⟨q0,q1,q2,q3⟩:=ZZ hbb.out;have HS2:=zH (HS.out.below_to hbb.out (by have:=HB.out;simp;omega));have HZ2:=zH hbb.out.size)|(go_at_call 186;(with_reducible refine(qo1 sup _ _ A cap B _ hl (by have:=HB.out;have:=HZ2.out;simp at this;omega) HS2.out).mono ?_);rintro e w3 ⟨⟨m,rfl,hm⟩,rfl⟩;have J2:=zH (J.out m hm);clear J;by_cases hm1:m= -1))
 ·have J3:=zH (show j=(0,0)by rw[J2.out,Xb hm1]);rw[J3.out];refine Xn (v:=zA 0 0) ?_ rfl ⟨rfl,?_⟩
  ·simp[results,Tryz.results145,go_sem,r0,r1]
  ·exact HW.out.trans (((hbb.out.mono (by simp;omega)).setCell (by simp;omega) _).setCell (by simp;omega) _)
 ·have J3:=zH (show j=(3,m)by rw[J2.out,Xa hm1]);rw[J3.out];refine Xn (v:=zA 3 m) ?_ rfl ⟨rfl,?_⟩
  ·simp[results,Tryz.results145,go_sem,r0,r1]
  ·exact HW.out.trans (((hbb.out.mono (by simp;omega)).setCell (by simp;omega) _).setCell (by simp;omega) _)
theorem qo2(sup:List Int)(k n k' n':Int)(A:Option Addr)(cap B:Nat)(w:World)(hl:sup.length≤1048576)(hB:B≤w.heap.size)(h:qD w B A sup):
  Calls Tryz.prog 145 #[.slice A sup.length cap,zA k n,zA k' n'] w fun e w'=>e= .returned (zA (qe sup k n k' n').1 (qe sup k n k' n').2)∧Below w.heap.size w w':=by
 by_cases h1:zw sup k n k' n'=true
 ·exact q4v sup k n k' n' A cap B w hl hB h (.inr (.inl h1))
 ·by_cases h2:zw sup k' n' k n=true
  ·exact q4v sup k n k' n' A cap B w hl hB h (.inr (.inr h2))
  ·by_cases h3:k=3∧k'=3
   ·obtain⟨rfl,rfl⟩:=h3;have e:qe sup 3 n 3 n'=qP ((zv sup n).drop 1) (zv sup n'):=by unfold qe;rw[Xa h1,Xa h2,Xb ⟨rfl,rfl⟩]
    rw[e];exact qrs sup n n' A cap B w hl hB h (by simpa using h1) (by simpa using h2)
   ·exact q4v sup k n k' n' A cap B w hl hB h (.inl h3)
theorem q9j{w:World}{B c n:Nat}{ad:Addr}{L:List (Int×Int)}(h:zd zh 2 w B (some ad) c L)(hn:n≤L.length):zd zh 2 w B (some (ad.add (n*2))) (c - n) (L.drop n):=by
 refine⟨by have:=h.le;rw[XF];omega,by have:=h.cap;omega,fun i t hi=> ?_⟩;rw[List.getElem?_drop]at hi;obtain⟨ad',e,hb,ht⟩:=h.row (n+i) t hi;injection e with e;subst e;refine⟨_,rfl,by rw[zp];exact hb,?_⟩;rw[Vc,←Nat.add_mul];exact ht
theorem Vo{w:World}{B c:Nat}{A:Option Addr}{L:List (Int×Int)}(hL:L=[])(hc:c≤9223372036854775807):zd zh 2 w B A c L:=by
 subst hL;exact⟨Xl _,hc,qB.nil⟩
theorem qgq(m:za)(f:Nat)(x:zf)(hal:0<x.args.length)(h:zg)(w:World)(H:zi w w.heap.size h m)(hx:m.methods[f]? =some x):
  Calls Tryz.prog 176 #[zk h m,.int .i64 f] w (qd (x.args.drop 1) w):=by
 have HW:=zH ((zb w.heap.size w).alloc (zn _) (zo h m));have HI:=zH (H.now HW.out);have HBX:=zH (zX w h m);have HLE:=zH hx;have hdl:(x.args.drop 1).length=x.args.length - 1:=XF;have HDL:=zH hdl;clear H hx hdl;go_enter Tryz.func176,Tryz.ntmps176;go_upto_region 1 with fail
 generalize w.alloc (zo h m)=w1 at*
 obtain⟨q0,q1,q2,q3,q4,q5,q6⟩:=HBX.out;have HX0:Hid (Below w1.heap.size w1 w1):=zH (zb _ _);go_upto_region 2 with(go_at_call 175;(with_reducible refine(qd6 HI HX0 HLE.out).mono ?_);rintro e w2 ⟨A,c,rfl,hs,hb⟩;have HS2:=zH hs;have HB2:=zH hb;clear hs hb)
 obtain⟨ad,rfl,hab,_⟩:=HS2.out.row.at_ (i:=0) hal;have hle:=HS2.out.le;have hcap:=HS2.out.cap;have hgt:(x.args.length:Int)>0:=by omega
 have hb1:(1:Int)≤(x.args.length:Int):=by omega
 have hb2:(x.args.length:Int)≤(c:Int):=by omega
 by_cases hc1:c=1
 ·subst hc1;go_wp2_with fail
  go_ret;exact⟨some ad,0,by rw[show(x.args.drop 1).length=0 by rw[HDL.out];omega];rfl,Vo (XZ (by rw[HDL.out];omega)) (by omega),HW.out.trans (HB2.out.mono HW.out.size)⟩
 ·go_wp2_with fail
  go_ret;exact⟨some (ad.add (1*2)),c - 1,by rw[HDL.out];rfl,q9j (n:=1) HS2.out hal,HW.out.trans (HB2.out.mono HW.out.size)⟩
theorem VQ{w:World}{A:Option Addr}{c:Nat}{L:List (Int×Int)}(h:zd zh 2 w w.heap.size A c L)(o:Obj):zd zh 2 (w.alloc o) (w.alloc o).heap.size A c L:=
 (h.below_to zh.keeps ((zb _ _).alloc (zn _) o) (zn _)).keep' zh.keeps (by simp) (fun _ _=>rfl)
theorem qjx{m:za}{h:zg}{w0 w:World}{f:Nat}{x:zf}(HI:Hid (zi w0 w0.heap.size h m))(HX:Hid (Below w0.heap.size w0 w))(hx:m.methods[f]? =some x)(hal:0<x.args.length):
  Calls Tryz.prog 176 #[zk h m,.int .i64 f] w (qd (x.args.drop 1) w):=qgq m f x hal h w (HI.out.now HX.out) hx
theorem q9w{m:za}{h:zg}{w0 w:World}{c:Int}{L:List (Int×Int)}(HI:Hid (zi w0 w0.heap.size h m))(HX:Hid (Below w0.heap.size w0 w))(HL:Hid (zV m.classes c=L))(hn:m.classes.length≤1000)(HF:Hid (∀x ∈m.classes,x.fields.length≤1000)):
  Calls Tryz.prog 197 #[zk h m,.int .i64 c] w (QX L w):=by
 have H:=q8a m c h w (HI.out.now HX.out) hn HF.out;rw[HL.out]at H;exact H
set_option maxHeartbeats 1600000 in
theorem qk6(m:za)(op a:Int)(k:Nat)(t:Int×Int)(hk:(zV m.classes a)[k]? =some t)(hn:m.classes.length≤1000)(hf:∀x ∈m.classes,x.fields.length≤1000)(h:zg)(w:World)(H:zi w w.heap.size h m):
  Calls Tryz.prog 173 #[zk h m,zz op a (k:Int)] w fun e w'=>e= .returned (zA t.1 t.2)∧Below w.heap.size w w':=by
 obtain⟨L,hL⟩:∃L,zV m.classes a=L:=⟨_,rfl⟩
 have HL:=zH hL;rw[hL]at hk;have HF:=zH hf;have HK:=zH hk;obtain⟨hw,hp⟩:=q3d h m op a (k:Int) w;have HW:=zH hw;have HP:=zH hp;have HI:=zH (H.now hw);clear hw hp H hk hL hf;go_enter Tryz.func173,Tryz.ntmps173;go_upto_region 1 with fail
 change Code.wp _ _ _ _ (Ye h m op a (k:Int) w);generalize Ye h m op a (k:Int) w=w1 at*
 have HX:Hid (Below w1.heap.size w1 w1.drew):=zH (zb w1.heap.size w1).drew;have HXA:Hid (Below w1.heap.size w1 (w1.alloc (.cells #[.int .i64 0,.int .i64 0] 50)).drew):=zH ((zb w1.heap.size w1).alloc (zn _) _).drew;have HKP:Hid (∀W,Below w1.heap.size w1 W→(fun w'=>w'.cell? ⟨w.heap.size,0,none⟩=some (.slice h.A0 m.classes.length h.c0)∧w'.cell? ⟨w.heap.size,1,none⟩=some (.slice h.A1 m.statics.length h.c1)∧w'.cell? ⟨w.heap.size,2,none⟩=some (.slice h.A2 m.ints.length h.c2)∧w'.cell? ⟨w.heap.size,3,none⟩=some (.slice h.A3 m.methods.length h.c3)∧w'.cell? ⟨w.heap.size,4,none⟩=some (.slice h.A4 m.entries.length h.c4)∧w'.cell? ⟨w.heap.size,5,none⟩=some (.int .i64 m.stack)∧w'.cell? ⟨w.heap.size,6,none⟩=some (.int .i64 m.heap)∧w'.cell? ⟨w.heap.size+1,1,none⟩=some (.int .i64 a)∧w'.cell? ⟨w.heap.size+1,2,none⟩=some (.int .i64 (k:Int))) W):=zH (fun W hW=>by
  have hz:=HP.out.size;obtain⟨d0,d1,d2,d3,d4,d5,d6⟩:=HP.out.img.keep hW (by omega);have di:=HP.out.ins.keep hW (by omega);exact⟨d0,d1,d2,d3,d4,d5,d6,di 1 _ rfl,di 2 _ rfl⟩)
 go_region_held3 (fun w'=>w'.cell? ⟨w.heap.size,0,none⟩=some (.slice h.A0 m.classes.length h.c0)∧w'.cell? ⟨w.heap.size,1,none⟩=some (.slice h.A1 m.statics.length h.c1)∧w'.cell? ⟨w.heap.size,2,none⟩=some (.slice h.A2 m.ints.length h.c2)∧w'.cell? ⟨w.heap.size,3,none⟩=some (.slice h.A3 m.methods.length h.c3)∧w'.cell? ⟨w.heap.size,4,none⟩=some (.slice h.A4 m.entries.length h.c4)∧w'.cell? ⟨w.heap.size,5,none⟩=some (.int .i64 m.stack)∧w'.cell? ⟨w.heap.size,6,none⟩=some (.int .i64 m.heap)∧w'.cell? ⟨w.heap.size+1,1,none⟩=some (.int .i64 a)∧w'.cell? ⟨w.heap.size+1,2,none⟩=some (.int .i64 (k:Int))) (first|exact HKP.out _ HX.out|exact HKP.out _ HXA.out|exact HKP.out _ HX4.out|exact HKP.out _ HX3.out|exact HKP.out _ (HX3.out.alloc HX3.out.size _)|exact HKP.out _ (HX4.out.alloc HX4.out.size _)|exact HKP.out _ ((HX4.out.setCell (p:=⟨w1.heap.size,0,none⟩) (zn _) _).setCell (p:=⟨w1.heap.size,1,none⟩) (zn _) _)|exact HKP.out _ ((HX4.out.setCell (p:=⟨w3.heap.size,0,none⟩) HX3.out.size _).setCell (p:=⟨w3.heap.size,1,none⟩) HX3.out.size _)) (first
  |(go_at_call 197;(first|((with_reducible refine(q9w HI HX HL hn HF).mono ?_);have HY:=HX)|((with_reducible refine(q9w HI HXA HL hn HF).mono ?_);have HY:=HXA));rintro e w3 ⟨v3,rfl,ho,hb⟩;(first|(have HQA:=zH (ze.keep (show ze (w1.alloc (.cells #[.int .i64 0,.int .i64 0] 50)).drew w1.heap.size [.int .i64 0,.int .i64 0] 50 from ze.new w1 _ _) hb (by simp)))|skip);obtain⟨A3,c3,rfl,hs,_⟩:=kU ho;have HZ3:=zH hb;have HX3:=zl HY hb;have HS3:=zH hs;clear ho hb hs)
  |(go_at_call 196;(first|((with_reducible refine(q50 HS3.out HK.out).mono ?_);have HY4:=HX3)|((with_reducible refine(q50 (VQ HS3.out _) HK.out).mono ?_);have HY4:=zH (HX3.out.alloc HX3.out.size (.cells #[.int .i64 0,.int .i64 0] 50))));rintro e w4 ⟨rfl,hb⟩;have HZ4:=zH hb;have HX4:=zl HY4 hb;(first|(have hq:=HQA.out.keep hb HQA.out.lt)|(have hq:=(ze.new w3 [.int .i64 0,.int .i64 0] 50).keep hb (by simp))|(have hq:=trivial));(first|(have f0:=hq.free 0;have f1:=hq.free 1;have r0:=hq.cells 0 _ rfl;have r1:=hq.cells 1 _ rfl)|skip);have HQ4:=zH hq;clear hq hb))
 all_goals
  first
   |(have HQ5:Hid (ze ((w4.setCell ⟨w1.heap.size,0,none⟩ (.int .i64 t.1)).setCell ⟨w1.heap.size,1,none⟩ (.int .i64 t.2)) w1.heap.size [.int .i64 t.1,.int .i64 t.2] 50):=zH ((HQ4.out.set 0 (.int .i64 t.1)).set 1 (.int .i64 t.2));have HB5:Hid (Below w1.heap.size w1 ((w4.setCell ⟨w1.heap.size,0,none⟩ (.int .i64 t.1)).setCell ⟨w1.heap.size,1,none⟩ (.int .i64 t.2))):=zH ((HX4.out.setCell (p:=⟨w1.heap.size,0,none⟩) (zn _) (.int .i64 t.1)).setCell (p:=⟨w1.heap.size,1,none⟩) (zn _) (.int .i64 t.2));generalize((w4.setCell ⟨w1.heap.size,0,none⟩ (.int .i64 t.1)).setCell ⟨w1.heap.size,1,none⟩ (.int .i64 t.2))=w5 at*)
   |(have HQ5:Hid (ze ((w4.setCell ⟨w3.heap.size,0,none⟩ (.int .i64 t.1)).setCell ⟨w3.heap.size,1,none⟩ (.int .i64 t.2)) w3.heap.size [.int .i64 t.1,.int .i64 t.2] 50):=zH ((HQ4.out.set 0 (.int .i64 t.1)).set 1 (.int .i64 t.2));have HB5:Hid (Below w1.heap.size w1 ((w4.setCell ⟨w3.heap.size,0,none⟩ (.int .i64 t.1)).setCell ⟨w3.heap.size,1,none⟩ (.int .i64 t.2))):=zH ((HX4.out.setCell (p:=⟨w3.heap.size,0,none⟩) HX3.out.size (.int .i64 t.1)).setCell (p:=⟨w3.heap.size,1,none⟩) HX3.out.size (.int .i64 t.2));generalize((w4.setCell ⟨w3.heap.size,0,none⟩ (.int .i64 t.1)).setCell ⟨w3.heap.size,1,none⟩ (.int .i64 t.2))=w5 at*)
   |(have HQ5:=zH (ze.new w4 [.int .i64 t.1,.int .i64 t.2] 50);have HB5:Hid (Below w1.heap.size w1 (w4.alloc (.cells #[.int .i64 t.1,.int .i64 t.2] 50))):=zH (HX4.out.alloc HX4.out.size _);change Exit.then _ _ _ _ (w4.alloc (.cells #[.int .i64 t.1,.int .i64 t.2] 50));generalize w4.alloc (.cells #[.int .i64 t.1,.int .i64 t.2] 50)=w5 at*)
  have c0:=HQ5.out.cells 0 _ rfl;have c1:=HQ5.out.cells 1 _ rfl;have hq:=HP.out.res.keep HB5.out HP.out.res.lt;have f0:=hq.free 0;have f1:=hq.free 1;have r0:=hq.cells 0 _ rfl;have r1:=hq.cells 1 _ rfl;clear hq;go_wp2_with fail
  obtain⟨d0,d1,db⟩:=q5v (x:=t.1) (y:=t.2) HW.out HB5.out HP.out.res.lt HP.out.res;exact Xn (v:=zA t.1 t.2) (by simp[results,Tryz.results173,go_sem,d0,d1]) rfl ⟨rfl,db⟩
theorem qbl{m:za}{h:zg}{w0 w:World}{op a:Int}{k:Nat}{t:Int×Int}(HI:Hid (zi w0 w0.heap.size h m))(HX:Hid (Below w0.heap.size w0 w))(HK:Hid ((zV m.classes a)[k]? =some t))(hn:m.classes.length≤1000)(HF:Hid (∀x ∈m.classes,x.fields.length≤1000)):
  Calls Tryz.prog 173 #[zk h m,zz op a (k:Int)] w fun e w'=>e= .returned (zA t.1 t.2)∧Below w.heap.size w w':=qk6 m op a k t HK.out hn HF.out h w (HI.out.now HX.out)
theorem zip_at{L U:List (Int×Int)}{k:Nat}(h:k<L.length)(h':k<U.length):∃hz:k<(L.zip U).length,(L.zip U)[k]=(L[k],U[k]):=⟨by rw[Wh];omega,by simp⟩
theorem qaa{w w':World}{A:Option Addr}{sup:List Int}(h:qD w w.heap.size A sup)(hb:Below w.heap.size w w'):qD w' w'.heap.size A sup:=fun i s hs=>by
 obtain⟨ad,e,hlt,hc⟩:=h i s hs;exact⟨ad,e,Xp hlt hb.size,(hb.cell (by rw[zp];omega)).trans hc⟩
theorem qd5{sup:List Int}{t u:Int×Int}{A:Option Addr}{c N:Nat}{w0 w:World}{r:Bool}(hl:sup.length≤1048576)(HS:Hid (qD w0 w0.heap.size A sup))(HN:Hid (N<w0.heap.size))(HC:Hid (w0.cell? ⟨N,0,none⟩=some (.slice A sup.length c)))(HX:Hid (Below w0.heap.size w0 w))(HR:Hid (vo sup t u=r)):
  Calls Tryz.prog 181 #[zA t.1 t.2,zA u.1 u.2,.pointer (some ⟨N,0,none⟩)] w fun e w'=>e= .returned (.bool r)∧Below w.heap.size w w':=by
 have H:=qos sup t.1 t.2 u.1 u.2 A c N w hl (qaa HS.out HX.out) (Xp HN.out HX.out.size) ((HX.out.cell (p:=⟨N,0,none⟩) HN.out).trans HC.out);rw[HR.out]at H;exact H
set_option maxHeartbeats 3200000 in
theorem qk7(sup:List Int)(L U:List (Int×Int))(A A' A'':Option Addr)(c c' c'' N:Nat)(w:World)(hl:sup.length≤1048576)(hS:qD w w.heap.size A'' sup)(hN:N<w.heap.size)(hc:w.cell? ⟨N,0,none⟩=some (.slice A'' sup.length c''))
  (h:zd zh 2 w w.heap.size A c L) (h':zd zh 2 w w.heap.size A' c' U):
  Calls Tryz.prog 180 #[.slice A L.length c,.slice A' U.length c',fitF N] w fun e w'=>e= .returned (.bool (Jb sup L U))∧Below w.heap.size w w':=by
 have hlc:=h.le;have hcm:=h.cap;have hlc':=h'.le;have hcm':=h'.cap;have HL:=zH h;have HM:=zH h';have HS:=zH hS;have HN:=zH hN;have HC:=zH hc;clear h h' hS hN hc;obtain⟨b,hb⟩:∃b,Jb sup L U=b:=⟨_,rfl⟩
 rw[hb];have E:=zH hb.symm;clear hb;by_cases hn:L.length=U.length
 ·have HLN:=zH hn;have hlen:U.length=L.length:=hn.symm;have HE2:Hid (b=(L.zip U).all (fun p=>vo sup p.1 p.2)):=zH (by rw[E.out];unfold Jb;rw[Xh hn,Bool.true_and]);rw[hlen];clear hn;go_enter Tryz.func180,Tryz.ntmps180;go_wp2
  go_loopw [17] (fun i wr=>∃k:Nat,k≤L.length∧i= .int .i64 k∧Hid (∀p ∈(L.zip U).take k,vo sup p.1 p.2=true)∧Hid (Below w.heap.size w wr)) (fun i _=>L.length - (intOf i).toNat)
  case atStart=>exact⟨0,by omega,rfl,zH (by simp),zH (zb _ _)⟩
  case round=>
   obtain⟨k,hk,rfl,HA,HX⟩:=hrel;by_cases hlt:k<L.length
   ·have hltm:k<U.length:=by omega
    obtain⟨ad,rfl,hab,s0,s1⟩:=(HL.out.below_to zh.keeps HX.out (zn _)).row.at_ hlt;obtain⟨ad',rfl,hab',t0,t1⟩:=(HM.out.below_to zh.keeps HX.out (zn _)).row.at_ hltm;obtain⟨hz,hze⟩:=zip_at hlt hltm;obtain⟨r,hr⟩:∃r,vo sup L[k] U[k]=r:=⟨_,rfl⟩
    have HR:=zH hr;have HT:Hid (r=true→∀p ∈(L.zip U).take (k+1),vo sup p.1 p.2=true):=zH (fun g=>jT (f:=fun p:(Int×Int)×(Int×Int)=>vo sup p.1 p.2) hz HA.out (by rw[hze];show vo sup L[k] U[k]=true;rw[hr,g]));have HF:Hid (r=false→b=false):=zH (fun g=>by rw[HE2.out];exact vb (f:=fun p:(Int×Int)×(Int×Int)=>vo sup p.1 p.2) hz (by rw[hze];show vo sup L[k] U[k]=false;rw[hr,g]));clear hr hze hz;generalize L[k]=t at*
    generalize U[k]=u at*
    have hA1:Below wr.heap.size wr (wr.alloc (.cells #[.int .i64 t.1,.int .i64 t.2] 50)):=(zb _ _).alloc (zn _) _;have hsz:=HX.out.size;have u0:=(hA1.cell (p:=ad'.add (k*2)) (by rw[zp];omega)).trans t0;have u1:=(hA1.cell (p:=zc (ad'.add (k*2)) 1) (by show(ad'.add _).block<_;rw[zp];omega)).trans t1;obtain⟨c1,c2,hb,hzz⟩:=q6c wr t.1 t.2 u.1 u.2;have HC1:=zH c1;have HC2:=zH c2;have HX3:=zH (HX.out.trans (hb.mono hsz));clear c1 c2 hb hzz hA1;go_upto_region 7 with fail
    generalize(wr.alloc (.cells #[.int .i64 t.1,.int .i64 t.2] 50)).alloc (.cells #[.int .i64 u.1,.int .i64 u.2] 50)=w3 at*
    have d0:=HC1.out 0 _ rfl;have d1:=HC1.out 1 _ rfl;have e0:=HC2.out 0 _ rfl;have e1:=HC2.out 1 _ rfl;cases r
    ·go_wp2_with(go_at_call 181;(with_reducible refine(qd5 hl HS HN HC HX3 HR).mono ?_);rintro e w4 ⟨rfl,hb⟩;have HX4:=zl HX3 hb;clear hb)
     go_ret;exact⟨by rw[HF.out (by simp)];rfl,HX4.out⟩
    ·go_wp2_with(go_at_call 181;(with_reducible refine(qd5 hl HS HN HC HX3 HR).mono ?_);rintro e w4 ⟨rfl,hb⟩;have HX4:=zl HX3 hb;clear hb)
     go_roundw;case rel=>exact⟨k+1,by omega,by go_num,zH (HT.out (by simp)),HX4⟩
     case measure=>simp[intOf];omega
   ·have E2:=zH (show b=true by rw[HE2.out];exact vc (f:=fun p:(Int×Int)×(Int×Int)=>vo sup p.1 p.2) HA.out (by rw[Wh];omega));go_wp2_with fail
    go_ret;exact⟨by rw[E2.out];rfl,HX.out⟩
 ·have E2:=zH (show b=false by rw[E.out];unfold Jb;rw[Xf hn,Bool.false_and]);have hn':((L.length:Int)==(U.length:Int))=false:=XK.mpr (by omega);go_enter Tryz.func180,Tryz.ntmps180;go_wp2
  go_ret;exact⟨by rw[E2.out];rfl,zb _ _⟩
theorem qgv(sup:List Int)(L U:List (Int×Int))(A A' A'':Option Addr)(c c' c'':Nat)(w:World)(hl:sup.length≤1048576)(hS:qD w w.heap.size A'' sup)(h:zd zh 2 w w.heap.size A c L)(h':zd zh 2 w w.heap.size A' c' U):
  Calls Tryz.prog 140 #[.slice A'' sup.length c'',.slice A L.length c,.slice A' U.length c'] w fun e w'=>e= .returned (.bool (Jb sup L U))∧Below w.heap.size w w':=by
 have hA:Below w.heap.size w (w.alloc (.cells #[.slice A'' sup.length c''] 22)):=(zb _ _).alloc (zn _) _;have HA:=zH hA;have HL:Hid (zd zh 2 (w.alloc (.cells #[.slice A'' sup.length c''] 22)) (w.alloc (.cells #[.slice A'' sup.length c''] 22)).heap.size A c L):=zH ((h.below_to zh.keeps hA (zn _)).keep' zh.keeps hA.size (fun _ _=>rfl));have HU:Hid (zd zh 2 (w.alloc (.cells #[.slice A'' sup.length c''] 22)) (w.alloc (.cells #[.slice A'' sup.length c''] 22)).heap.size A' c' U):=zH ((h'.below_to zh.keeps hA (zn _)).keep' zh.keeps hA.size (fun _ _=>rfl));have HS:=zH (qaa hS hA);have HC:=zH (qa w [.slice A'' sup.length c''] 22);have HZ:Hid (w.heap.size<(w.alloc (.cells #[.slice A'' sup.length c''] 22)).heap.size):=zH (by simp);clear h h' hA hS;go_enter Tryz.func140,Tryz.ntmps140;go_upto_region 1 with fail
 generalize w.alloc (.cells #[.slice A'' sup.length c''] 22)=w1 at*
 have c0:=HC.out 0 _ rfl;go_wp2_with(go_at_call 180;(with_reducible refine(qk7 sup L U A A' A'' c c' c'' w.heap.size w1 hl HS.out HZ.out c0 HL.out HU.out).mono ?_);rintro e w2 ⟨rfl,hb⟩;have HB2:=zH hb;clear hb)
 go_ret;exact⟨rfl,HA.out.trans (HB2.out.mono HA.out.size)⟩
theorem q9o{m:za}{h:zg}{L U:List (Int×Int)}{A A':Option Addr}{c c':Nat}{w0 w:World}{r:Bool}(HI:Hid (zi w0 w0.heap.size h m))(HX:Hid (Below w0.heap.size w0 w))(hn:m.classes.length≤1000)(HL:zd zh 2 w w.heap.size A c L)(HU:zd zh 2 w w.heap.size A' c' U)(HR:Hid (Jb (zt m.classes) L U=r)):
  Calls Tryz.prog 140 #[.slice h.A0 m.classes.length h.c0,.slice A L.length c,.slice A' U.length c'] w fun e w'=>e= .returned (.bool r)∧Below w.heap.size w w':=by
 have H:=qgv (zt m.classes) L U A A' h.A0 c c' h.c0 w (by rw[jS];omega) (Qp (HI.out.now HX.out).classes.row) HL HU;rw[HR.out,jS]at H;exact H
theorem q46{w:World}{B c n:Nat}{A:Option Addr}{L:List (Int×Int)}(h:zd zh 2 w B A c L):zd zh 2 w B A c (L.take n):=
 ⟨Xg (by rw[XU];omega) h.le,h.cap,h.row.take_ n⟩
theorem qs9(st:List (Int×Int))(n:Nat)(hn:n≤1000000)(hs:st.length≤1000000)(A:Option Addr)(c:Nat)(w:World)(h:zd zh 2 w w.heap.size A c st):
  Calls Tryz.prog 139 #[.slice A st.length c,.int .i64 n] w fun e w'=>∃A1 c1 A2 c2,e= .returned (.tuple #[.slice A1 (st.take (st.length - n)).length c1,.slice A2 (st.drop (st.length - n)).length c2])∧
   zd zh 2 w w.heap.size A1 c1 (st.take (st.length - n))∧zd zh 2 w w.heap.size A2 c2 (st.drop (st.length - n))∧Below w.heap.size w w'∧w'.heap=w.heap:=by
 have hle:=h.le;have hcap:=h.cap;have HS:=zH h;obtain⟨d,hd⟩:∃d,st.length - n=d:=⟨_,rfl⟩
 have htl:(st.take (st.length - n)).length=d:=by rw[XU];omega
 have hdl:(st.drop (st.length - n)).length=st.length - d:=by rw[XF];omega
 have HTL:=zH htl;have HDL:=zH hdl;rw[hd]at HTL HDL;rw[hd];have hw1:IntKind.i64.wrap ((st.length:Int) - (n:Int))=(st.length:Int) - (n:Int):=IntWalk.i64_in _ (by omega);have hdl0:d≤st.length:=by omega
 have hd0:(0:Int)≤(d:Int):=by omega
 have hd1:(d:Int)≤(st.length:Int):=by omega
 have hd2:(d:Int)≤(c:Int):=by omega
 have hd3:(st.length:Int)≤(c:Int):=by omega
 have hmx:max ((st.length:Int) - (n:Int)) 0=(d:Int):=by omega
 clear h htl hdl;rcases A with _|ad
 ·have hst:st=[]:=by
   cases st with
   |nil=>rfl
   |cons t r=>
    obtain⟨ad,e,_⟩:=HS.out.row.at_ (i:=0) (by simp);cases e
  subst hst;obtain rfl:d=0:=by simp at hdl0;exact hdl0
  clear hd hmx HTL HDL hle hs hdl0 hd0 hd1 hd2;have hw1:IntKind.i64.wrap (((0:Nat):Int) - (n:Int))=0 - (n:Int):=hw1;by_cases hn0:n=0
  ·subst hn0;go_enter Tryz.func139,Tryz.ntmps139;go_upto_region 2 with fail
   go_quiet (fail)
   all_goals
    go_wp2_with fail
    go_ret2
    exact⟨none,_,none,_,rfl,Vo rfl hcap,Vo rfl hcap,qZ (zb _ _) _,rfl⟩
  ·have hng: -(n:Int)<0:=by omega
   have hm0:max (-(n:Int)) 0=0:=by omega
   go_enter Tryz.func139,Tryz.ntmps139;go_upto_region 2 with fail
   go_quiet (fail)
   all_goals
    go_wp2_with fail
    go_ret2
    exact⟨none,_,none,_,rfl,Vo rfl hcap,Vo rfl hcap,qZ (zb _ _) _,rfl⟩
 ·by_cases hlt:(st.length:Int) - (n:Int)<0
  ·obtain rfl:d=0:=by omega
   go_enter Tryz.func139,Tryz.ntmps139;go_upto_region 2 with fail
   go_quiet (fail)
   go_wp2_with fail
   go_ret2
   exact⟨some ad,c,some ad,c,by first|rfl|(rw[HTL.out,HDL.out];rfl),q46 HS.out,HS.out,qZ (zb _ _) _,rfl⟩
  ·have hde:(st.length:Int) - (n:Int)=(d:Int):=by omega
   rw[hde]at hw1 hmx hlt;have hw1:IntKind.i64.wrap ((st.length:Int) - (n:Int))=(d:Int):=by rw[hde];exact hw1
   by_cases hcd:c=d
   ·subst hcd;go_enter Tryz.func139,Tryz.ntmps139;go_upto_region 2 with fail
    go_quiet (fail)
    go_wp2_with fail
    go_ret2
    exact⟨some ad,c,some ad,0,by first|rfl|(rw[HTL.out,HDL.out];rfl)|(rw[HDL.out];rfl),q46 HS.out,Vo (XZ (by rw[HDL.out];omega)) (by omega),qZ (zb _ _) _,rfl⟩
   ·go_enter Tryz.func139,Tryz.ntmps139;go_upto_region 2 with fail
    go_quiet (fail)
    go_wp2_with fail
    go_ret2
    exact⟨some ad,c,some (ad.add (d*2)),c - d,by first|rfl|(rw[HTL.out,HDL.out];rfl)|(rw[HDL.out];rfl),q46 HS.out,q9j HS.out hdl0,qZ (zb _ _) _,rfl⟩
set_option maxHeartbeats 1600000 in
theorem VW(op:Int)(w:World):Calls Tryz.prog 164 #[.int .i64 op] w fun e w'=>e= .returned (.int .i64 (qJ op))∧w=w':=by
 obtain⟨n,hn⟩:∃n,qJ op=n:=⟨_,rfl⟩
 have H:=zH hn;rw[hn];clear hn;go_enter Tryz.func164,Tryz.ntmps164;go_wp2
 all_goals
  go_ret;refine⟨qu5 ?_,rfl⟩;rw[←H.out];clear H;try simp only[X6,XK,ne_eq]at*
  unfold qJ JL;simp;omega
theorem q5s{w w':World}{x y:Value}{T:TypeId}(hb:Below (w.alloc (.cells #[x,y] T)).heap.size (w.alloc (.cells #[x,y] T)) w'):
  zx w' w'.heap.size (some ⟨w.heap.size,0,none⟩) [x,y]∧zx w' w'.heap.size (some ⟨w.heap.size,0,none⟩) [x]∧zx w' w'.heap.size (some ⟨w.heap.size,1,none⟩) [y]:=by
 have hs:w.heap.size<(w.alloc (.cells #[x,y] T)).heap.size:=by simp
 have hs':=hb.size;have c0:w'.cell? ⟨w.heap.size,0,none⟩=some x:=(hb.cell hs).trans (by rw[World.cell?_alloc_at _ _ _ _ rfl];rfl);have c1:w'.cell? ⟨w.heap.size,1,none⟩=some y:=(hb.cell hs).trans (by rw[World.cell?_alloc_at _ _ _ _ rfl];rfl);refine⟨?_,?_,?_⟩
 ·intro j u hj;refine⟨_,rfl,(by show w.heap.size<_;omega),?_⟩
  match j,hj with
  |0,hj=>simp at hj;subst hj;exact c0
  |1,hj=>simp at hj;subst hj;exact c1
 ·intro j u hj;refine⟨_,rfl,(by show w.heap.size<_;omega),?_⟩
  match j,hj with
  |0,hj=>simp at hj;subst hj;exact c0
 ·intro j u hj;refine⟨_,rfl,(by show w.heap.size<_;omega),?_⟩
  match j,hj with
  |0,hj=>simp at hj;subst hj;exact c1
def q6k(N n c:Nat)(w:World)(e:Ending)(w':World):Prop:=
 e= .returned (.tuple #[.slice (some ⟨N,0,none⟩) n 2,.slice (some ⟨N,c,none⟩) (2 - n) (2 - n)])∧Below w.heap.size w w'
theorem q3p{P:Prop}(h:P:=by
 go_enter Tryz.func165,Tryz.ntmps165;go_wp2_with(go_at_call 164;(with_reducible refine(VW _ _).mono ?_);rintro e w1 ⟨rfl,rfl⟩;rw[H.out])
 go_quiet (skip)
 go_wp2
 go_ret2
 exact⟨rfl,qZ (zb _ _) _⟩):P:=h
theorem qus(op:Int)(N:Nat)(w:World)(h:qJ op=2):Calls Tryz.prog 165 #[.int .i64 op,.slice (some ⟨N,0,none⟩) 2 2] w (q6k N 2 0 w):=by
 have H:=zH h;clear h;exact q3p
theorem qut(op:Int)(N:Nat)(w:World)(h:qJ op=1):Calls Tryz.prog 165 #[.int .i64 op,.slice (some ⟨N,0,none⟩) 2 2] w (q6k N 1 1 w):=by
 have H:=zH h;clear h;exact q3p
theorem qsf(op:Int)(N:Nat)(w:World)(h:qJ op≤0):Calls Tryz.prog 165 #[.int .i64 op,.slice (some ⟨N,0,none⟩) 2 2] w (q6k N 0 0 w):=by
 have hr:=q4d op;rcases(show qJ op= -1∨qJ op=0 by omega)with hn|hn;all_goals
  have H:=zH hn;clear hn h hr;exact q3p
def upB(e:Int)(l:List Int):Bool:=decide (∀x ∈l,0≤x∧x≤e)
theorem q2c(en:Int)(l:List Int)(n:Nat)(A:Option Addr)(cap B:Nat)(w:World)(hn:l.length=n)(hl:n≤2)(h:zx w B A (l.map (Value.int .i64))):
  Calls Tryz.prog 166 #[.int .i64 en,.slice A n cap] w fun e w'=>e= .returned (.bool (upB en l))∧w=w':=by
 subst hn;have HL:=zH h;clear h;go_enter Tryz.func166,Tryz.ntmps166;go_wp2
 go_loop [9] (fun i=>∃k:Nat,k≤l.length∧i= .int .i64 k∧Hid (upB en l=upB en (l.drop k))) (fun i=>l.length - (intOf i).toNat)
 case atStart=>exact⟨0,by omega,rfl,zH rfl⟩
 case round=>
  obtain⟨k,hk,rfl,HN⟩:=hrel;by_cases hlt:k<l.length
  ·obtain⟨ad,rfl,_,hc⟩:=HL.out.at_ (k:=k) (by simpa using hlt);have E1:=zH (Wr hlt);simp only[List.getElem_map]at hc;generalize l[k]=b at*
   have HS:Hid (upB en l=(decide (0≤b∧b≤en)&& upB en (l.drop (k+1)))):=zH (by
    rw[HN.out,E1.out];unfold upB;rw[XV];simp)
   clear HN E1;by_cases hb:0≤b
   ·by_cases hb':b≤en
    ·go_wp2_with fail
     go_round
     case rel=>exact⟨k+1,by omega,by go_num,zH (by rw[HS.out,Xh (show 0≤b∧b≤en from⟨hb,hb'⟩)];rfl)⟩
     case measure=>simp[intOf];omega
    ·have HF:Hid (upB en l=false):=zH (by rw[HS.out,Xf (show ¬(0≤b∧b≤en)by omega)];rfl);clear HS;go_wp2_with fail
     go_ret;refine⟨?_,rfl⟩;rw[HF.out];rfl
   ·have HF:Hid (upB en l=false):=zH (by rw[HS.out,Xf (show ¬(0≤b∧b≤en)by omega)];rfl);clear HS;go_wp2_with fail
    go_ret;refine⟨?_,rfl⟩;rw[HF.out];rfl
  ·have R:=zH (show upB en l=true by rw[HN.out,List.drop_eq_nil_of_le (by omega)];rfl);clear HN;go_wp2_with fail
   go_ret;refine⟨?_,rfl⟩;rw[R.out];rfl
section
variable{w0 w:World}{a b en:Int}{T:TypeId}{N:Nat}
theorem qc1(hN:w0.heap.size=N)(HB:Hid (Below (w0.alloc (.cells #[.int .i64 a,.int .i64 b] T)).heap.size (w0.alloc (.cells #[.int .i64 a,.int .i64 b] T)) w)):
  Calls Tryz.prog 166 #[.int .i64 en,.slice (some ⟨N,0,none⟩) 2 2] w fun e w'=>e= .returned (.bool (upB en [a,b]))∧w=w':=by
 subst hN;exact q2c en [a,b] 2 _ _ _ w rfl (zn _) (q5s HB.out).1
theorem qqa(hN:w0.heap.size=N)(HB:Hid (Below (w0.alloc (.cells #[.int .i64 a,.int .i64 b] T)).heap.size (w0.alloc (.cells #[.int .i64 a,.int .i64 b] T)) w)):
  Calls Tryz.prog 166 #[.int .i64 en,.slice (some ⟨N,0,none⟩) 1 2] w fun e w'=>e= .returned (.bool (upB en [a]))∧w=w':=by
 subst hN;exact q2c en [a] 1 _ _ _ w rfl (by omega) (q5s HB.out).2.1
theorem qq9(hN:w0.heap.size=N)(HB:Hid (Below (w0.alloc (.cells #[.int .i64 a,.int .i64 b] T)).heap.size (w0.alloc (.cells #[.int .i64 a,.int .i64 b] T)) w)):
  Calls Tryz.prog 166 #[.int .i64 en,.slice (some ⟨N,1,none⟩) 1 1] w fun e w'=>e= .returned (.bool (upB en [b]))∧w=w':=by
 subst hN;exact q2c en [b] 1 _ _ _ w rfl (by omega) (q5s HB.out).2.2
theorem qdq(A:Option Addr)(c:Nat):Calls Tryz.prog 166 #[.int .i64 en,.slice A 0 c] w fun e w'=>e= .returned (.bool true)∧w=w':=
 q2c en [] 0 A c 0 w rfl (by omega) zx.nil
end
set_option maxHeartbeats 800000 in
theorem qbe(op a b:Int)(w:World):Calls Tryz.prog 124 #[zz op a b] w fun e w'=>e= .returned (.bool (qp op a b))∧Below w.heap.size w w':=by
 have hr:=q4d op;rcases(show qJ op= -1∨qJ op=0∨qJ op=1∨qJ op=2 by omega)with hn|hn|hn|hn
 ·have H:=zH hn;have E:=zH (show qp op a b=false by unfold qp;rw[hn];simp);rw[E.out];clear hn hr;go_enter Tryz.func124,Tryz.ntmps124;go_wp2_with(go_at_call 164;(with_reducible refine(VW _ _).mono ?_);rintro e w1 ⟨rfl,rfl⟩;rw[H.out])
  go_ret;exact⟨rfl,(zb _ _).alloc (zn _) _⟩
 ·have H:=zH hn;have HZ:=zH (show qJ op≤0 by omega);have E:=zH (show qp op a b=upB 0 [a,b]by unfold qp upB;rw[hn,Wa];simp;omega);rw[E.out];clear hn hr;go_enter Tryz.func124,Tryz.ntmps124;go_wp2_with(first
   |(go_at_call 164;(with_reducible refine(VW _ _).mono ?_);rintro e w1 ⟨rfl,rfl⟩;rw[H.out])
   |(go_at_call 165;(with_reducible refine(qsf _ _ _ HZ.out).mono ?_);rintro e w2 ⟨rfl,hb⟩;have HB:=zH hb;clear hb)
   |(go_at_call 166;(with_reducible refine(qdq _ _).mono ?_);rintro e w3 ⟨rfl,rfl⟩)
   |(go_at_call 166;(with_reducible refine(qc1 (by simp) HB).mono ?_);rintro e w3 ⟨rfl,rfl⟩))
  all_goals
   go_ret;exact⟨rfl,(((zb _ _).alloc (zn _) _).alloc (by simp) _).trans (HB.out.mono (by simp;omega))⟩
 ·have H:=zH hn;have E:=zH (show qp op a b=(upB 255 [a]&& upB 0 [b])by unfold qp upB;rw[hn,XV];simp;omega);rw[E.out];clear hn hr;go_enter Tryz.func124,Tryz.ntmps124;go_wp2_with(first
   |(go_at_call 164;(with_reducible refine(VW _ _).mono ?_);rintro e w1 ⟨rfl,rfl⟩;rw[H.out])
   |(go_at_call 165;(with_reducible refine(qut _ _ _ H.out).mono ?_);rintro e w2 ⟨rfl,hb⟩;have HB:=zH hb;clear hb)
   |(go_at_call 166;(with_reducible refine(qqa (by simp) HB).mono ?_);rintro e w3 ⟨rfl,rfl⟩)
   |(go_at_call 166;(with_reducible refine(qq9 (by simp) HB).mono ?_);rintro e w3 ⟨rfl,rfl⟩))
  all_goals
   go_ret;refine⟨q5f ?_,(((zb _ _).alloc (zn _) _).alloc (by simp) _).trans (HB.out.mono (by simp;omega))⟩;simp_all
 ·have H:=zH hn;have E:=zH (show qp op a b=upB 255 [a,b]by unfold qp upB;rw[hn,Wa];simp;omega);rw[E.out];clear hn hr;go_enter Tryz.func124,Tryz.ntmps124;go_wp2_with(first
   |(go_at_call 164;(with_reducible refine(VW _ _).mono ?_);rintro e w1 ⟨rfl,rfl⟩;rw[H.out])
   |(go_at_call 165;(with_reducible refine(qus _ _ _ H.out).mono ?_);rintro e w2 ⟨rfl,hb⟩;have HB:=zH hb;clear hb)
   |(go_at_call 166;(with_reducible refine(qdq _ _).mono ?_);rintro e w3 ⟨rfl,rfl⟩)
   |(go_at_call 166;(with_reducible refine(qc1 (by simp) HB).mono ?_);rintro e w3 ⟨rfl,rfl⟩))
  all_goals
   go_ret;refine⟨q5f ?_,(((zb _ _).alloc (zn _) _).alloc (by simp) _).trans (HB.out.mono (by simp;omega))⟩;simp_all
end Go.Proofs.YtcmiljnbmgkdnaaGreat
