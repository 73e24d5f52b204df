import Derived.Test.YtnfeiginmngknaaGreatFZ03
namespace Go.Proofs.YtnfeiginmngknaaGreat
set_option maxRecDepth 100000
set_option linter.unusedVariables false
set_option linter.unusedSimpArgs false
open Go.ChangeShapes Go.WideShapes Go.ChangeAt Go.RowKit
theorem RP{w:World}{B e:Nat}{v:Value}{l:List (Int×Int)}(h:w.ownsRow B e 2 v l.length (zN l))(hl:0<l.length):∃g c,v= .slice (some ⟨g,0,none⟩) l.length c/\zd zf 2 w w.heap.size (some ⟨g,0,none⟩) c l/\g<w.heap.size:=by
 obtain⟨A,c,rfl,hs,_⟩:=Yq h;rcases Je h with⟨_,hn⟩|⟨g,c',hv,_⟩
 ·omega
 ·injection hv with hA;subst hA;obtain⟨ad,e,hb,_⟩:=hs.row.at_ hl;injection e with e;subst e;exact⟨g,c,rfl,hs,hb⟩
theorem qg0{w:World}{B g c k:Nat}{L:List (Int×Int)}(h:zd zf 2 w B (some ⟨g,0,none⟩) c L)(hk:k<L.length):w.cell? ⟨g,k*2,none⟩=some (.int .i64 L[k].1)/\w.cell? ⟨g,k*2+1,none⟩=some (.int .i64 L[k].2):=by
 obtain⟨ad,e,hb,t0,t1⟩:=h.row.at_ hk;injection e with e;subst e;have e1:(⟨g,0,none⟩:Addr).add (k*2)=⟨g,k*2,none⟩:=by
  unfold Addr.add;by_cases q:k*2=0
  ·simp[q]
  ·simp[q]
 rw[e1]at t0 t1;exact⟨t0,t1⟩
theorem UM{w:World}{B g c k:Nat}{L:List (Int×Int)}(h:zd zf 2 w B (some ⟨g,0,none⟩) c L)(hk:k<L.length):zd zf 2 w B (some ⟨g,k*2,none⟩) (c - k) [L[k]]:=by
 refine⟨by have:=h.le;show 1<=c - k;omega,by have:=h.cap;omega,fun i t hi=> ?_⟩;obtain⟨ad,e,hb,ht⟩:=h.row.at_ hk;injection e with e;subst e
 match i,hi with
 |0,hi=>
  simp at hi;subst hi;refine⟨_,rfl,hb,?_⟩;have e1:(⟨g,k*2,none⟩:Addr).add (0*2)=(⟨g,0,none⟩:Addr).add (k*2):=by
   unfold Addr.add;by_cases q:k*2=0
   ·simp[q]
   ·simp[q]
  rw[e1];exact ht
 |i+1,hi=>simp at hi
abbrev Mh(N:Nat)(h:zh)(m:za)(a b:Int)(w':World):Prop:=I7h N h m w' (w'.cell? ⟨N+1,1,none⟩=some (.int .i64 a)/\w'.cell? ⟨N+1,2,none⟩=some (.int .i64 b)/\w'.cell? ⟨N+1+1+1+1+1+1,0,none⟩=some (.int .i64 3)/\w'.cell? ⟨N+1+1+1+1+1+1,1,none⟩=some (.int .i64 a))
theorem wI.held{w1:World}{N:Nat}{h:zh}{m:za}{op a b:Int}(HP:Hid (wI w1 N h m op a b)):Hid (∀W,Below w1.heap.size w1 W->Mh N h m a b W):=zH (fun W hW=>by
 have hz:=HP.out.size;obtain⟨d0,d1,d2,d3,d4,d5,d6⟩:=HP.out.img.keep hW (by omega);have di:=HP.out.ins.keep hW (by omega);have dt:=HP.out.t3.keep hW (by omega);exact⟨d0,d1,d2,d3,d4,d5,d6,di 1 _ rfl,di 2 _ rfl,dt 0 _ rfl,dt 1 _ rfl⟩)
set_option maxHeartbeats 1600000 in
theorem qja(m:za)(x:zl)(f:Nat)(a:Int)(k:Nat)(hk:k<(qg m.classes a).length)(hn:m.classes.length<=1000)(hf:∀x ∈m.classes,x.fields.length<=1000)(h:zh)(w:World)(H:zr w w.heap.size h m):
  Calls Tryz.prog 96 #[zv h m,.int .i64 f,qt 27 a (k:Int)] w (EK (jq m x 27 a (k:Int)) (jg m x 27 a (k:Int)) w):=by
 obtain⟨L,hL⟩:=zj (qg m.classes a);have HL:=zH hL;rw[hL]at hk;have HF:=zH hf;have Qx:L.length<=1000000:=by rw[<-hL];exact yK hf hn a
 have hL0:0<L.length:=by omega
 have e0:bZ m a (k:Int)=L[k]:=by unfold bZ;rw[hL,Xo,Xc hk];rfl
 have e1:jq m x 27 a (k:Int)=[(3,a)]:=by simp[jq]
 have e2:jg m x 27 a (k:Int)=[L[k]]:=by simp[jg,e0]
 rw[e1,e2];clear e0 e1 e2 hL hf;obtain⟨hw,hp⟩:=DC h m 27 a (k:Int) w;have HW:=zH hw;have HP:=zH hp;have HI:=zH (H.now hw);clear hw hp H;go_enter Tryz.func96,Tryz.ntmps96;go_upto_region 3 with fail
 change Code.wp _ _ _ _ (eZ h m 27 a (k:Int) w);generalize eZ h m 27 a (k:Int) w=w1 at*
 obtain⟨o0,o1,o2⟩:=qv HP.out.ins;have hz:=HP.out.size;have HX:Hid (Below w1.heap.size w1 w1.drew):=zH (zb w1.heap.size w1).drew;have dB:Hid (Below w1.heap.size w1 (w1.alloc (.cells #[.int .i64 3,.int .i64 a] 45)).drew):=zH (zk (w:=w1)).drew;have HK:=wI.held HP;go_wp2_with fail
 have hw1:IntKind.i64.wrap ((k:Int)+1)=(k:Int)+1:=IntWalk.i64_in _ (by omega);go_region_held3 (Mh w.heap.size h m a (k:Int)) (first|exact HK.out _ HX.out|exact HK.out _ dB.out|exact HK.out _ zp.out|exact HK.out _ (zp.out.alloc zp.out.size _)) (first|(go_at_call 41;(first|((with_reducible refine(DF HI HX HL hn HF).mono ?_);have HY:=HX)|((with_reducible refine(DF HI dB HL hn HF).mono ?_);have HY:=dB));rintro e w3 ⟨v3,rfl,ho,hb⟩;obtain⟨g,c3,rfl,hs,hg⟩:=RP ho hL0;have zp:=zi HY hb;have HZ3:=zH hb;have jM:=zH hs;have dU:=zH hg;have hc3:=jM.out.le;have q14:=jM.out.cap;have hb1:(0:Int)<=(k:Int)+1:=(by omega);have hb2:(k:Int)+1<=(c3:Int):=(by omega);have hb3:¬c3=k:=(by omega);clear ho hb hs hg))
 all_goals
  go_wp2_with fail
  go_ret2
  first
   |exact⟨_,_,_,_,rfl,JT (by simp) (by go_simp) (by go_simp),UM ((jM.out.below_to zf.keeps (zk (w:=w3)) (zn _)).keep' zf.keeps (by simp) (fun _ _=>rfl)) hk,HW.out.trans ((zp.out.alloc zp.out.size _).mono HW.out.size)⟩
   |exact⟨_,_,_,_,rfl,JT (Xp (by simp;omega) HZ3.out.size) ((HZ3.out.cell (p:=⟨w.heap.size+1+1+1+1+1+1+1,0,none⟩) (by simp;omega)).trans (by go_simp)) ((HZ3.out.cell (p:=⟨w.heap.size+1+1+1+1+1+1+1,1,none⟩) (by simp;omega)).trans (by go_simp)),UM jM.out hk,zD HW zp⟩
set_option maxHeartbeats 1600000 in
theorem qj9(m:za)(x:zl)(f:Nat)(a:Int)(k:Nat)(hk:k<(qg m.classes a).length)(hn:m.classes.length<=1000)(hf:∀x ∈m.classes,x.fields.length<=1000)(h:zh)(w:World)(H:zr w w.heap.size h m):
  Calls Tryz.prog 96 #[zv h m,.int .i64 f,qt 28 a (k:Int)] w (EK (jq m x 28 a (k:Int)) (jg m x 28 a (k:Int)) w):=by
 obtain⟨L,hL⟩:=zj (qg m.classes a);have HL:=zH hL;rw[hL]at hk;have HF:=zH hf;have Qx:L.length<=1000000:=by rw[<-hL];exact yK hf hn a
 have hL0:0<L.length:=by omega
 have e0:bZ m a (k:Int)=L[k]:=by unfold bZ;rw[hL,Xo,Xc hk];rfl
 have e1:jq m x 28 a (k:Int)=[(3,a),L[k]]:=by simp[jq,e0]
 have e2:jg m x 28 a (k:Int)=[]:=by simp[jg]
 rw[e1,e2];clear e0 e1 e2 hL hf;obtain⟨hw,hp⟩:=DC h m 28 a (k:Int) w;have HW:=zH hw;have HP:=zH hp;have HI:=zH (H.now hw);clear hw hp H;go_enter Tryz.func96,Tryz.ntmps96;go_upto_region 3 with fail
 change Code.wp _ _ _ _ (eZ h m 28 a (k:Int) w);generalize eZ h m 28 a (k:Int) w=w1 at*
 obtain⟨o0,o1,o2⟩:=qv HP.out.ins;have hz:=HP.out.size;have HX:Hid (Below w1.heap.size w1 w1.drew):=zH (zb w1.heap.size w1).drew;have dB:Hid (Below w1.heap.size w1 (w1.alloc (.cells #[.int .i64 3,.int .i64 a] 45)).drew):=zH (zk (w:=w1)).drew;have HK:=wI.held HP;go_wp2_with fail
 refine wp_region_noPanic ?_;refine wp_region_held_drew (S:=Mh w.heap.size h m a (k:Int)) (by kernel_rfl) (HK.out _ HX.out) (fun hHeld=> ?_);refine mT 0 (h:=mT 1 (h:=mT 2 (h:=mT 3 (h:=mT 5 (h:=mT 6 (h:= ?_))))));refine mR 4 (h:=fun K hK=> ?_);go_simp;go_wp2_with(go_at_call 41;(with_reducible refine(DF HI HX HL hn HF).mono ?_);rintro e w3 ⟨v3,rfl,ho,hb⟩;obtain⟨g,c3,rfl,hs,hg⟩:=RP ho hL0;have zp:=zi HX hb;have jM:=zH hs;have dU:=zH hg;have hc3:=jM.out.le;have q14:=jM.out.cap;obtain⟨r0,r1⟩:=qg0 jM.out hk;clear ho hb hs hg)
 refine mK hK (HK.out _ zp.out) (h:=fun hHeld=> ?_);clear hK K;refine mT 7 (h:= ?_);refine mR 8 (h:=fun K hK=> ?_);go_simp;refine mK hK (HK.out _ zp.out) (h:=fun hHeld=> ?_);clear hK K;refine mR 9 (h:=fun K hK=> ?_);go_simp;refine mK hK (HK.out _ (zp.out.alloc zp.out.size _)) (h:=fun hHeld=> ?_);clear hK K;refine mT 10 (h:=mT 11 (h:= ?_));refine wpAnyH_done (by kernel_rfl) ?_ _;refine NoPanic.normal ?_;go_wp2_with fail
 go_ret2
 exact⟨_,_,_,_,rfl,LW (by simp) (by go_simp) (by go_simp) (by go_simp) (by go_simp),va,HW.out.trans ((zp.out.alloc zp.out.size _).mono HW.out.size)⟩
theorem qaj(l:List (Int×Int)):(zN l).drop 2=zN (l.drop 1):=by
 cases l with
 |nil=>rfl
 |cons t r=>rfl
theorem qbj{m:za}{h:zh}{w0 w:World}{c n:Int}{k:Nat}(HI:Hid (zr w0 w0.heap.size h m))(HX:Hid (Below w0.heap.size w0 w))(HO:Hid (kP m.classes c n=some (k:Int))):
  Calls Tryz.prog 67 #[zv h m,.int .i64 c,.int .i64 n] w fun e w'=>e= .returned (.tuple #[.int .i64 k,.bool true])/\Below w.heap.size w w':=K5 HI HX HO
theorem Pv{P:Prop}(h:P:=by
 refine mK hK (HK.out _ qc.out) (h:=fun hHeld=> ?_);clear hK K;refine mT 16 (h:=mT 17 (h:= ?_));refine wpAnyH_done (by kernel_rfl) ?_ _;refine NoPanic.normal ?_;go_wp2_with fail
 go_ret2
 exact⟨_,_,_,_,rfl,(Qi.out.below_to zf.keeps oz.out (zn _)).keep' zf.keeps oz.out.size (fun _ _=>rfl),nX.out,zD HW qc⟩):P:=h
abbrev Mf(N:Nat)(h:zh)(m:za)(a:Int)(ad Qh:Addr)(k:Nat)(A1 A4 A7:Option Addr)(k0 k1 k4 k7:Nat)(y:zl)(w':World):Prop:=w'.cell? ⟨N,3,none⟩=some (.slice (some ad) m.methods.length h.c3)/\w'.cell? ⟨N+1+1+1+1+1+1,0,none⟩=some (.int .i64 3)/\w'.cell? ⟨N+1+1+1+1+1+1,1,none⟩=some (.int .i64 a)/\w'.cell? (ad.add (k*8))=some (.slice (some Qh) y.args.length k0)/\w'.cell? (zc (ad.add (k*8)) 1)=some (.slice A1 y.locals.length k1)/\w'.cell? (zc (ad.add (k*8)) 2)=some (.int .i64 y.ret.1)/\w'.cell? (zc (ad.add (k*8)) 3)=some (.int .i64 y.ret.2)/\w'.cell? (zc (ad.add (k*8)) 4)=some (.slice A4 y.code.length k4)/\w'.cell? (zc (ad.add (k*8)) 5)=some (.int .i64 y.depth)/\w'.cell? (zc (ad.add (k*8)) 6)=some (.int .i64 y.pot)/\w'.cell? (zc (ad.add (k*8)) 7)=some (.slice A7 y.phi.length k7)
set_option maxHeartbeats 1600000 in
theorem qj8(m:za)(x:zl)(f:Nat)(a b:Int)(k:Nat)(hs:kP m.classes a b=some (k:Int))(y:zl)(hy:m.methods[k]? =some y)(hal:0<y.args.length)(qm1:y.args.length<=1048576)(h:zh)(w:World)(H:zr w w.heap.size h m):
  Calls Tryz.prog 96 #[zv h m,.int .i64 f,qt 32 a b] w (EK (jq m x 32 a b) (jg m x 32 a b) w):=by
 have M7:Yz m a b=(k:Int):=by unfold Yz;rw[hs];rfl
 have e0:zA m (k:Int)=y:=by unfold zA;rw[Xo,hy];rfl
 obtain⟨G,hG⟩:=zj (vb y);have HR:=zH hG;obtain⟨D,hD⟩:=zj (y.args.drop 1);have e1:jq m x 32 a b=(3,a)::D:=by rw[<-hD];simp[jq,e0,M7]
 have hDl:D.length=y.args.length - 1:=by rw[<-hD,XK]
 have HD:=zH hD;have bD:=zH hDl;have e2:jg m x 32 a b=G:=by simp[jg,e0,M7,hG]
 rw[e1,e2];have jD:=zH hs;obtain⟨hfm,hgx⟩:=Xv.mp hy;clear M7 e0 e1 e2 hG hs hy hD hDl;obtain⟨hw,hp⟩:=DC h m 32 a b w;have HW:=zH hw;have HP:=zH hp;have HI:=zH (H.now hw);clear hw hp H;go_enter Tryz.func96,Tryz.ntmps96;go_upto_region 3 with fail
 change Code.wp _ _ _ _ (eZ h m 32 a b w);generalize eZ h m 32 a b w=w1 at*
 obtain⟨o0,o1,o2⟩:=qv HP.out.ins;have hz:=HP.out.size;obtain⟨q0,q1,q2,q3,q4,q5,q6⟩:=HP.out.img;have l3:=HI.out.methods.le;have bz:=HI.out.methods.cap;obtain⟨ad,hx,e0,hab,VU,hmc⟩:=Zx HI.out hfm;have oJ:=zH e0;rw[hgx]at VU hmc;clear e0;have HM:=zH VU;have Vi:=zH hmc;have qY:=zH hab;clear VU hmc hab;obtain⟨i0,hi,hz0,hz1,hz2⟩:=jJ bM;obtain⟨Qh,eg,hbg,_⟩:=HM.out.args.row.at_ (i:=0) hal;have hcap0:=HM.out.args.le;have hcap1:=HM.out.args.cap;have Vu:=zH (YQ HM.out.args.row);obtain⟨A0,A1,A4,A7,k0,k1,k4,k7⟩:=hx;dsimp only at eg hcap0 hcap1;subst eg;have HX0:=qP w1;go_upto_region 46 with(go_at_call 67;(with_reducible refine(qbj HI HX0 jD).mono ?_);rintro e w2 ⟨rfl,hb⟩;have HX2:=zH hb;clear hb)
 have HX:Hid (Below w1.heap.size w1 w2.drew):=zH HX2.out.drew;have HK:Hid (∀W,Below w1.heap.size w1 W->Mf w.heap.size h m a ad Qh k A1 A4 A7 k0 k1 k4 k7 y W):=zH (fun W hW=>by
  obtain⟨d0,d1,d2,d3,d4,d5,d6,d7⟩:=Vi.out.keep hW (by rw[zC];exact qY.out);have dt:=HP.out.t3.keep hW (by omega);exact⟨(hW.cell (p:=⟨w.heap.size,3,none⟩) (by show w.heap.size<_;omega)).trans (by rw[<-oJ.out];exact q3),dt 0 _ rfl,dt 1 _ rfl,d0,d1,d2,d3,d4,d5,d6,d7⟩)
 clear q0 q1 q2 q3 q4 q5 q6 o0 o1 o2;have hsz2:=HX2.out.size;have hal1:(1:Int)<=(y.args.length:Int):=by omega
 by_cases hk1:k0=1
 ·subst hk1;refine wp_region_noPanic ?_;refine wp_region_held_drew (S:=Mf w.heap.size h m a ad Qh k A1 A4 A7 1 k1 k4 k7 y) (by kernel_rfl) (HK.out _ HX.out) (fun hHeld=> ?_);refine mT 0 (h:=mT 2 (h:=mT 3 (h:=mT 4 (h:=mT 5 (h:=mT 6 (h:=mT 7 (h:=mT 8 (h:= ?_))))))));refine mT 10 (h:=mT 11 (h:=mT 12 (h:=mT 13 (h:=mT 14 (h:= ?_)))));refine mR 1 (h:=fun K hK=> ?_);go_simp;have HB1:=zH (HX.out.alloc HX.out.size (.cells #[.int .i64 3,.int .i64 a] 45));have ZH:Hid ((w2.drew.alloc (.cells #[.int .i64 3,.int .i64 a] 45)).ownsRow w2.drew.heap.size 45 2 (.slice (some ⟨w2.drew.heap.size,0,none⟩) 1 1) 1 (tyC (3,a))):=zH ⟨rfl,.inr ⟨w2.drew.heap.size,1,#[.int .i64 3,.int .i64 a],rfl,zn _,Xz _ _,zn _,(by unfold maxLen;omega),rfl,rfl⟩⟩;have kC:Hid (zw (w2.drew.alloc (.cells #[.int .i64 3,.int .i64 a] 45)) w1.heap.size (some Qh) (zN D)):=zH ((by have e:D=[]:=Wp (by rw[bD.out];omega);rw[e];exact zw.nil));refine mK hK (HK.out _ HB1.out) (h:=fun hHeld=> ?_);clear hK K;refine mR 9 (h:=fun K hK=> ?_)
  (refine gL rfl _ _ 24 rfl w2.heap.size 45 i0 (.agg #[.int .i64 0,.int .i64 0]) 2 16 Tryz.underlying24 hi hz0 hz1 hz2 rfl (by decide) _ 1 (tyC (3,a)) rfl ZH.out (some Qh) 0 0 _ (zN D) (by rw[Yt,bD.out];omega) rfl kC.out (QM _) (by unfold maxLen;omega) (by omega) (by simp) ?_;intro v4 w4 hown hgrow;have HX4:=zH (jx HB1.out (js ZH.out hsz2) HB1.out.size hgrow);have hO:w4.ownsRow w2.heap.size 45 2 v4 (((3,a):Int×Int)::D).length (zN (((3,a):Int×Int)::D)):=(by have e0:y.args.length - 1=0:=(by omega);rw[XI,bD.out,e0];exact hown);obtain⟨Gn,c4',rfl,CF,_⟩:=Yq hO;have Qi:=zH CF;clear hown hgrow hO CF)
  refine mK hK (HK.out _ HX4.out) (h:=fun hHeld=> ?_);clear hK K;refine mR 15 (h:=fun K hK=> ?_);go_simp;go_wp2_with(go_at_call 129;(with_reducible refine(DY (hx:=⟨some Qh,A1,A4,A7,1,k1,k4,k7⟩) HR).mono ?_);rintro e w5 ⟨A5,c5,rfl,hs,hb⟩;have qc:=zi HX4 hb;have oz:=zH hb;have nX:=zH hs;clear hb hs)
  exact Pv
 ·have hk2:¬k0<=1:=by omega
  refine wp_region_noPanic ?_;refine wp_region_held_drew (S:=Mf w.heap.size h m a ad Qh k A1 A4 A7 k0 k1 k4 k7 y) (by kernel_rfl) (HK.out _ HX.out) (fun hHeld=> ?_);refine mT 0 (h:=mT 2 (h:=mT 3 (h:=mT 4 (h:=mT 5 (h:=mT 6 (h:=mT 7 (h:=mT 8 (h:= ?_))))))));refine mT 10 (h:=mT 11 (h:=mT 12 (h:=mT 13 (h:=mT 14 (h:= ?_)))));refine mR 1 (h:=fun K hK=> ?_);go_simp;have HB1:=zH (HX.out.alloc HX.out.size (.cells #[.int .i64 3,.int .i64 a] 45));have ZH:Hid ((w2.drew.alloc (.cells #[.int .i64 3,.int .i64 a] 45)).ownsRow w2.drew.heap.size 45 2 (.slice (some ⟨w2.drew.heap.size,0,none⟩) 1 1) 1 (tyC (3,a))):=zH ⟨rfl,.inr ⟨w2.drew.heap.size,1,#[.int .i64 3,.int .i64 a],rfl,zn _,Xz _ _,zn _,(by unfold maxLen;omega),rfl,rfl⟩⟩;have kC:Hid (zw (w2.drew.alloc (.cells #[.int .i64 3,.int .i64 a] 45)) w1.heap.size (some ⟨Qh.block,Qh.off+2,none⟩) (zN D)):=zH ((by have h1:=(Vu.out.drop_ 2).below_to HB1.out (zn _);rw[qaj,HD.out]at h1;have e:(some Qh).map (fun x=>Addr.add x 2)=some ⟨Qh.block,Qh.off+2,none⟩:=(by simp[Addr.add]);rw[e]at h1;exact h1));refine mK hK (HK.out _ HB1.out) (h:=fun hHeld=> ?_);clear hK K;refine mR 9 (h:=fun K hK=> ?_)
  (refine gL rfl _ _ 24 rfl w2.heap.size 45 i0 (.agg #[.int .i64 0,.int .i64 0]) 2 16 Tryz.underlying24 hi hz0 hz1 hz2 rfl (by decide) _ 1 (tyC (3,a)) rfl ZH.out (some ⟨Qh.block,Qh.off+2,none⟩) (y.args.length - 1) (k0 - 1) _ (zN D) (by rw[Yt,bD.out]) rfl kC.out (QM _) (by unfold maxLen;omega) (by omega) (by simp) ?_;intro v4 w4 hown hgrow;have HX4:=zH (jx HB1.out (js ZH.out hsz2) HB1.out.size hgrow);have hO:w4.ownsRow w2.heap.size 45 2 v4 (((3,a):Int×Int)::D).length (zN (((3,a):Int×Int)::D)):=(by rw[XI,bD.out,Nat.add_comm];exact hown);obtain⟨Gn,c4',rfl,CF,_⟩:=Yq hO;have Qi:=zH CF;clear hown hgrow hO CF)
  refine mK hK (HK.out _ HX4.out) (h:=fun hHeld=> ?_);clear hK K;refine mR 15 (h:=fun K hK=> ?_);go_simp;go_wp2_with(go_at_call 129;(with_reducible refine(DY (hx:=⟨some Qh,A1,A4,A7,k0,k1,k4,k7⟩) HR).mono ?_);rintro e w5 ⟨A5,c5,rfl,hs,hb⟩;have qc:=zi HX4 hb;have oz:=zH hb;have nX:=zH hs;clear hb hs)
  exact Pv
theorem qfi{α:Type}{f:Nat->α}{a:Nat}{b:α}(h:f a=b):qn f a b=f:=funext fun x=>by
 unfold qn
 grind
theorem qca{P:List (List Nat)}(h:∀c ∈P,c≠ []):P.length<=P.flatten.length:=by
 induction P with
 |nil=>grind
 |cons c P ih=>
  have h1:=ih (fun d hd=>h d (XY _ hd));have h2:0<c.length:=(by grind)
  grind
theorem zY.parts_le{EL:List (List Int)}{n:Nat}{S:Wk}(h:zY EL n S):S.parts.length<=n:=Xe (qca (fun c hc=>(h.srt c hc).1)) h.lens.2.2
theorem zY.split{EL:List (List Int)}{n:Nat}{S:Wk}(h:zY EL n S){v:Nat}(hv:v ∈S.opn):∃O X,S.opn=O++v::X/\v ∉X/\∀x ∈v::X,x<n:=by
 obtain⟨O,X,e⟩:=List.append_of_mem hv;refine⟨O,X,e,fun q=> ?_,fun x hx=>h.olt x (by grind)⟩;have hp:=h.oinc
 grind [List.pairwise_cons]
theorem zY.left{EL:List (List Int)}{n:Nat}{S:Wk}(h:zY EL n S){W:List Nat}{v p:Nat}(hw:S.way=W++[p]++[v])(hg:S.gone v=(eds EL v).length)(hb:S.back v<S.place v):
  zY EL n {S with way:=W++[p],back:=qn S.back p (min (S.back p) (S.back v))}:=by
 have hpw:p ∈S.way:=by grind
 have hvw:v ∈S.way:=by grind
 have hpv:S.place p<S.place v:=by
  have hp:=h.winc
  grind
 obtain⟨a1,a2,u,hu,a3,a4⟩:=h.bin p (h.wsub p hpw);obtain⟨b1,b2,x,hx,b3,b4⟩:=h.bin v (h.wsub v hvw);have h1:zY EL n (S.lower p (min (S.back p) (S.back v))):=by
  refine h.lower hpw (by omega) (by omega) ?_;by_cases hm:S.back p<=S.back v
  ·grind
  ·rw[show min (S.back p) (S.back v)=S.back v by omega];refine⟨x,hx,b3,?_⟩;have hpx:p=v\/qQ EL n p v:=h.tree p hpw v (h.wsub v hvw) (Xg hpv);rcases hpx with rfl|hpx
   ·omega
   ·rcases b4 with rfl|b4
    ·omega
    ·exact .inr (hpx.join (h.olt v (h.wsub v hvw)) b4)
 have hvp:v≠p:=(by grind)
 have hlast:∀q ∈W,S.place q<S.place p:=fun q hq=>by
  have hp:=h.winc
  grind
 have hbv:(S.lower p (min (S.back p) (S.back v))).back v=S.back v:=YU _ _ hvp;have h2:=h1.pop (W:=W++[p]) (v:=v) hw hg (by rw[hbv];exact hb) (fun q hq hm=>by
  rw[hbv];rcases Xu.mp hq with hq|hq
  ·have h3:=hm p (by simp);have h3:S.place p<=S.place q:=h3
   grind
  ·rw[XR]at hq;subst hq;have e:(S.lower q (min (S.back q) (S.back v))).back q=min (S.back q) (S.back v):=Jn _ _ _;omega)
 have e:(S.lower p (min (S.back p) (S.back v))).pop={S with way:=W++[p],back:=qn S.back p (min (S.back p) (S.back v))}:=by
  unfold Wk.pop Wk.lower
  grind
 grind
def qip(B g:Nat)(EL:List (List Int))(n:Nat)(S:Wk)(W:List Nat)(w:World)(e:Ending)(w':World):Prop:=
 e= .returned (.tuple #[])/\(∃S' a' ρ',zJ w' B g EL n S' a' ρ'/\zY EL n S'/\S'.way=W/\S'.place=S.place)/\Below B w w'
set_option maxHeartbeats 3200000 in
theorem q66(B g n v:Nat)(EL:List (List Int))(S:Wk)(W:List Nat)(a:fC)(ρ:Nat->Nat)(w:World)(h:zJ w B g EL n S a ρ)(hT:zY EL n S)(hw:S.way=W++[v])(hg:S.gone v=(eds EL v).length):
  Calls Tryz.prog 156 #[.pointer (some ⟨g,0,none⟩),.int .i64 (v:Int)] w (qip B g EL n S W w):=by
 obtain⟨met,place,back,gone,way,opn,parts⟩:=S;obtain⟨gp,gb,gg,E,ce,Ay,cy,Ao,co,Ap,cp,vs⟩:=a;dsimp only at hw hg;subst hw;have hn1:=h.n1;have hge:=h.g_ge;obtain⟨hg0,hg1,hg2,hg3⟩:=hge;have hlen:(W++[v]).length=W.length+1:=by simp
 have hvw:v ∈W++[v]:=by simp
 have hv:v<n:=hT.olt v (hT.wsub v hvw);have hwl:=hT.lens.1;dsimp only at hwl hg1 hg2 hg3;rw[hlen]at hwl;obtain⟨gy,rfl,hc1,hc2,hgy,_⟩:=pR h.way (by grind);dsimp only at hc1;rw[hlen]at hc1;have q5:=h.blk.cells 5 _ rfl;have f5:=h.blk.free 5;dsimp only at q5;rw[hlen]at q5;have HI:=zH h;have HW1:=zH (h.way_cut (O:=W) (X:=[v]) rfl);have X1:=zH (h.cell_below (zb B w) 5 (.slice (some ⟨gy,0,none⟩) W.length cy));dsimp only at HW1;have HT:=zH hT;have HG:=zH hg;obtain⟨k,hk⟩:=zj (W.length);rw[hk]at q5 hwl hc1 HW1 X1;have HK:=zH hk;clear h hT hg hk hlen hvw;go_enter Tryz.func156,Tryz.ntmps156;go_wp2_with fail
 go_region
 have HW2:=zH (HW1.out.keep (zb _ _).drew);have X2:=zH X1.out.drew;clear q5 f5 HW1 X1;generalize(w.setCell ⟨g,5,none⟩ (.slice (some ⟨gy,0,none⟩) k cy)).drew=w2 at*
 have q2:=HW2.out.blk.cells 2 _ rfl;have q3:=HW2.out.blk.cells 3 _ rfl;obtain⟨c1,_⟩:=HW2.out.p_at hv;obtain⟨c2,_⟩:=HW2.out.b_at hv;dsimp only at q2 q3 c1 c2;by_cases hbp:back v=(place v:Int)
 ·have hcmp:(back v==(place v:Int))=true:=by grind
  go_wp2_with fail
  go_region
  have HW3:=zH (HW2.out.keep (zb _ _).drew);have X3:=zH X2.out.drew;generalize w2.drew=w3 at*
  clear q2 q3 c1 c2 HW2 X2;obtain⟨O,Y,ho,hY,hlt⟩:=HT.out.split (HT.out.wsub v (by simp));have gF:=zH ho;have hcl:=q6b B g n v EL _ O Y _ _ w3 HW3.out ho hY hlt HT.out.lens.2.1 HT.out.parts_le;have Qe:=zH hcl;clear hcl ho hY hlt;go_upto_region 3 with(go_at_call 187;go_loud (refine Qe.out.mono ?_);rintro e w4 ⟨rfl,⟨c,a4,ρ4,hp,hpw,h4⟩,hb⟩;have HP:=zH hp;have Ol:=zH hpw;have kj:=zH h4;have X4:=zH (X3.out.trans hb);clear hp hpw h4 hb)
  clear Qe HW3 X3;have Ja:Hid (zY EL n ⟨met,place,fun x=>if x ∈v::Y then kX else back x,gone,W,O,parts++[c]⟩):=zH (by
   have:=HT.out.close (W:=W) (O:=O) (X:=Y) (c:=c) (v:=v) rfl gF.out HG.out hbp HP.out Ol.out;unfold Wk.close at this
   grind)
  obtain⟨gp4,gb4,gg4,E4,ce4,Ay4,cy4,Ao4,co4,Ap4,cp4,vs4⟩:=a4;try dsimp only at kj
  have q5:=kj.out.blk.cells 5 _ rfl;have q3:=kj.out.blk.cells 3 _ rfl;dsimp only at q5 q3;rw[HK.out]at q5;rcases List.eq_nil_or_concat W with hW|⟨W',p,hW⟩
  ·have hk0:k=0:=by rw[<-HK.out,hW];rfl
   have nS:=zH hW;subst hk0;clear hW;go_wp2_with fail
   go_end0
   exact⟨rfl,⟨_,_,_,kj.out,Ja.out,rfl,rfl⟩,X4.out⟩
  ·have hk0:k=W'.length+1:=by rw[<-HK.out,hW];simp
   rw[List.concat_eq_append]at hW;have nS:=zH hW;have hpw:p ∈W:=by rw[hW];simp
   have hpn:p<n:=Ja.out.olt p (Ja.out.wsub p hpw);obtain⟨k',hk'⟩:∃z,W'.length=z:=⟨_,rfl⟩
   rw[hk']at hk0;obtain⟨gy4,hy4,_,_,_,_⟩:=pR kj.out.way (by show 0<W.length;rw[HK.out];omega);dsimp only at hy4;have hrow:w4.ownsRow B 3 1 (.slice Ay4 W.length cy4) W.length (qe W):=kj.out.way;subst hy4;have cw:=pU hrow (mE (l:=W) (j:=k') (v:=p) (by rw[hW,<-hk'];simp));obtain⟨cp',fp'⟩:=kj.out.b_at hpn;obtain⟨cv,_⟩:=kj.out.b_at hv;dsimp only at cp' fp' cv;have FK:p ∉v::Y:=fun q=>(Ja.out.clt p (by rw[List.flatten_append];exact List.mem_append_right _ (by simpa using HP.out.mem_iff.mpr q))).2.2.1 (Ja.out.wsub p hpw);rw[Xa FK]at cp';rw[Xb (XV ..)]at cv;have hpb:=(Ja.out.bin p (Ja.out.wsub p hpw)).2.1;have hpp:=(Ja.out.opos p (Ja.out.wsub p hpw)).2;have hmet:=HT.out.met_le;dsimp only at hpb hpp hmet;rw[Xa FK]at hpb;have hbt:back p<=9223372036854775807:=by omega
   have HPY:=zH FK;subst hk0;clear hW hpw hk' hrow hpb hpp hmet FK;go_upto_region 4 with fail
   go_region
   go_upto_region 5 with fail
   go_region
   have qM:=(kj.out.back (v:=p) (k:=min (back p) kX)).keep (zb _ _).drew.drew;have e:qn (fun x=>if x ∈v::Y then kX else back x) p (min (back p) kX)=fun x=>if x ∈v::Y then kX else back x:=qfi (by rw[Xa HPY.out];show back p=min (back p) 9223372036854775807;omega)
   dsimp only at qM;rw[e]at qM;go_end0
   exact⟨rfl,⟨_,_,_,qM,Ja.out,rfl,rfl⟩,(X4.out.setCell (p:=⟨gb4,p,none⟩) kj.out.g_ge.2.2.1 _).drew.drew⟩
 ·have hcmp:(back v==(place v:Int))=false:=by simpa using hbp
  have hbl:back v<(place v:Int):=by
   have h1:=(HT.out.bin v (HT.out.wsub v (by simp))).2.1;dsimp only at h1;omega
  have q5:=HW2.out.blk.cells 5 _ rfl;dsimp only at q5;rw[HK.out]at q5;rcases List.eq_nil_or_concat W with hW|⟨W',p,hW⟩
  ·have hk0:k=0:=by rw[<-HK.out,hW];rfl
   have HTP:Hid (zY EL n ⟨met,place,back,gone,W,opn,parts⟩):=zH (by
    have:=HT.out.pop (W:=W) (v:=v) rfl HG.out hbl (fun p hp=>by rw[hW]at hp;cases hp);unfold Wk.pop at this;dsimp only at this;rw[List.dropLast_concat]at this;exact this)
   subst hk0;clear hW;go_wp2_with fail
   go_region
   go_wp2_with fail
   go_end0
   exact⟨rfl,⟨_,_,_,HW2.out.keep (zb _ _).drew,HTP.out,rfl,rfl⟩,X2.out.drew⟩
  ·have hk0:k=W'.length+1:=by rw[<-HK.out,hW];simp
   rw[List.concat_eq_append]at hW;have hpw:p ∈W++[v]:=by rw[hW];simp
   have hpn:p<n:=HT.out.olt p (HT.out.wsub p hpw);obtain⟨k',hk'⟩:∃z,W'.length=z:=⟨_,rfl⟩
   rw[hk']at hk0;have hrow:w2.ownsRow B 3 1 (.slice (some ⟨gy,0,none⟩) W.length cy) W.length (qe W):=HW2.out.way;have cw:=pU hrow (mE (l:=W) (j:=k') (v:=p) (by rw[hW,<-hk'];simp));obtain⟨cp',fp'⟩:=HW2.out.b_at hpn;dsimp only at cp' fp';have Vu:Hid (zY EL n ⟨met,place,qn back p (min (back p) (back v)),gone,W,opn,parts⟩):=zH (by
    have:=HT.out.left (W:=W') (v:=v) (p:=p) (by rw[hW]) HG.out hbl;dsimp only at this;rw[<-hW]at this;exact this)
   subst hk0;clear hW hpw hk' hrow;go_wp2_with fail
   go_region
   go_upto_region 4 with fail
   go_region
   go_upto_region 5 with fail
   go_region
   have qM:=(HW2.out.back (v:=p) (k:=min (back p) (back v))).keep (zb _ _).drew.drew.drew;go_end0
   exact⟨rfl,⟨_,_,_,qM,Vu.out,rfl,rfl⟩,(X2.out.setCell (p:=⟨gb,p,none⟩) hg2 _).drew.drew.drew⟩
