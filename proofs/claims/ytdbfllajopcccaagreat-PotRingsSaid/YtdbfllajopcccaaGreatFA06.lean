import Derived.Test.YtdbfllajopcccaaGreatFA04
import Derived.Test.YtdbfllajopcccaaGreatFA05
namespace Go.Proofs.YtdbfllajopcccaaGreat
set_option maxRecDepth 100000
set_option linter.unusedVariables false
set_option linter.unusedSimpArgs false
open Go.ChangeShapes Go.WideShapes Go.ChangeAt Go.RowKit
theorem q94{w:World}{B e:Nat}{v:Value}{l:List (Int×Int)}(h:w.ownsRow B e 2 v l.length (zD l))(hl:0<l.length):∃g c,v= .slice (some ⟨g,0,none⟩) l.length c∧zd zi 2 w w.heap.size (some ⟨g,0,none⟩) c l∧g<w.heap.size:=by
 obtain⟨A,c,rfl,hs,_⟩:=vy h;rcases jA h with⟨_,hn⟩|⟨g,c',hv,_⟩
 ·omega
 ·injection hv with hA;subst hA;obtain⟨ad,e,hb,_⟩:=hs.row.at_ hl;injection e with e;subst e;exact⟨g,c,rfl,hs,hb⟩
theorem qnr{w:World}{B g c k:Nat}{L:List (Int×Int)}(h:zd zi 2 w B (some ⟨g,0,none⟩) c L)(hk:k<L.length):w.cell? ⟨g,k*2,none⟩=some (.int .i64 L[k].1)∧w.cell? ⟨g,k*2+1,none⟩=some (.int .i64 L[k].2):=by
 obtain⟨ad,e,hb,t0,t1⟩:=h.row.at_ hk;injection e with e;subst e;have e1:(⟨g,0,none⟩:Addr).add (k*2)=⟨g,k*2,none⟩:=by
  unfold Addr.add;by_cases q:k*2=0
  ·simp[q]
  ·simp[q]
 rw[e1]at t0 t1;exact⟨t0,t1⟩
theorem qbg{w:World}{B g c k:Nat}{L:List (Int×Int)}(h:zd zi 2 w B (some ⟨g,0,none⟩) c L)(hk:k<L.length):zd zi 2 w B (some ⟨g,k*2,none⟩) (c - k) [L[k]]:=by
 refine⟨by have:=h.le;show 1≤c - k;omega,by have:=h.cap;omega,fun i t hi=> ?_⟩;obtain⟨ad,e,hb,ht⟩:=h.row.at_ hk;injection e with e;subst e
 match i,hi with
 |0,hi=>
  simp at hi;subst hi;refine⟨_,rfl,hb,?_⟩;have e1:(⟨g,k*2,none⟩:Addr).add (0*2)=(⟨g,0,none⟩:Addr).add (k*2):=by
   unfold Addr.add;by_cases q:k*2=0
   ·simp[q]
   ·simp[q]
  rw[e1];exact ht
 |i+1,hi=>simp at hi
set_option maxHeartbeats 1600000 in
theorem qqa(m:za)(x:ze)(f:Nat)(a:Int)(k:Nat)(hk:k<(qS m.classes a).length)(hn:m.classes.length≤1000)(hf:∀x ∈m.classes,x.fields.length≤1000)(h:zl)(w:World)(H:zp w w.heap.size h m):
  Calls Tryz.prog 32 #[zr h m,.int .i64 f,zF 27 a (k:Int)] w (jR (zE m x 27 a (k:Int)) (zB m x 27 a (k:Int)) w):=by
 obtain⟨L,hL⟩:∃L,qS m.classes a=L:=⟨_,rfl⟩
 have HL:=zH hL;rw[hL]at hk;have HF:=zH hf;have hLl:L.length≤1000000:=by rw[←hL];exact VI hf hn a
 have hL0:0<L.length:=by omega
 have e0:ZB m a (k:Int)=L[k]:=by unfold ZB;rw[hL,Int.toNat_natCast,List.getElem?_eq_getElem hk];rfl
 have e1:zE m x 27 a (k:Int)=[(3,a)]:=by simp[zE]
 have e2:zB m x 27 a (k:Int)=[L[k]]:=by simp[zB,e0]
 rw[e1,e2];clear e0 e1 e2 hL hf;obtain⟨hw,hp⟩:=jY h m 27 a (k:Int) w;have HW:=zH hw;have HP:=zH hp;have HI:=zH (H.now hw);clear hw hp H;go_enter Tryz.func32,Tryz.ntmps32;go_upto_region 3 with fail
 change Code.wp _ _ _ _ (ql h m 27 a (k:Int) w);generalize ql h m 27 a (k:Int) w=w1 at*
 obtain⟨o0,o1,o2⟩:=zJ HP.out.ins;have hz:=HP.out.size;have HX:Hid (Below w1.heap.size w1 w1.drew):=zH (zb w1.heap.size w1).drew;have HXA:Hid (Below w1.heap.size w1 (w1.alloc (.cells #[.int .i64 3,.int .i64 a] 39)).drew):=zH ((zb w1.heap.size w1).alloc (zn _) _).drew;have HK:Hid (∀W,Below w1.heap.size w1 W→(fun w'=>w'.cell? ⟨w.heap.size,0,none⟩=some (.slice h.A0 m.classes.length h.c0)∧w'.cell? ⟨w.heap.size,1,none⟩=some (.slice h.A1 m.statics.length h.c1)∧w'.cell? ⟨w.heap.size,2,none⟩=some (.slice h.A2 m.ints.length h.c2)∧w'.cell? ⟨w.heap.size,3,none⟩=some (.slice h.A3 m.methods.length h.c3)∧w'.cell? ⟨w.heap.size,4,none⟩=some (.slice h.A4 m.entries.length h.c4)∧w'.cell? ⟨w.heap.size,5,none⟩=some (.int .i64 m.stack)∧w'.cell? ⟨w.heap.size,6,none⟩=some (.int .i64 m.heap)∧w'.cell? ⟨w.heap.size+1,1,none⟩=some (.int .i64 a)∧w'.cell? ⟨w.heap.size+1,2,none⟩=some (.int .i64 (k:Int))∧w'.cell? ⟨w.heap.size+1+1+1+1+1+1,0,none⟩=some (.int .i64 3)∧w'.cell? ⟨w.heap.size+1+1+1+1+1+1,1,none⟩=some (.int .i64 a)) W):=zH (fun W hW=>by
  obtain⟨d0,d1,d2,d3,d4,d5,d6⟩:=HP.out.img.keep hW (by omega);have di:=HP.out.ins.keep hW (by omega);have d3:=HP.out.t3.keep hW (by omega);exact⟨d0,d1,d2,by assumption,d4,d5,d6,di 1 _ rfl,di 2 _ rfl,d3 0 _ rfl,d3 1 _ rfl⟩)
 go_wp2_with fail
 have hw1:IntKind.i64.wrap ((k:Int)+1)=(k:Int)+1:=IntWalk.i64_in _ (by omega);go_region_held3 (fun w'=>w'.cell? ⟨w.heap.size,0,none⟩=some (.slice h.A0 m.classes.length h.c0)∧w'.cell? ⟨w.heap.size,1,none⟩=some (.slice h.A1 m.statics.length h.c1)∧w'.cell? ⟨w.heap.size,2,none⟩=some (.slice h.A2 m.ints.length h.c2)∧w'.cell? ⟨w.heap.size,3,none⟩=some (.slice h.A3 m.methods.length h.c3)∧w'.cell? ⟨w.heap.size,4,none⟩=some (.slice h.A4 m.entries.length h.c4)∧w'.cell? ⟨w.heap.size,5,none⟩=some (.int .i64 m.stack)∧w'.cell? ⟨w.heap.size,6,none⟩=some (.int .i64 m.heap)∧w'.cell? ⟨w.heap.size+1,1,none⟩=some (.int .i64 a)∧w'.cell? ⟨w.heap.size+1,2,none⟩=some (.int .i64 (k:Int))∧w'.cell? ⟨w.heap.size+1+1+1+1+1+1,0,none⟩=some (.int .i64 3)∧w'.cell? ⟨w.heap.size+1+1+1+1+1+1,1,none⟩=some (.int .i64 a)) (first|exact HK.out _ HX.out|exact HK.out _ HXA.out|exact HK.out _ HX3.out|exact HK.out _ (HX3.out.alloc HX3.out.size _)) (first|(go_at_call 28;(first|((with_reducible refine(q1f HI HX HL hn HF).mono ?_);have HY:=HX)|((with_reducible refine(q1f HI HXA HL hn HF).mono ?_);have HY:=HXA));rintro e w3 ⟨v3,rfl,ho,hb⟩;obtain⟨g,c3,rfl,hs,hg⟩:=q94 ho hL0;have HX3:=zj HY hb;have HZ3:=zH hb;have HS3:=zH hs;have HG3:=zH hg;have hc3:=HS3.out.le;have hc3':=HS3.out.cap;have hb1:(0:Int)≤(k:Int)+1:=(by omega);have hb2:(k:Int)+1≤(c3:Int):=(by omega);have hb3:¬c3=k:=(by omega);clear ho hb hs hg))
 all_goals
  go_wp2_with fail
  go_ret2
  first
   |exact⟨_,_,_,_,rfl,vi (by simp) (by go_simp) (by go_simp),qbg ((HS3.out.below_to zi.keeps ((zb w3.heap.size w3).alloc (zn _) _) (zn _)).keep' zi.keeps (by simp) (fun _ _=>rfl)) hk,HW.out.trans ((HX3.out.alloc HX3.out.size _).mono HW.out.size)⟩
   |exact⟨_,_,_,_,rfl,vi (Nat.lt_of_lt_of_le (by simp;omega) HZ3.out.size) ((HZ3.out.cell (p:=⟨w.heap.size+1+1+1+1+1+1+1,0,none⟩) (by simp;omega)).trans (by go_simp)) ((HZ3.out.cell (p:=⟨w.heap.size+1+1+1+1+1+1+1,1,none⟩) (by simp;omega)).trans (by go_simp)),qbg HS3.out hk,HW.out.trans (HX3.out.mono HW.out.size)⟩
set_option maxHeartbeats 1600000 in
theorem qq9(m:za)(x:ze)(f:Nat)(a:Int)(k:Nat)(hk:k<(qS m.classes a).length)(hn:m.classes.length≤1000)(hf:∀x ∈m.classes,x.fields.length≤1000)(h:zl)(w:World)(H:zp w w.heap.size h m):
  Calls Tryz.prog 32 #[zr h m,.int .i64 f,zF 28 a (k:Int)] w (jR (zE m x 28 a (k:Int)) (zB m x 28 a (k:Int)) w):=by
 obtain⟨L,hL⟩:∃L,qS m.classes a=L:=⟨_,rfl⟩
 have HL:=zH hL;rw[hL]at hk;have HF:=zH hf;have hLl:L.length≤1000000:=by rw[←hL];exact VI hf hn a
 have hL0:0<L.length:=by omega
 have e0:ZB m a (k:Int)=L[k]:=by unfold ZB;rw[hL,Int.toNat_natCast,List.getElem?_eq_getElem hk];rfl
 have e1:zE m x 28 a (k:Int)=[(3,a),L[k]]:=by simp[zE,e0]
 have e2:zB m x 28 a (k:Int)=[]:=by simp[zB]
 rw[e1,e2];clear e0 e1 e2 hL hf;obtain⟨hw,hp⟩:=jY h m 28 a (k:Int) w;have HW:=zH hw;have HP:=zH hp;have HI:=zH (H.now hw);clear hw hp H;go_enter Tryz.func32,Tryz.ntmps32;go_upto_region 3 with fail
 change Code.wp _ _ _ _ (ql h m 28 a (k:Int) w);generalize ql h m 28 a (k:Int) w=w1 at*
 obtain⟨o0,o1,o2⟩:=zJ HP.out.ins;have hz:=HP.out.size;have HX:Hid (Below w1.heap.size w1 w1.drew):=zH (zb w1.heap.size w1).drew;have HXA:Hid (Below w1.heap.size w1 (w1.alloc (.cells #[.int .i64 3,.int .i64 a] 39)).drew):=zH ((zb w1.heap.size w1).alloc (zn _) _).drew;have HK:Hid (∀W,Below w1.heap.size w1 W→(fun w'=>w'.cell? ⟨w.heap.size,0,none⟩=some (.slice h.A0 m.classes.length h.c0)∧w'.cell? ⟨w.heap.size,1,none⟩=some (.slice h.A1 m.statics.length h.c1)∧w'.cell? ⟨w.heap.size,2,none⟩=some (.slice h.A2 m.ints.length h.c2)∧w'.cell? ⟨w.heap.size,3,none⟩=some (.slice h.A3 m.methods.length h.c3)∧w'.cell? ⟨w.heap.size,4,none⟩=some (.slice h.A4 m.entries.length h.c4)∧w'.cell? ⟨w.heap.size,5,none⟩=some (.int .i64 m.stack)∧w'.cell? ⟨w.heap.size,6,none⟩=some (.int .i64 m.heap)∧w'.cell? ⟨w.heap.size+1,1,none⟩=some (.int .i64 a)∧w'.cell? ⟨w.heap.size+1,2,none⟩=some (.int .i64 (k:Int))∧w'.cell? ⟨w.heap.size+1+1+1+1+1+1,0,none⟩=some (.int .i64 3)∧w'.cell? ⟨w.heap.size+1+1+1+1+1+1,1,none⟩=some (.int .i64 a)) W):=zH (fun W hW=>by
  obtain⟨d0,d1,d2,d3,d4,d5,d6⟩:=HP.out.img.keep hW (by omega);have di:=HP.out.ins.keep hW (by omega);have d3:=HP.out.t3.keep hW (by omega);exact⟨d0,d1,d2,by assumption,d4,d5,d6,di 1 _ rfl,di 2 _ rfl,d3 0 _ rfl,d3 1 _ rfl⟩)
 go_wp2_with fail
 refine wp_region_noPanic ?_;refine wp_region_held_drew (S:=(fun w'=>w'.cell? ⟨w.heap.size,0,none⟩=some (.slice h.A0 m.classes.length h.c0)∧w'.cell? ⟨w.heap.size,1,none⟩=some (.slice h.A1 m.statics.length h.c1)∧w'.cell? ⟨w.heap.size,2,none⟩=some (.slice h.A2 m.ints.length h.c2)∧w'.cell? ⟨w.heap.size,3,none⟩=some (.slice h.A3 m.methods.length h.c3)∧w'.cell? ⟨w.heap.size,4,none⟩=some (.slice h.A4 m.entries.length h.c4)∧w'.cell? ⟨w.heap.size,5,none⟩=some (.int .i64 m.stack)∧w'.cell? ⟨w.heap.size,6,none⟩=some (.int .i64 m.heap)∧w'.cell? ⟨w.heap.size+1,1,none⟩=some (.int .i64 a)∧w'.cell? ⟨w.heap.size+1,2,none⟩=some (.int .i64 (k:Int))∧w'.cell? ⟨w.heap.size+1+1+1+1+1+1,0,none⟩=some (.int .i64 3)∧w'.cell? ⟨w.heap.size+1+1+1+1+1+1,1,none⟩=some (.int .i64 a))) (by kernel_rfl) (HK.out _ HX.out) (fun hHeld=> ?_);refine mT 0 (h:=mT 1 (h:=mT 2 (h:=mT 3 (h:=mT 5 (h:=mT 6 (h:= ?_))))));refine wpAnyH_ready (rs:=[4]) (by kernel_rfl) (by simp) ?_;refine AllReadyH.cons (o:=_) rfl (fun K hK=> ?_) AllReadyH.nil;go_simp;go_wp2_with(go_at_call 28;(with_reducible refine(q1f HI HX HL hn HF).mono ?_);rintro e w3 ⟨v3,rfl,ho,hb⟩;obtain⟨g,c3,rfl,hs,hg⟩:=q94 ho hL0;have HX3:=zj HX hb;have HS3:=zH hs;have HG3:=zH hg;have hc3:=HS3.out.le;have hc3':=HS3.out.cap;obtain⟨r0,r1⟩:=qnr HS3.out hk;clear ho hb hs hg)
 refine hK.out _ _ (HK.out _ HX3.out) (fun hHeld=> ?_);clear hK K;try simp only[sA,sB,sC,Act.put,sD,sE,sF]
 refine mT 7 (h:= ?_);refine wpAnyH_ready (rs:=[8]) (by kernel_rfl) (by simp) ?_;refine AllReadyH.cons (o:=_) rfl (fun K hK=> ?_) AllReadyH.nil;go_simp;refine hK.out _ _ (HK.out _ HX3.out) (fun hHeld=> ?_);clear hK K;try simp only[sA,sB,sC,Act.put,sD,sE,sF]
 refine wpAnyH_ready (rs:=[9]) (by kernel_rfl) (by simp) ?_;refine AllReadyH.cons (o:=_) rfl (fun K hK=> ?_) AllReadyH.nil;go_simp;refine hK.out _ _ (HK.out _ (HX3.out.alloc HX3.out.size _)) (fun hHeld=> ?_);clear hK K;try simp only[sA,sB,sC,Act.put,sD,sE,sF]
 refine mT 10 (h:=mT 11 (h:= ?_));refine wpAnyH_done (by kernel_rfl) ?_ _;refine NoPanic.normal ?_;go_wp2_with fail
 go_ret2
 exact⟨_,_,_,_,rfl,q2s (by simp) (by go_simp) (by go_simp) (by go_simp) (by go_simp),ji,HW.out.trans ((HX3.out.alloc HX3.out.size _).mono HW.out.size)⟩
theorem qjw(l:List (Int×Int)):(zD l).drop 2=zD (l.drop 1):=by
 cases l with
 |nil=>rfl
 |cons t r=>rfl
theorem qkm{m:za}{h:zl}{w0 w:World}{c n:Int}{k:Nat}(HI:Hid (zp w0 w0.heap.size h m))(HX:Hid (Below w0.heap.size w0 w))(HO:Hid (vb m.classes c n=some (k:Int))):
  Calls Tryz.prog 56 #[zr h m,.int .i64 c,.int .i64 n] w fun e w'=>e= .returned (.tuple #[.int .i64 k,.bool true])∧Below w.heap.size w w':=q5m HI HX HO
theorem q7i{P:Prop}(h:P:=by
 refine hK.out _ _ (HK.out _ HX5.out) (fun hHeld=> ?_);clear hK K;try simp only[sA,sB,sC,Act.put,sD,sE,sF]
 refine mT 16 (h:=mT 17 (h:= ?_));refine wpAnyH_done (by kernel_rfl) ?_ _;refine NoPanic.normal ?_;go_wp2_with fail
 go_ret2
 exact⟨_,_,_,_,rfl,(HS4.out.below_to zi.keeps HZ5.out (zn _)).keep' zi.keeps HZ5.out.size (fun _ _=>rfl),HS5.out,HW.out.trans (HX5.out.mono HW.out.size)⟩):P:=h
set_option maxHeartbeats 1600000 in
theorem qq5(m:za)(x:ze)(f:Nat)(a b:Int)(k:Nat)(hs:vb m.classes a b=some (k:Int))(y:ze)(hy:m.methods[k]? =some y)(hal:0<y.args.length)(hal2:y.args.length≤1048576)(h:zl)(w:World)(H:zp w w.heap.size h m):
  Calls Tryz.prog 32 #[zr h m,.int .i64 f,zF 32 a b] w (jR (zE m x 32 a b) (zB m x 32 a b) w):=by
 have e00:kt m a b=(k:Int):=by unfold kt;rw[hs];rfl
 have e0:zm m (k:Int)=y:=by unfold zm;rw[Int.toNat_natCast,hy];rfl
 obtain⟨G,hG⟩:∃G,jd y=G:=⟨_,rfl⟩
 have HR:=zH hG;obtain⟨D,hD⟩:∃D,y.args.drop 1=D:=⟨_,rfl⟩
 have e1:zE m x 32 a b=(3,a)::D:=by rw[←hD];simp[zE,e0,e00]
 have hDl:D.length=y.args.length - 1:=by rw[←hD,List.length_drop]
 have HD:=zH hD;have HDL:=zH hDl;have e2:zB m x 32 a b=G:=by simp[zB,e0,e00,hG]
 rw[e1,e2];have HSL:=zH hs;obtain⟨hfm,hgx⟩:=List.getElem?_eq_some_iff.mp hy;clear e00 e0 e1 e2 hG hs hy hD hDl;obtain⟨hw,hp⟩:=jY h m 32 a b w;have HW:=zH hw;have HP:=zH hp;have HI:=zH (H.now hw);clear hw hp H;go_enter Tryz.func32,Tryz.ntmps32;go_upto_region 3 with fail
 change Code.wp _ _ _ _ (ql h m 32 a b w);generalize ql h m 32 a b w=w1 at*
 obtain⟨o0,o1,o2⟩:=zJ HP.out.ins;have hz:=HP.out.size;obtain⟨q0,q1,q2,q3,q4,q5,q6⟩:=HP.out.img;have l3:=HI.out.methods.le;have l3c:=HI.out.methods.cap;obtain⟨ad,hx,e0,hab,hmi,hmc⟩:=jB HI.out hfm;have HE0:=zH e0;rw[hgx]at hmi hmc;clear e0;have HM:=zH hmi;have HMC:=zH hmc;have HAB:=zH hab;clear hmi hmc hab;obtain⟨i0,hi,hz0,hz1,hz2⟩:=jg kK;obtain⟨adg,eg,hbg,_⟩:=HM.out.args.row.at_ (i:=0) hal;have hcap0:=HM.out.args.le;have hcap1:=HM.out.args.cap;have HTL:=zH (vl HM.out.args.row);obtain⟨A0,A1,A4,A7,k0,k1,k4,k7⟩:=hx;dsimp only at eg hcap0 hcap1;subst eg;have HX0:Hid (Below w1.heap.size w1 w1):=zH (zb w1.heap.size w1);go_upto_region 46 with(go_at_call 56;(with_reducible refine(qkm HI HX0 HSL).mono ?_);rintro e w2 ⟨rfl,hb⟩;have HX2:=zH hb;clear hb)
 have HX:Hid (Below w1.heap.size w1 w2.drew):=zH HX2.out.drew;have HK:Hid (∀W,Below w1.heap.size w1 W→(fun w'=>w'.cell? ⟨w.heap.size,3,none⟩=some (.slice (some ad) m.methods.length h.c3)∧w'.cell? ⟨w.heap.size+1+1+1+1+1+1,0,none⟩=some (.int .i64 3)∧w'.cell? ⟨w.heap.size+1+1+1+1+1+1,1,none⟩=some (.int .i64 a)∧w'.cell? (ad.add (k*8))=some (.slice (some adg) y.args.length k0)∧w'.cell? (zc (ad.add (k*8)) 1)=some (.slice A1 y.locals.length k1)∧w'.cell? (zc (ad.add (k*8)) 2)=some (.int .i64 y.ret.1)∧w'.cell? (zc (ad.add (k*8)) 3)=some (.int .i64 y.ret.2)∧w'.cell? (zc (ad.add (k*8)) 4)=some (.slice A4 y.code.length k4)∧w'.cell? (zc (ad.add (k*8)) 5)=some (.int .i64 y.depth)∧w'.cell? (zc (ad.add (k*8)) 6)=some (.int .i64 y.pot)∧w'.cell? (zc (ad.add (k*8)) 7)=some (.slice A7 y.phi.length k7)) W):=zH (fun W hW=>by
  obtain⟨d0,d1,d2,d3,d4,d5,d6,d7⟩:=HMC.out.keep hW (by rw[zt];exact HAB.out);have dt:=HP.out.t3.keep hW (by omega);exact⟨(hW.cell (p:=⟨w.heap.size,3,none⟩) (by show w.heap.size<_;omega)).trans (by rw[←HE0.out];exact q3),dt 0 _ rfl,dt 1 _ rfl,d0,d1,d2,d3,d4,d5,d6,d7⟩)
 clear q0 q1 q2 q3 q4 q5 q6 o0 o1 o2;have hsz2:=HX2.out.size;have hal1:(1:Int)≤(y.args.length:Int):=by omega
 by_cases hk1:k0=1
 ·subst hk1;refine wp_region_noPanic ?_;refine wp_region_held_drew (S:=(fun w'=>w'.cell? ⟨w.heap.size,3,none⟩=some (.slice (some ad) m.methods.length h.c3)∧w'.cell? ⟨w.heap.size+1+1+1+1+1+1,0,none⟩=some (.int .i64 3)∧w'.cell? ⟨w.heap.size+1+1+1+1+1+1,1,none⟩=some (.int .i64 a)∧w'.cell? (ad.add (k*8))=some (.slice (some adg) y.args.length 1)∧w'.cell? (zc (ad.add (k*8)) 1)=some (.slice A1 y.locals.length k1)∧w'.cell? (zc (ad.add (k*8)) 2)=some (.int .i64 y.ret.1)∧w'.cell? (zc (ad.add (k*8)) 3)=some (.int .i64 y.ret.2)∧w'.cell? (zc (ad.add (k*8)) 4)=some (.slice A4 y.code.length k4)∧w'.cell? (zc (ad.add (k*8)) 5)=some (.int .i64 y.depth)∧w'.cell? (zc (ad.add (k*8)) 6)=some (.int .i64 y.pot)∧w'.cell? (zc (ad.add (k*8)) 7)=some (.slice A7 y.phi.length k7))) (by kernel_rfl) (HK.out _ HX.out) (fun hHeld=> ?_);refine mT 0 (h:=mT 2 (h:=mT 3 (h:=mT 4 (h:=mT 5 (h:=mT 6 (h:=mT 7 (h:=mT 8 (h:= ?_))))))));refine mT 10 (h:=mT 11 (h:=mT 12 (h:=mT 13 (h:=mT 14 (h:= ?_)))));refine wpAnyH_ready (rs:=[1]) (by kernel_rfl) (by simp) ?_;refine AllReadyH.cons (o:=_) rfl (fun K hK=> ?_) AllReadyH.nil;go_simp;have HB1:=zH (HX.out.alloc HX.out.size (.cells #[.int .i64 3,.int .i64 a] 39));have HO1:Hid ((w2.drew.alloc (.cells #[.int .i64 3,.int .i64 a] 39)).ownsRow w2.drew.heap.size 39 2 (.slice (some ⟨w2.drew.heap.size,0,none⟩) 1 1) 1 (tyC (3,a))):=zH ⟨rfl,.inr ⟨w2.drew.heap.size,1,#[.int .i64 3,.int .i64 a],rfl,zn _,heap_alloc_new _ _,zn _,(by unfold maxLen;omega),rfl,rfl⟩⟩;have HL1:Hid (zz (w2.drew.alloc (.cells #[.int .i64 3,.int .i64 a] 39)) w1.heap.size (some adg) (zD D)):=zH ((by have e:D=[]:=List.eq_nil_of_length_eq_zero (by rw[HDL.out];omega);rw[e];exact zz.nil));refine hK.out _ _ (HK.out _ HB1.out) (fun hHeld=> ?_);clear hK K;try simp only[sA,sB,sC,Act.put,sD,sE,sF]
  refine wpAnyH_ready (rs:=[9]) (by kernel_rfl) (by simp) ?_;refine AllReadyH.cons (o:=_) rfl (fun K hK=> ?_) AllReadyH.nil
  (refine Qy rfl _ _ 23 rfl w2.heap.size 39 i0 (.agg #[.int .i64 0,.int .i64 0]) 2 16 Tryz.underlying23 hi hz0 hz1 hz2 rfl (by decide) _ 1 (tyC (3,a)) rfl HO1.out (some adg) 0 0 _ (zD D) (by rw[vz,HDL.out];omega) rfl HL1.out (jt _) (by unfold maxLen;omega) (by omega) (by simp) ?_;intro v4 w4 hown hgrow;have HX4:=zH (qA HB1.out (jI HO1.out hsz2) HB1.out.size hgrow);have hO:w4.ownsRow w2.heap.size 39 2 v4 (((3,a):Int×Int)::D).length (zD (((3,a):Int×Int)::D)):=(by have e0:y.args.length - 1=0:=(by omega);rw[List.length_cons,HDL.out,e0];exact hown);obtain⟨A4',c4',rfl,hS4,_⟩:=vy hO;have HS4:=zH hS4;clear hown hgrow hO hS4)
  refine hK.out _ _ (HK.out _ HX4.out) (fun hHeld=> ?_);clear hK K;try simp only[sA,sB,sC,Act.put,sD,sE,sF]
  refine wpAnyH_ready (rs:=[15]) (by kernel_rfl) (by simp) ?_;refine AllReadyH.cons (o:=_) rfl (fun K hK=> ?_) AllReadyH.nil;go_simp;go_wp2_with(go_at_call 60;(with_reducible refine(q1t (hx:=⟨some adg,A1,A4,A7,1,k1,k4,k7⟩) HR).mono ?_);rintro e w5 ⟨A5,c5,rfl,hs,hb⟩;have HX5:=zj HX4 hb;have HZ5:=zH hb;have HS5:=zH hs;clear hb hs)
  exact q7i
 ·have hk2:¬k0≤1:=by omega
  refine wp_region_noPanic ?_;refine wp_region_held_drew (S:=(fun w'=>w'.cell? ⟨w.heap.size,3,none⟩=some (.slice (some ad) m.methods.length h.c3)∧w'.cell? ⟨w.heap.size+1+1+1+1+1+1,0,none⟩=some (.int .i64 3)∧w'.cell? ⟨w.heap.size+1+1+1+1+1+1,1,none⟩=some (.int .i64 a)∧w'.cell? (ad.add (k*8))=some (.slice (some adg) y.args.length k0)∧w'.cell? (zc (ad.add (k*8)) 1)=some (.slice A1 y.locals.length k1)∧w'.cell? (zc (ad.add (k*8)) 2)=some (.int .i64 y.ret.1)∧w'.cell? (zc (ad.add (k*8)) 3)=some (.int .i64 y.ret.2)∧w'.cell? (zc (ad.add (k*8)) 4)=some (.slice A4 y.code.length k4)∧w'.cell? (zc (ad.add (k*8)) 5)=some (.int .i64 y.depth)∧w'.cell? (zc (ad.add (k*8)) 6)=some (.int .i64 y.pot)∧w'.cell? (zc (ad.add (k*8)) 7)=some (.slice A7 y.phi.length k7))) (by kernel_rfl) (HK.out _ HX.out) (fun hHeld=> ?_);refine mT 0 (h:=mT 2 (h:=mT 3 (h:=mT 4 (h:=mT 5 (h:=mT 6 (h:=mT 7 (h:=mT 8 (h:= ?_))))))));refine mT 10 (h:=mT 11 (h:=mT 12 (h:=mT 13 (h:=mT 14 (h:= ?_)))));refine wpAnyH_ready (rs:=[1]) (by kernel_rfl) (by simp) ?_;refine AllReadyH.cons (o:=_) rfl (fun K hK=> ?_) AllReadyH.nil;go_simp;have HB1:=zH (HX.out.alloc HX.out.size (.cells #[.int .i64 3,.int .i64 a] 39));have HO1:Hid ((w2.drew.alloc (.cells #[.int .i64 3,.int .i64 a] 39)).ownsRow w2.drew.heap.size 39 2 (.slice (some ⟨w2.drew.heap.size,0,none⟩) 1 1) 1 (tyC (3,a))):=zH ⟨rfl,.inr ⟨w2.drew.heap.size,1,#[.int .i64 3,.int .i64 a],rfl,zn _,heap_alloc_new _ _,zn _,(by unfold maxLen;omega),rfl,rfl⟩⟩;have HL1:Hid (zz (w2.drew.alloc (.cells #[.int .i64 3,.int .i64 a] 39)) w1.heap.size (some ⟨adg.block,adg.off+2,none⟩) (zD D)):=zH ((by have h1:=(HTL.out.drop_ 2).below_to HB1.out (zn _);rw[qjw,HD.out]at h1;have e:(some adg).map (fun x=>Addr.add x 2)=some ⟨adg.block,adg.off+2,none⟩:=(by simp[Addr.add]);rw[e]at h1;exact h1));refine hK.out _ _ (HK.out _ HB1.out) (fun hHeld=> ?_);clear hK K;try simp only[sA,sB,sC,Act.put,sD,sE,sF]
  refine wpAnyH_ready (rs:=[9]) (by kernel_rfl) (by simp) ?_;refine AllReadyH.cons (o:=_) rfl (fun K hK=> ?_) AllReadyH.nil
  (refine Qy rfl _ _ 23 rfl w2.heap.size 39 i0 (.agg #[.int .i64 0,.int .i64 0]) 2 16 Tryz.underlying23 hi hz0 hz1 hz2 rfl (by decide) _ 1 (tyC (3,a)) rfl HO1.out (some ⟨adg.block,adg.off+2,none⟩) (y.args.length - 1) (k0 - 1) _ (zD D) (by rw[vz,HDL.out]) rfl HL1.out (jt _) (by unfold maxLen;omega) (by omega) (by simp) ?_;intro v4 w4 hown hgrow;have HX4:=zH (qA HB1.out (jI HO1.out hsz2) HB1.out.size hgrow);have hO:w4.ownsRow w2.heap.size 39 2 v4 (((3,a):Int×Int)::D).length (zD (((3,a):Int×Int)::D)):=(by rw[List.length_cons,HDL.out,Nat.add_comm];exact hown);obtain⟨A4',c4',rfl,hS4,_⟩:=vy hO;have HS4:=zH hS4;clear hown hgrow hO hS4)
  refine hK.out _ _ (HK.out _ HX4.out) (fun hHeld=> ?_);clear hK K;try simp only[sA,sB,sC,Act.put,sD,sE,sF]
  refine wpAnyH_ready (rs:=[15]) (by kernel_rfl) (by simp) ?_;refine AllReadyH.cons (o:=_) rfl (fun K hK=> ?_) AllReadyH.nil;go_simp;go_wp2_with(go_at_call 60;(with_reducible refine(q1t (hx:=⟨some adg,A1,A4,A7,k0,k1,k4,k7⟩) HR).mono ?_);rintro e w5 ⟨A5,c5,rfl,hs,hb⟩;have HX5:=zj HX4 hb;have HZ5:=zH hb;have HS5:=zH hs;clear hb hs)
  exact q7i
theorem q11{P:Prop}(h:P:=by
 refine wpAnyH_ready (rs:=[9]) (by kernel_rfl) (by simp) ?_;refine AllReadyH.cons (o:=_) rfl (fun K hK=> ?_) AllReadyH.nil;go_simp;(go_at_call 48;(with_reducible refine(qqy HFS HFP HRS).mono ?_);rintro e w6 ⟨rfl,hb⟩;replace HX:=zH (HX.out.trans (hb.mono (Nat.le_of_lt HW.out.lt)));replace HW:=zH (HW.out.keep hb HW.out.lt);have q0:=HW.out.cells 0 _ rfl;have q1:=HW.out.cells 1 _ rfl;have f0:=HW.out.free 0;have f1:=HW.out.free 1;clear hb)
 refine hK.out _ _ (HKS.out _ HX.out) (fun hHeld=> ?_);clear hK K;try simp only[sA,sB,sC,Act.put,sD,sE,sF]
 refine wpAnyH_ready (rs:=[10]) (by kernel_rfl) (by simp) ?_;refine AllReadyH.cons (o:=_) rfl (fun K hK=> ?_) AllReadyH.nil;go_simp;refine hK.out _ _ (HKS.out _ ((HX.out.setCell (p:=⟨w.heap.size+1,0,none⟩) (zn _) _).setCell (p:=⟨w.heap.size+1,1,none⟩) (zn _) _)) (fun hHeld=> ?_);clear hK K;try simp only[sA,sB,sC,Act.put,sD,sE,sF]
 refine wpAnyH_done (by kernel_rfl) ?_ _;refine NoPanic.normal ?_;have HW2:=zH (qlr HW.out (r:=rs));have HX2:=zH ((HX.out.setCell (p:=⟨w.heap.size+1,0,none⟩) (zn _) (.int .i64 (rs.getD 0))).setCell (p:=⟨w.heap.size+1,1,none⟩) (zn _) (.bool rs.isNone));go_wp2_with fail
 go_roundw;case rel=>exact⟨k+1,by omega,by go_num,HPS.out ▸ HW2,HX2⟩
 case measure=>simp[intOf];omega):P:=h
set_option maxHeartbeats 6400000 in
theorem qhw(q:Inq)(L:List Int)(A B:Option Addr)(c d:Nat)(w:World)(hq:zd zo 1 w w.heap.size A c q.1)(hl:zd zo 1 w w.heap.size B d L):
  Calls Tryz.prog 25 #[inqV q A c,.slice B L.length d] w (q0o (ZA q L) w):=by
 show Calls Tryz.prog 25 #[.agg #[.slice A q.1.length c,.int .i64 q.2],.slice B L.length d] w (q0o (ZA q L) w);have HL:=zH hq;have HM:=zH hl;have hc1:=hq.le;have hc2:=hq.cap;have hd1:=hl.le;have hd2:=hl.cap;clear hq hl;by_cases hn:q.1.length=L.length;rotate_left
 ·have hi:((L.length:Int) !=(q.1.length:Int))=true:=by simp;omega
  have HR:Hid (ZA q L=none):=zH (by unfold ZA;rw[if_neg hn]);clear hn;go_enter Tryz.func25,Tryz.ntmps25;go_wp2_with fail
  go_ret2
  unfold q0o;rw[HR.out];exact⟨rfl,(zb w.heap.size w).alloc (zn _) _⟩
 obtain⟨n,hnn⟩:∃n,q.1.length=n:=⟨_,rfl⟩
 have HLN:Hid (q.1.length=n):=zH hnn;have HMN:Hid (L.length=n):=zH (by omega);have HR:Hid (ZA q L=(YH q.1 L).map (fun n=>decide (n≤q.2))):=zH (by unfold ZA;rw[if_pos hn]);obtain⟨R,hR⟩:∃R,ZA q L=R:=⟨_,rfl⟩
 rw[hR]at HR;rw[hR,show L.length=n by omega,hnn];rw[show L.length=n by omega]at hd1;rw[hnn]at hc1;have hi:((n:Int) !=(n:Int))=false:=by simp
 clear hn hnn hR;go_enter Tryz.func25,Tryz.ntmps25;go_upto_region 4 with fail
 have HXA:Hid (Below w.heap.size w ((w.alloc (.cells #[.slice A n c,.int .i64 q.2] 49)).alloc (.cells #[.int .i64 0,.bool false] 97))):=zH (((zb w.heap.size w).alloc (zn _) _).alloc (by simp) _);have HWA:Hid (zf ((w.alloc (.cells #[.slice A n c,.int .i64 q.2] 49)).alloc (.cells #[.int .i64 0,.bool false] 97)) w.heap.size [.slice A n c,.int .i64 q.2] 49):=zH ((zf.new w [.slice A n c,.int .i64 q.2] 49).keep ((zb (w.heap.size+1) _).alloc (by simp) _) (Nat.lt_succ_self _));have HWS:Hid (zf ((w.alloc (.cells #[.slice A n c,.int .i64 q.2] 49)).alloc (.cells #[.int .i64 0,.bool false] 97)) (w.heap.size+1) (numC (ZE q.1 L 0)) 97):=zH (zf.at_ (by simp) [.int .i64 0,.bool false] 97);generalize(w.alloc (.cells #[.slice A n c,.int .i64 q.2] 49)).alloc (.cells #[.int .i64 0,.bool false] 97)=w1 at*
 have a0:=HWA.out.cells 0 _ rfl;go_wp2_with fail
 go_loopw [18] (fun i wr=>∃k:Nat,k≤n∧i= .int .i64 k∧Hid (zf wr (w.heap.size+1) (numC (ZE q.1 L k)) 97)∧Hid (Below (w.heap.size+1) w1 wr)) (fun i _=>n - (intOf i).toNat)
 case atStart=>exact⟨0,Nat.zero_le _,rfl,HWS,zH (zb _ _)⟩
 case round=>
  clear HWS;obtain⟨k,hk,rfl,HW,HX⟩:=hrel;by_cases hkn:k<n
  ·have hkL:k<q.1.length:=by rw[HLN.out];exact hkn
   have hkM:k<L.length:=by rw[HMN.out];exact hkn
   obtain⟨ad,rfl,hab,s0⟩:=HL.out.row.at_ hkL;obtain⟨ad',rfl,hab',t0⟩:=HM.out.row.at_ hkM;replace s0:w.cell? (ad.add k)=some (.int .i64 q.1[k]):=by have:=s0;rw[Nat.mul_one]at this;exact this
   replace t0:w.cell? (ad'.add k)=some (.int .i64 L[k]):=by have:=t0;rw[Nat.mul_one]at this;exact this
   obtain⟨x,hx⟩:∃x,q.1[k]=x:=⟨_,rfl⟩
   obtain⟨y,hy⟩:∃x,L[k]=x:=⟨_,rfl⟩
   have HPS:Hid (ZE q.1 L (k+1)=Qv (ZE q.1 L k) (Zq (ofO x) (ofO y))):=zH (qhh (by rw[←hx];exact List.getElem?_eq_getElem hkL) (by rw[←hy];exact List.getElem?_eq_getElem hkM));have HFS:Hid (vS (ZE q.1 L k)):=zH (qhi _ _ _);rw[hx]at s0;rw[hy]at t0;have HB1:Hid (∀W,Below (w.heap.size+1) w1 W→Below w.heap.size w W):=zH (fun W hW=>HXA.out.trans (hW.mono (by omega)));have HKS:Hid (∀W,Below (w.heap.size+1) w1 W→(fun w'=>w'.cell? (ad'.add k)=some (.int .i64 y)) W):=zH (fun W hW=>((HB1.out W hW).cell (p:=ad'.add k) (by rw[zt];exact hab')).trans t0);have s1:=((HB1.out _ HX.out).cell (p:=ad.add k) (by rw[zt];exact hab)).trans s0;obtain⟨rx,hrx⟩:∃r,ofO x=r:=⟨_,rfl⟩
   obtain⟨ry,hry⟩:∃r,ofO y=r:=⟨_,rfl⟩
   have HRX:=zH hrx;have HRY:=zH hry;have HFX:Hid (vS rx):=zH (hrx ▸ q2f x);have HFY:Hid (vS ry):=zH (hry ▸ q2f y);rw[hrx,hry]at HPS;obtain⟨rp,hrp⟩:∃r,Zq rx ry=r:=⟨_,rfl⟩
   have HRP:=zH hrp;have HFP:Hid (vS rp):=zH (hrp ▸ qam _ _);rw[hrp]at HPS;generalize ZE q.1 L k=s at*
   obtain⟨rs,hrs⟩:∃r,Qv s rp=r:=⟨_,rfl⟩
   have HRS:=zH hrs;rw[hrs]at HPS;clear hx hy t0 s0 hrx hry hrp hrs;go_upto_region 7 with fail
   clear s1;refine wp_region_noPanic ?_;refine wp_region_held_drew (S:=fun w'=>w'.cell? (ad'.add k)=some (.int .i64 y)) (by kernel_rfl) (HKS.out _ HX.out.drew) (fun hHeld=> ?_);replace HX:=zH HX.out.drew;replace HW:=zH (HW.out.drew');generalize wr.drew=wd at*
   have q0:=HW.out.cells 0 _ rfl;have q1:=HW.out.cells 1 _ rfl;have f0:=HW.out.free 0;have f1:=HW.out.free 1;refine mT 1 (h:=mT 3 (h:=mT 4 (h:=mT 5 (h:=mT 6 (h:= ?_)))));refine wpAnyH_ready (rs:=[0,2]) (by kernel_rfl) (by simp) ?_;refine(AllReadyH.cons (o:=_) rfl (fun K hK=> ?_) (AllReadyH.cons (o:=_) rfl (fun K hK=> ?_) AllReadyH.nil))
   ·go_simp;refine hK.out _ _ hHeld (fun hHeld=> ?_);clear hK K;try simp only[sA,sB,sC,Act.put,sD,sE,sF]
    refine wpAnyH_ready (rs:=[2]) (by kernel_rfl) (by simp) ?_;refine AllReadyH.cons (o:=_) rfl (fun K hK=> ?_) AllReadyH.nil;go_simp;(go_at_call 49;(with_reducible refine(JS HRX).mono ?_);rintro e w6 ⟨rfl,hb⟩;replace HX:=zH (HX.out.trans (hb.mono (Nat.le_of_lt HW.out.lt)));replace HW:=zH (HW.out.keep hb HW.out.lt);have q0:=HW.out.cells 0 _ rfl;have q1:=HW.out.cells 1 _ rfl;have f0:=HW.out.free 0;have f1:=HW.out.free 1;clear hb)
    refine hK.out _ _ (HKS.out _ HX.out) (fun hHeld=> ?_);clear hK K;try simp only[sA,sB,sC,Act.put,sD,sE,sF]
    refine wpAnyH_ready (rs:=[7]) (by kernel_rfl) (by simp) ?_;refine AllReadyH.cons (o:=_) rfl (fun K hK=> ?_) AllReadyH.nil;go_simp;(go_at_call 49;(with_reducible refine(JS HRY).mono ?_);rintro e w6 ⟨rfl,hb⟩;replace HX:=zH (HX.out.trans (hb.mono (Nat.le_of_lt HW.out.lt)));replace HW:=zH (HW.out.keep hb HW.out.lt);have q0:=HW.out.cells 0 _ rfl;have q1:=HW.out.cells 1 _ rfl;have f0:=HW.out.free 0;have f1:=HW.out.free 1;clear hb)
    refine hK.out _ _ (HKS.out _ HX.out) (fun hHeld=> ?_);clear hK K;try simp only[sA,sB,sC,Act.put,sD,sE,sF]
    refine wpAnyH_ready (rs:=[8]) (by kernel_rfl) (by simp) ?_;refine AllReadyH.cons (o:=_) rfl (fun K hK=> ?_) AllReadyH.nil;go_simp;(go_at_call 50;(with_reducible refine(q26 HFX HFY HRP).mono ?_);rintro e w6 ⟨rfl,hb⟩;replace HX:=zH (HX.out.trans (hb.mono (Nat.le_of_lt HW.out.lt)));replace HW:=zH (HW.out.keep hb HW.out.lt);have q0:=HW.out.cells 0 _ rfl;have q1:=HW.out.cells 1 _ rfl;have f0:=HW.out.free 0;have f1:=HW.out.free 1;clear hb)
    refine hK.out _ _ (HKS.out _ HX.out) (fun hHeld=> ?_);clear hK K;try simp only[sA,sB,sC,Act.put,sD,sE,sF]
    exact q11
   ·go_simp;(go_at_call 49;(with_reducible refine(JS HRX).mono ?_);rintro e w6 ⟨rfl,hb⟩;replace HX:=zH (HX.out.trans (hb.mono (Nat.le_of_lt HW.out.lt)));replace HW:=zH (HW.out.keep hb HW.out.lt);have q0:=HW.out.cells 0 _ rfl;have q1:=HW.out.cells 1 _ rfl;have f0:=HW.out.free 0;have f1:=HW.out.free 1;clear hb)
    refine hK.out _ _ (HKS.out _ HX.out) (fun hHeld=> ?_);clear hK K;try simp only[sA,sB,sC,Act.put,sD,sE,sF]
    refine wpAnyH_ready (rs:=[0,7]) (by kernel_rfl) (by simp) ?_;refine(AllReadyH.cons (o:=_) rfl (fun K hK=> ?_) (AllReadyH.cons (o:=_) rfl (fun K hK=> ?_) AllReadyH.nil))
    ·go_simp;refine hK.out _ _ hHeld (fun hHeld=> ?_);clear hK K;try simp only[sA,sB,sC,Act.put,sD,sE,sF]
     refine wpAnyH_ready (rs:=[7]) (by kernel_rfl) (by simp) ?_;refine AllReadyH.cons (o:=_) rfl (fun K hK=> ?_) AllReadyH.nil;go_simp;(go_at_call 49;(with_reducible refine(JS HRY).mono ?_);rintro e w6 ⟨rfl,hb⟩;replace HX:=zH (HX.out.trans (hb.mono (Nat.le_of_lt HW.out.lt)));replace HW:=zH (HW.out.keep hb HW.out.lt);have q0:=HW.out.cells 0 _ rfl;have q1:=HW.out.cells 1 _ rfl;have f0:=HW.out.free 0;have f1:=HW.out.free 1;clear hb)
     refine hK.out _ _ (HKS.out _ HX.out) (fun hHeld=> ?_);clear hK K;try simp only[sA,sB,sC,Act.put,sD,sE,sF]
     refine wpAnyH_ready (rs:=[8]) (by kernel_rfl) (by simp) ?_;refine AllReadyH.cons (o:=_) rfl (fun K hK=> ?_) AllReadyH.nil;go_simp;(go_at_call 50;(with_reducible refine(q26 HFX HFY HRP).mono ?_);rintro e w6 ⟨rfl,hb⟩;replace HX:=zH (HX.out.trans (hb.mono (Nat.le_of_lt HW.out.lt)));replace HW:=zH (HW.out.keep hb HW.out.lt);have q0:=HW.out.cells 0 _ rfl;have q1:=HW.out.cells 1 _ rfl;have f0:=HW.out.free 0;have f1:=HW.out.free 1;clear hb)
     refine hK.out _ _ (HKS.out _ HX.out) (fun hHeld=> ?_);clear hK K;try simp only[sA,sB,sC,Act.put,sD,sE,sF]
     exact q11
    ·go_simp;(go_at_call 49;(with_reducible refine(JS HRY).mono ?_);rintro e w6 ⟨rfl,hb⟩;replace HX:=zH (HX.out.trans (hb.mono (Nat.le_of_lt HW.out.lt)));replace HW:=zH (HW.out.keep hb HW.out.lt);have q0:=HW.out.cells 0 _ rfl;have q1:=HW.out.cells 1 _ rfl;have f0:=HW.out.free 0;have f1:=HW.out.free 1;clear hb)
     refine hK.out _ _ (HKS.out _ HX.out) (fun hHeld=> ?_);clear hK K;try simp only[sA,sB,sC,Act.put,sD,sE,sF]
     refine wpAnyH_ready (rs:=[0,8]) (by kernel_rfl) (by simp) ?_;refine(AllReadyH.cons (o:=_) rfl (fun K hK=> ?_) (AllReadyH.cons (o:=_) rfl (fun K hK=> ?_) AllReadyH.nil))
     ·go_simp;refine hK.out _ _ hHeld (fun hHeld=> ?_);clear hK K;try simp only[sA,sB,sC,Act.put,sD,sE,sF]
      refine wpAnyH_ready (rs:=[8]) (by kernel_rfl) (by simp) ?_;refine AllReadyH.cons (o:=_) rfl (fun K hK=> ?_) AllReadyH.nil;go_simp;(go_at_call 50;(with_reducible refine(q26 HFX HFY HRP).mono ?_);rintro e w6 ⟨rfl,hb⟩;replace HX:=zH (HX.out.trans (hb.mono (Nat.le_of_lt HW.out.lt)));replace HW:=zH (HW.out.keep hb HW.out.lt);have q0:=HW.out.cells 0 _ rfl;have q1:=HW.out.cells 1 _ rfl;have f0:=HW.out.free 0;have f1:=HW.out.free 1;clear hb)
      refine hK.out _ _ (HKS.out _ HX.out) (fun hHeld=> ?_);clear hK K;try simp only[sA,sB,sC,Act.put,sD,sE,sF]
      exact q11
     ·go_simp;(go_at_call 50;(with_reducible refine(q26 HFX HFY HRP).mono ?_);rintro e w6 ⟨rfl,hb⟩;replace HX:=zH (HX.out.trans (hb.mono (Nat.le_of_lt HW.out.lt)));replace HW:=zH (HW.out.keep hb HW.out.lt);have q0:=HW.out.cells 0 _ rfl;have q1:=HW.out.cells 1 _ rfl;have f0:=HW.out.free 0;have f1:=HW.out.free 1;clear hb)
      refine hK.out _ _ (HKS.out _ HX.out) (fun hHeld=> ?_);clear hK K;try simp only[sA,sB,sC,Act.put,sD,sE,sF]
      refine wpAnyH_ready (rs:=[0]) (by kernel_rfl) (by simp) ?_;refine AllReadyH.cons (o:=_) rfl (fun K hK=> ?_) AllReadyH.nil;go_simp;refine hK.out _ _ hHeld (fun hHeld=> ?_);clear hK K;try simp only[sA,sB,sC,Act.put,sD,sE,sF]
      exact q11
  ·have hki:¬(k:Int)<(n:Int):=by omega
   have HD:Hid (ZE q.1 L k=YH q.1 L):=zH (qli (by rw[List.length_zip,HLN.out,HMN.out];omega));have hz:=HW.out;rw[HD.out]at hz;have HB:Hid (Below w.heap.size w wr):=zH (HXA.out.trans (HX.out.mono (by omega)));have HWB:Hid (zf wr w.heap.size [.slice A n c,.int .i64 q.2] 49):=zH (HWA.out.keep HX.out (Nat.lt_succ_self _));have a1:=HWB.out.cells 1 _ rfl;cases hd:YH q.1 L with
   |none=>
    rw[hd]at hz HR;have HN:Hid (R=none):=zH HR.out;have z0:=hz.cells 0 _ rfl;have z1:wr.cell? ⟨w.heap.size+1,1,none⟩=some (.bool true):=hz.cells 1 _ rfl;clear hd;go_wp2_with fail
    go_ret2
    unfold q0o;rw[HN.out];exact⟨rfl,HB.out⟩
   |some u=>
    rw[hd]at hz HR;have HN:Hid (R=some (decide (u≤q.2))):=zH HR.out;have z0:wr.cell? ⟨w.heap.size+1,0,none⟩=some (.int .i64 u):=hz.cells 0 _ rfl;have z1:wr.cell? ⟨w.heap.size+1,1,none⟩=some (.bool false):=hz.cells 1 _ rfl;clear hd hz;go_wp2_with fail
    go_ret2
    unfold q0o;rw[HN.out];exact⟨rfl,HB.out⟩
end Go.Proofs.YtdbfllajopcccaaGreat
