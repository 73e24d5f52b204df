import Derived.Test.YtcmiljnbmgkdnaaGreatFA05
namespace Go.Proofs.YtcmiljnbmgkdnaaGreat
set_option maxRecDepth 100000
set_option linter.unusedVariables false
set_option linter.unusedSimpArgs false
open Go.ChangeShapes Go.WideShapes Go.ChangeAt Go.RowKit
set_option maxHeartbeats 1600000 in
theorem qmp(m:za)(x:zf)(f:Nat)(op a b:Int)(h7:7≤op)(h17:op≤17)(h:zg)(w:World)(H:zi w w.heap.size h m):
  Calls Tryz.prog 101 #[zk h m,.int .i64 f,zz op a b] w (jB (zB m x op a b) (zy m x op a b) w):=by
 have n1:¬op=1:=by omega
 have n2:¬op=2:=by omega
 have n3:¬op=3:=by omega
 have n4:¬op=4:=by omega
 have n5:¬op=5:=by omega
 have n19:¬op=19:=by omega
 have n20:¬op=20:=by omega
 have n21:¬op=21:=by omega
 have n22:¬op=22:=by omega
 have n23:¬op=23:=by omega
 have n24:¬op=24:=by omega
 have n25:¬op=25:=by omega
 have n26:¬op=26:=by omega
 have n27:¬op=27:=by omega
 have n28:¬op=28:=by omega
 have n29:¬op=29:=by omega
 have n30:¬op=30:=by omega
 have n31:¬op=31:=by omega
 have n32:¬op=32:=by omega
 have n33:¬op=33:=by omega
 have n34:¬op=34:=by omega
 have e1:zB m x op a b=[(1,0),(1,0)]:=by simp[zB, *]
 have e2:zy m x op a b=[(1,0)]:=by simp[zy, *]
 rw[e1,e2];clear e1 e2;obtain⟨hw,hp⟩:=jI h m op a b w;have HW:=zH hw;have HP:=zH hp;have HI:=zH (H.now hw);clear hw hp H;go_enter Tryz.func101,Tryz.ntmps101;go_upto_region 3 with fail
 change Code.wp _ _ _ _ (qc h m op a b w);generalize qc h m op a b w=w1 at*
 obtain⟨o0,o1,o2⟩:=zM HP.out.ins;have hz:=HP.out.size;have t10:=HP.out.t1 0 _ rfl;have t11:=HP.out.t1 1 _ rfl;go_wp2_with fail
 go_region
 all_goals
  go_wp2_with fail
  go_ret2
  refine⟨_,_,_,_,rfl,?_,?_,?_⟩
  ·exact q2s (by simp;omega) (by go_simp) (by go_simp) (by go_simp) (by go_simp)
  ·exact jV (by simp;omega) (by go_simp) (by go_simp)
  ·exact HW.out.trans (by repeat(first|exact zb _ _|refine Below.alloc ?_ (by first|omega|(simp;omega)) _|refine Below.drew ?_))
set_option maxHeartbeats 1600000 in
theorem qto(m:za)(x:zf)(f:Nat)(j:Nat)(b:Int)(hj:j<m.statics.length)(h:zg)(w:World)(H:zi w w.heap.size h m):
  Calls Tryz.prog 101 #[zk h m,.int .i64 f,zz 29 (j:Int) b] w (jB (zB m x 29 (j:Int) b) (zy m x 29 (j:Int) b) w):=by
 have e0:ZF m (j:Int)=m.statics[j]:=by unfold ZF;rw[Xe,Xc hj];rfl
 have e1:zB m x 29 (j:Int) b=[]:=by simp[zB,e0]
 have e2:zy m x 29 (j:Int) b=[m.statics[j]]:=by simp[zy,e0]
 rw[e1,e2];clear e0 e1 e2;obtain⟨hw,hp⟩:=jI h m 29 (j:Int) b w;have HW:=zH hw;have HP:=zH hp;have HI:=zH (H.now hw);clear hw hp H;go_enter Tryz.func101,Tryz.ntmps101;go_upto_region 3 with fail
 change Code.wp _ _ _ _ (qc h m 29 (j:Int) b w);generalize qc h m 29 (j:Int) b w=w1 at*
 obtain⟨o0,o1,o2⟩:=zM HP.out.ins;have hz:=HP.out.size;obtain⟨q0,q1,q2,q3,q4,q5,q6⟩:=HP.out.img;have l1:=HI.out.statics.le;have l2:=HI.out.statics.cap;obtain⟨ad,e0,hab,r0,r1⟩:=HI.out.statics.row.at_ hj;rw[e0]at q1;clear e0;go_wp2_with fail
 go_region
 all_goals
  go_wp2_with fail
  go_ret2
  refine⟨_,_,_,_,rfl,?_,?_,?_⟩
  ·exact ja
  ·exact jV (by simp;omega) (by go_simp) (by go_simp)
  ·exact HW.out.trans (by repeat(first|exact zb _ _|refine Below.alloc ?_ (by first|omega|(simp;omega)) _|refine Below.drew ?_))
set_option maxHeartbeats 1600000 in
theorem qtn(m:za)(x:zf)(f:Nat)(j:Nat)(b:Int)(hj:j<m.statics.length)(h:zg)(w:World)(H:zi w w.heap.size h m):
  Calls Tryz.prog 101 #[zk h m,.int .i64 f,zz 30 (j:Int) b] w (jB (zB m x 30 (j:Int) b) (zy m x 30 (j:Int) b) w):=by
 have e0:ZF m (j:Int)=m.statics[j]:=by unfold ZF;rw[Xe,Xc hj];rfl
 have e1:zB m x 30 (j:Int) b=[m.statics[j]]:=by simp[zB,e0]
 have e2:zy m x 30 (j:Int) b=[]:=by simp[zy,e0]
 rw[e1,e2];clear e0 e1 e2;obtain⟨hw,hp⟩:=jI h m 30 (j:Int) b w;have HW:=zH hw;have HP:=zH hp;have HI:=zH (H.now hw);clear hw hp H;go_enter Tryz.func101,Tryz.ntmps101;go_upto_region 3 with fail
 change Code.wp _ _ _ _ (qc h m 30 (j:Int) b w);generalize qc h m 30 (j:Int) b w=w1 at*
 obtain⟨o0,o1,o2⟩:=zM HP.out.ins;have hz:=HP.out.size;obtain⟨q0,q1,q2,q3,q4,q5,q6⟩:=HP.out.img;have l1:=HI.out.statics.le;have l2:=HI.out.statics.cap;obtain⟨ad,e0,hab,r0,r1⟩:=HI.out.statics.row.at_ hj;rw[e0]at q1;clear e0;go_wp2_with fail
 go_ret2
 refine⟨_,_,_,_,rfl,?_,?_,?_⟩
 ·exact jV (by simp;omega) (by go_simp) (by go_simp)
 ·exact ja
 ·exact HW.out.trans (by repeat(first|exact zb _ _|refine Below.alloc ?_ (by first|omega|(simp;omega)) _|refine Below.drew ?_))
theorem qls(l:List (Int×Int)):(zI l).drop 2=zI (l.drop 1):=by
 cases l with
 |nil=>rfl
 |cons t r=>rfl
theorem qms{m:za}{h:zg}{w0 w:World}{c n:Int}{k:Nat}(HI:Hid (zi w0 w0.heap.size h m))(HX:Hid (Below w0.heap.size w0 w))(HO:Hid (jK m.classes c n=some (k:Int))):
  Calls Tryz.prog 73 #[zk h m,.int .i64 c,.int .i64 n] w fun e w'=>e= .returned (.tuple #[.int .i64 k,.bool true])∧Below w.heap.size w w':=q5d HI HX HO
theorem q79{P:Prop}(h:P:=by
 refine hK.out _ _ (HK.out _ HX5.out) (fun hHeld=> ?_);clear hK K;try simp only[sA,sB,sC,Act.put,sD,sE,sF]
 refine mT 16 (h:=mT 17 (h:= ?_));refine wpAnyH_done (by kernel_rfl) ?_ _;refine NoPanic.normal ?_;go_wp2_with fail
 go_ret2
 exact⟨_,_,_,_,rfl,(HS4.out.below_to zh.keeps HZ5.out (zn _)).keep' zh.keeps HZ5.out.size (fun _ _=>rfl),HS5.out,HW.out.trans (HX5.out.mono HW.out.size)⟩):P:=h
set_option maxHeartbeats 1600000 in
theorem qtl(m:za)(x:zf)(f:Nat)(a b:Int)(k:Nat)(hs:jK m.classes a b=some (k:Int))(y:zf)(hy:m.methods[k]? =some y)(hal:0<y.args.length)(hal2:y.args.length≤1048576)(h:zg)(w:World)(H:zi w w.heap.size h m):
  Calls Tryz.prog 101 #[zk h m,.int .i64 f,zz 32 a b] w (jB (zB m x 32 a b) (zy m x 32 a b) w):=by
 have e00:kB m a b=(k:Int):=by unfold kB;rw[hs];rfl
 have e0:zu m (k:Int)=y:=by unfold zu;rw[Xe,hy];rfl
 obtain⟨G,hG⟩:∃G,qR y=G:=⟨_,rfl⟩
 have HR:=zH hG;obtain⟨D,hD⟩:∃D,y.args.drop 1=D:=⟨_,rfl⟩
 have e1:zB m x 32 a b=(3,a)::D:=by rw[←hD];simp[zB,e0,e00]
 have hDl:D.length=y.args.length - 1:=by rw[←hD,XF]
 have HD:=zH hD;have HDL:=zH hDl;have e2:zy m x 32 a b=G:=by simp[zy,e0,e00,hG]
 rw[e1,e2];have HSL:=zH hs;obtain⟨hfm,hgx⟩:=Xw.mp hy;clear e00 e0 e1 e2 hG hs hy hD hDl;obtain⟨hw,hp⟩:=jI h m 32 a b w;have HW:=zH hw;have HP:=zH hp;have HI:=zH (H.now hw);clear hw hp H;go_enter Tryz.func101,Tryz.ntmps101;go_upto_region 3 with fail
 change Code.wp _ _ _ _ (qc h m 32 a b w);generalize qc h m 32 a b w=w1 at*
 obtain⟨o0,o1,o2⟩:=zM HP.out.ins;have hz:=HP.out.size;obtain⟨q0,q1,q2,q3,q4,q5,q6⟩:=HP.out.img;have l3:=HI.out.methods.le;have l3c:=HI.out.methods.cap;obtain⟨ad,hx,e0,hab,hmi,hmc⟩:=jJ HI.out hfm;have HE0:=zH e0;rw[hgx]at hmi hmc;clear e0;have HM:=zH hmi;have HMC:=zH hmc;have HAB:=zH hab;clear hmi hmc hab;obtain⟨i0,hi,hz0,hz1,hz2⟩:=qQ ZY;obtain⟨adg,eg,hbg,_⟩:=HM.out.args.row.at_ (i:=0) hal;have hcap0:=HM.out.args.le;have hcap1:=HM.out.args.cap;have HTL:=zH (Zn HM.out.args.row);obtain⟨A0,A1,A4,A7,k0,k1,k4,k7⟩:=hx;dsimp only at eg hcap0 hcap1;subst eg;have HX0:Hid (Below w1.heap.size w1 w1):=zH (zb w1.heap.size w1);go_upto_region 46 with(go_at_call 73;(with_reducible refine(qms HI HX0 HSL).mono ?_);rintro e w2 ⟨rfl,hb⟩;have HX2:=zH hb;clear hb)
 have HX:Hid (Below w1.heap.size w1 w2.drew):=zH HX2.out.drew;have HK:Hid (∀W,Below w1.heap.size w1 W→(fun w'=>w'.cell? ⟨w.heap.size,3,none⟩=some (.slice (some ad) m.methods.length h.c3)∧w'.cell? ⟨w.heap.size+1+1+1+1+1+1,0,none⟩=some (.int .i64 3)∧w'.cell? ⟨w.heap.size+1+1+1+1+1+1,1,none⟩=some (.int .i64 a)∧w'.cell? (ad.add (k*8))=some (.slice (some adg) y.args.length k0)∧w'.cell? (zc (ad.add (k*8)) 1)=some (.slice A1 y.locals.length k1)∧w'.cell? (zc (ad.add (k*8)) 2)=some (.int .i64 y.ret.1)∧w'.cell? (zc (ad.add (k*8)) 3)=some (.int .i64 y.ret.2)∧w'.cell? (zc (ad.add (k*8)) 4)=some (.slice A4 y.code.length k4)∧w'.cell? (zc (ad.add (k*8)) 5)=some (.int .i64 y.depth)∧w'.cell? (zc (ad.add (k*8)) 6)=some (.int .i64 y.pot)∧w'.cell? (zc (ad.add (k*8)) 7)=some (.slice A7 y.phi.length k7)) W):=zH (fun W hW=>by
  obtain⟨d0,d1,d2,d3,d4,d5,d6,d7⟩:=HMC.out.keep hW (by rw[zp];exact HAB.out);have dt:=HP.out.t3.keep hW (by omega);exact⟨(hW.cell (p:=⟨w.heap.size,3,none⟩) (by show w.heap.size<_;omega)).trans (by rw[←HE0.out];exact q3),dt 0 _ rfl,dt 1 _ rfl,d0,d1,d2,d3,d4,d5,d6,d7⟩)
 clear q0 q1 q2 q3 q4 q5 q6 o0 o1 o2;have hsz2:=HX2.out.size;have hal1:(1:Int)≤(y.args.length:Int):=by omega
 by_cases hk1:k0=1
 ·subst hk1;refine wp_region_noPanic ?_;refine wp_region_held_drew (S:=(fun w'=>w'.cell? ⟨w.heap.size,3,none⟩=some (.slice (some ad) m.methods.length h.c3)∧w'.cell? ⟨w.heap.size+1+1+1+1+1+1,0,none⟩=some (.int .i64 3)∧w'.cell? ⟨w.heap.size+1+1+1+1+1+1,1,none⟩=some (.int .i64 a)∧w'.cell? (ad.add (k*8))=some (.slice (some adg) y.args.length 1)∧w'.cell? (zc (ad.add (k*8)) 1)=some (.slice A1 y.locals.length k1)∧w'.cell? (zc (ad.add (k*8)) 2)=some (.int .i64 y.ret.1)∧w'.cell? (zc (ad.add (k*8)) 3)=some (.int .i64 y.ret.2)∧w'.cell? (zc (ad.add (k*8)) 4)=some (.slice A4 y.code.length k4)∧w'.cell? (zc (ad.add (k*8)) 5)=some (.int .i64 y.depth)∧w'.cell? (zc (ad.add (k*8)) 6)=some (.int .i64 y.pot)∧w'.cell? (zc (ad.add (k*8)) 7)=some (.slice A7 y.phi.length k7))) (by kernel_rfl) (HK.out _ HX.out) (fun hHeld=> ?_);refine mT 0 (h:=mT 2 (h:=mT 3 (h:=mT 4 (h:=mT 5 (h:=mT 6 (h:=mT 7 (h:=mT 8 (h:= ?_))))))));refine mT 10 (h:=mT 11 (h:=mT 12 (h:=mT 13 (h:=mT 14 (h:= ?_)))));refine wpAnyH_ready (rs:=[1]) (by kernel_rfl) (by simp) ?_;refine AllReadyH.cons (o:=_) rfl (fun K hK=> ?_) AllReadyH.nil;go_simp;have HB1:=zH (HX.out.alloc HX.out.size (.cells #[.int .i64 3,.int .i64 a] 50));have HO1:Hid ((w2.drew.alloc (.cells #[.int .i64 3,.int .i64 a] 50)).ownsRow w2.drew.heap.size 50 2 (.slice (some ⟨w2.drew.heap.size,0,none⟩) 1 1) 1 (tyC (3,a))):=zH ⟨rfl,.inr ⟨w2.drew.heap.size,1,#[.int .i64 3,.int .i64 a],rfl,zn _,XO _ _,zn _,(by unfold maxLen;omega),rfl,rfl⟩⟩;have HL1:Hid (zx (w2.drew.alloc (.cells #[.int .i64 3,.int .i64 a] 50)) w1.heap.size (some adg) (zI D)):=zH ((by have e:D=[]:=XZ (by rw[HDL.out];omega);rw[e];exact zx.nil));refine hK.out _ _ (HK.out _ HB1.out) (fun hHeld=> ?_);clear hK K;try simp only[sA,sB,sC,Act.put,sD,sE,sF]
  refine wpAnyH_ready (rs:=[9]) (by kernel_rfl) (by simp) ?_;refine AllReadyH.cons (o:=_) rfl (fun K hK=> ?_) AllReadyH.nil
  (refine Jm rfl _ _ 23 rfl w2.heap.size 50 i0 (.agg #[.int .i64 0,.int .i64 0]) 2 16 Tryz.underlying23 hi hz0 hz1 hz2 rfl (by decide) _ 1 (tyC (3,a)) rfl HO1.out (some adg) 0 0 _ (zI D) (by rw[kV,HDL.out];omega) rfl HL1.out (kb _) (by unfold maxLen;omega) (by omega) (by simp) ?_;intro v4 w4 hown hgrow;have HX4:=zH (qN HB1.out (jc HO1.out hsz2) HB1.out.size hgrow);have hO:w4.ownsRow w2.heap.size 50 2 v4 (((3,a):Int×Int)::D).length (zI (((3,a):Int×Int)::D)):=(by have e0:y.args.length - 1=0:=(by omega);rw[XL,HDL.out,e0];exact hown);obtain⟨A4',c4',rfl,hS4,_⟩:=kU hO;have HS4:=zH hS4;clear hown hgrow hO hS4)
  refine hK.out _ _ (HK.out _ HX4.out) (fun hHeld=> ?_);clear hK K;try simp only[sA,sB,sC,Act.put,sD,sE,sF]
  refine wpAnyH_ready (rs:=[15]) (by kernel_rfl) (by simp) ?_;refine AllReadyH.cons (o:=_) rfl (fun K hK=> ?_) AllReadyH.nil;go_simp;go_wp2_with(go_at_call 149;(with_reducible refine(q1x (hx:=⟨some adg,A1,A4,A7,1,k1,k4,k7⟩) HR).mono ?_);rintro e w5 ⟨A5,c5,rfl,hs,hb⟩;have HX5:=zl HX4 hb;have HZ5:=zH hb;have HS5:=zH hs;clear hb hs)
  exact q79
 ·have hk2:¬k0≤1:=by omega
  refine wp_region_noPanic ?_;refine wp_region_held_drew (S:=(fun w'=>w'.cell? ⟨w.heap.size,3,none⟩=some (.slice (some ad) m.methods.length h.c3)∧w'.cell? ⟨w.heap.size+1+1+1+1+1+1,0,none⟩=some (.int .i64 3)∧w'.cell? ⟨w.heap.size+1+1+1+1+1+1,1,none⟩=some (.int .i64 a)∧w'.cell? (ad.add (k*8))=some (.slice (some adg) y.args.length k0)∧w'.cell? (zc (ad.add (k*8)) 1)=some (.slice A1 y.locals.length k1)∧w'.cell? (zc (ad.add (k*8)) 2)=some (.int .i64 y.ret.1)∧w'.cell? (zc (ad.add (k*8)) 3)=some (.int .i64 y.ret.2)∧w'.cell? (zc (ad.add (k*8)) 4)=some (.slice A4 y.code.length k4)∧w'.cell? (zc (ad.add (k*8)) 5)=some (.int .i64 y.depth)∧w'.cell? (zc (ad.add (k*8)) 6)=some (.int .i64 y.pot)∧w'.cell? (zc (ad.add (k*8)) 7)=some (.slice A7 y.phi.length k7))) (by kernel_rfl) (HK.out _ HX.out) (fun hHeld=> ?_);refine mT 0 (h:=mT 2 (h:=mT 3 (h:=mT 4 (h:=mT 5 (h:=mT 6 (h:=mT 7 (h:=mT 8 (h:= ?_))))))));refine mT 10 (h:=mT 11 (h:=mT 12 (h:=mT 13 (h:=mT 14 (h:= ?_)))));refine wpAnyH_ready (rs:=[1]) (by kernel_rfl) (by simp) ?_;refine AllReadyH.cons (o:=_) rfl (fun K hK=> ?_) AllReadyH.nil;go_simp;have HB1:=zH (HX.out.alloc HX.out.size (.cells #[.int .i64 3,.int .i64 a] 50));have HO1:Hid ((w2.drew.alloc (.cells #[.int .i64 3,.int .i64 a] 50)).ownsRow w2.drew.heap.size 50 2 (.slice (some ⟨w2.drew.heap.size,0,none⟩) 1 1) 1 (tyC (3,a))):=zH ⟨rfl,.inr ⟨w2.drew.heap.size,1,#[.int .i64 3,.int .i64 a],rfl,zn _,XO _ _,zn _,(by unfold maxLen;omega),rfl,rfl⟩⟩;have HL1:Hid (zx (w2.drew.alloc (.cells #[.int .i64 3,.int .i64 a] 50)) w1.heap.size (some ⟨adg.block,adg.off+2,none⟩) (zI D)):=zH ((by have h1:=(HTL.out.drop_ 2).below_to HB1.out (zn _);rw[qls,HD.out]at h1;have e:(some adg).map (fun x=>Addr.add x 2)=some ⟨adg.block,adg.off+2,none⟩:=(by simp[Addr.add]);rw[e]at h1;exact h1));refine hK.out _ _ (HK.out _ HB1.out) (fun hHeld=> ?_);clear hK K;try simp only[sA,sB,sC,Act.put,sD,sE,sF]
  refine wpAnyH_ready (rs:=[9]) (by kernel_rfl) (by simp) ?_;refine AllReadyH.cons (o:=_) rfl (fun K hK=> ?_) AllReadyH.nil
  (refine Jm rfl _ _ 23 rfl w2.heap.size 50 i0 (.agg #[.int .i64 0,.int .i64 0]) 2 16 Tryz.underlying23 hi hz0 hz1 hz2 rfl (by decide) _ 1 (tyC (3,a)) rfl HO1.out (some ⟨adg.block,adg.off+2,none⟩) (y.args.length - 1) (k0 - 1) _ (zI D) (by rw[kV,HDL.out]) rfl HL1.out (kb _) (by unfold maxLen;omega) (by omega) (by simp) ?_;intro v4 w4 hown hgrow;have HX4:=zH (qN HB1.out (jc HO1.out hsz2) HB1.out.size hgrow);have hO:w4.ownsRow w2.heap.size 50 2 v4 (((3,a):Int×Int)::D).length (zI (((3,a):Int×Int)::D)):=(by rw[XL,HDL.out,Nat.add_comm];exact hown);obtain⟨A4',c4',rfl,hS4,_⟩:=kU hO;have HS4:=zH hS4;clear hown hgrow hO hS4)
  refine hK.out _ _ (HK.out _ HX4.out) (fun hHeld=> ?_);clear hK K;try simp only[sA,sB,sC,Act.put,sD,sE,sF]
  refine wpAnyH_ready (rs:=[15]) (by kernel_rfl) (by simp) ?_;refine AllReadyH.cons (o:=_) rfl (fun K hK=> ?_) AllReadyH.nil;go_simp;go_wp2_with(go_at_call 149;(with_reducible refine(q1x (hx:=⟨some adg,A1,A4,A7,k0,k1,k4,k7⟩) HR).mono ?_);rintro e w5 ⟨A5,c5,rfl,hs,hb⟩;have HX5:=zl HX4 hb;have HZ5:=zH hb;have HS5:=zH hs;clear hb hs)
  exact q79
theorem qqb{α:Type}{f:Nat→α}{a:Nat}{b:α}(h:f a=b):qb f a b=f:=funext fun x=>by
 unfold qb;split
 ·rename_i e;rw[e,h]
 ·rfl
theorem qnh{P:List (List Nat)}(h:∀c ∈P,c≠ []):P.length≤P.flatten.length:=by
 induction P with
 |nil=>exact zn _
 |cons c P ih=>
  have h1:=ih (fun d hd=>h d (XI _ hd));have h2:0<c.length:=List.length_pos_iff.mpr (h c (XE ..));rw[List.flatten_cons,Xt,XL];omega
theorem zN.parts_le{EL:List (List Int)}{n:Nat}{S:Wk}(h:zN EL n S):S.parts.length≤n:=Xg (qnh (fun c hc=>(h.srt c hc).1)) h.lens.2.2
theorem zN.split{EL:List (List Int)}{n:Nat}{S:Wk}(h:zN EL n S){v:Nat}(hv:v ∈S.opn):∃O X,S.opn=O++v::X∧v ∉X∧∀x ∈v::X,x<n:=by
 obtain⟨O,X,e⟩:=List.append_of_mem hv;refine⟨O,X,e,fun q=> ?_,fun x hx=>h.olt x (by rw[e];exact List.mem_append_right _ hx)⟩;have hp:=h.oinc;rw[e,Wp,List.pairwise_cons]at hp;have:=hp.2.1.1 v q;omega
theorem zN.left{EL:List (List Int)}{n:Nat}{S:Wk}(h:zN EL n S){W:List Nat}{v p:Nat}(hw:S.way=W++[p]++[v])(hg:S.gone v=(eds EL v).length)(hb:S.back v<S.place v):
  zN EL n {S with way:=W++[p],back:=qb S.back p (min (S.back p) (S.back v))}:=by
 have hpw:p ∈S.way:=by rw[hw];simp
 have hvw:v ∈S.way:=by rw[hw];simp
 have hpv:S.place p<S.place v:=by
  have hp:=h.winc;rw[hw,Wp]at hp;exact hp.2.2 p (by simp) v (by simp)
 obtain⟨a1,a2,u,hu,a3,a4⟩:=h.bin p (h.wsub p hpw);obtain⟨b1,b2,x,hx,b3,b4⟩:=h.bin v (h.wsub v hvw);have h1:zN EL n (S.lower p (min (S.back p) (S.back v))):=by
  refine h.lower hpw (by omega) (by omega) ?_;by_cases hm:S.back p≤S.back v
  ·rw[show min (S.back p) (S.back v)=S.back p by omega];exact⟨u,hu,a3,a4⟩
  ·rw[show min (S.back p) (S.back v)=S.back v by omega];refine⟨x,hx,b3,?_⟩;have hpx:p=v∨qv EL n p v:=h.tree p hpw v (h.wsub v hvw) (Xk hpv);rcases hpx with rfl|hpx
   ·omega
   ·rcases b4 with rfl|b4
    ·exact .inr hpx
    ·exact .inr (hpx.join (h.olt v (h.wsub v hvw)) b4)
 have hvp:v≠p:=fun e=>by subst e;omega
 have hlast:∀q ∈W,S.place q<S.place p:=fun q hq=>by
  have hp:=h.winc;rw[hw,X8,Wp]at hp;exact hp.2.2 q hq p (by simp)
 have hbv:(S.lower p (min (S.back p) (S.back v))).back v=S.back v:=Zq _ _ hvp;have h2:=h1.pop (W:=W++[p]) (v:=v) hw hg (by rw[hbv];exact hb) (fun q hq hm=>by
  rw[hbv];rcases Xs.mp hq with hq|hq
  ·have h3:=hm p (by simp);have h3:S.place p≤S.place q:=h3;have:=hlast q hq;omega
  ·rw[XG]at hq;subst hq;have e:(S.lower q (min (S.back q) (S.back v))).back q=min (S.back q) (S.back v):=kx _ _ _;rw[e];omega)
 have e:(S.lower p (min (S.back p) (S.back v))).pop={S with way:=W++[p],back:=qb S.back p (min (S.back p) (S.back v))}:=by
  unfold Wk.pop Wk.lower;dsimp only;rw[hw,List.dropLast_concat]
 rw[e]at h2;exact h2
def qt4(B g:Nat)(EL:List (List Int))(n:Nat)(S:Wk)(W:List Nat)(w:World)(e:Ending)(w':World):Prop:=
 e= .returned (.tuple #[])∧(∃S' a' ρ',zE w' B g EL n S' a' ρ'∧zN EL n S'∧S'.way=W∧S'.place=S.place)∧Below B w w'
set_option maxHeartbeats 3200000 in
theorem qhl(B g n v:Nat)(EL:List (List Int))(S:Wk)(W:List Nat)(a:Jg)(ρ:Nat→Nat)(w:World)(h:zE w B g EL n S a ρ)(hT:zN EL n S)(hw:S.way=W++[v])(hg:S.gone v=(eds EL v).length):
  Calls Tryz.prog 154 #[.pointer (some ⟨g,0,none⟩),.int .i64 (v:Int)] w (qt4 B g EL n S W w):=by
 obtain⟨met,place,back,gone,way,opn,parts⟩:=S;obtain⟨gp,gb,gg,E,ce,Ay,cy,Ao,co,Ap,cp,vs⟩:=a;dsimp only at hw hg;subst hw;have hn1:=h.n1;have hge:=h.g_ge;obtain⟨hg0,hg1,hg2,hg3⟩:=hge;have hlen:(W++[v]).length=W.length+1:=by simp
 have hvw:v ∈W++[v]:=by simp
 have hv:v<n:=hT.olt v (hT.wsub v hvw);have hwl:=hT.lens.1;dsimp only at hwl hg1 hg2 hg3;rw[hlen]at hwl;obtain⟨gy,rfl,hc1,hc2,hgy,_⟩:=YH h.way (by dsimp only;rw[hlen];omega);dsimp only at hc1;rw[hlen]at hc1;have q5:=h.blk.cells 5 _ rfl;have f5:=h.blk.free 5;dsimp only at q5;rw[hlen]at q5;have HI:=zH h;have HW1:=zH (h.way_cut (O:=W) (X:=[v]) rfl);have X1:=zH (h.cell_below (zb B w) 5 (.slice (some ⟨gy,0,none⟩) W.length cy));dsimp only at HW1;have HT:=zH hT;have HG:=zH hg;obtain⟨k,hk⟩:∃k,W.length=k:=⟨_,rfl⟩
 rw[hk]at q5 hwl hc1 HW1 X1;have HK:=zH hk;clear h hT hg hk hlen hvw;go_enter Tryz.func154,Tryz.ntmps154;go_wp2_with fail
 go_region
 have HW2:=zH (HW1.out.keep (zb _ _).drew);have X2:=zH X1.out.drew;clear q5 f5 HW1 X1;generalize(w.setCell ⟨g,5,none⟩ (.slice (some ⟨gy,0,none⟩) k cy)).drew=w2 at*
 have q2:=HW2.out.blk.cells 2 _ rfl;have q3:=HW2.out.blk.cells 3 _ rfl;obtain⟨c1,_⟩:=HW2.out.p_at hv;obtain⟨c2,_⟩:=HW2.out.b_at hv;dsimp only at q2 q3 c1 c2;by_cases hbp:back v=(place v:Int)
 ·have hcmp:(back v==(place v:Int))=true:=by simpa using hbp
  go_wp2_with fail
  go_region
  have HW3:=zH (HW2.out.keep (zb _ _).drew);have X3:=zH X2.out.drew;generalize w2.drew=w3 at*
  clear q2 q3 c1 c2 HW2 X2;obtain⟨O,Y,ho,hY,hlt⟩:=HT.out.split (HT.out.wsub v (by simp));have HOE:=zH ho;have hcl:=qhq B g n v EL _ O Y _ _ w3 HW3.out ho hY hlt HT.out.lens.2.1 HT.out.parts_le;have HCL:=zH hcl;clear hcl ho hY hlt;go_upto_region 3 with(go_at_call 191;go_loud (refine HCL.out.mono ?_);rintro e w4 ⟨rfl,⟨c,a4,ρ4,hp,hpw,h4⟩,hb⟩;have HP:=zH hp;have HPW:=zH hpw;have HW4:=zH h4;have X4:=zH (X3.out.trans hb);clear hp hpw h4 hb)
  clear HCL HW3 X3;have HT4:Hid (zN EL n ⟨met,place,fun x=>if x ∈v::Y then jX else back x,gone,W,O,parts++[c]⟩):=zH (by
   have:=HT.out.close (W:=W) (O:=O) (X:=Y) (c:=c) (v:=v) rfl HOE.out HG.out hbp HP.out HPW.out;unfold Wk.close at this;dsimp only at this;rw[List.dropLast_concat]at this;exact this)
  obtain⟨gp4,gb4,gg4,E4,ce4,Ay4,cy4,Ao4,co4,Ap4,cp4,vs4⟩:=a4;try dsimp only at HW4
  have q5:=HW4.out.blk.cells 5 _ rfl;have q3:=HW4.out.blk.cells 3 _ rfl;dsimp only at q5 q3;rw[HK.out]at q5;rcases List.eq_nil_or_concat W with hW|⟨W',p,hW⟩
  ·have hk0:k=0:=by rw[←HK.out,hW];rfl
   have HWE:=zH hW;subst hk0;clear hW;go_wp2_with fail
   go_end0
   exact⟨rfl,⟨_,_,_,HW4.out,HT4.out,rfl,rfl⟩,X4.out⟩
  ·have hk0:k=W'.length+1:=by rw[←HK.out,hW];simp
   rw[List.concat_eq_append]at hW;have HWE:=zH hW;have hpw:p ∈W:=by rw[hW];simp
   have hpn:p<n:=HT4.out.olt p (HT4.out.wsub p hpw);obtain⟨k',hk'⟩:∃z,W'.length=z:=⟨_,rfl⟩
   rw[hk']at hk0;obtain⟨gy4,hy4,_,_,_,_⟩:=YH HW4.out.way (by show 0<W.length;rw[HK.out];omega);dsimp only at hy4;have hrow:w4.ownsRow B 3 1 (.slice Ay4 W.length cy4) W.length (zP W):=HW4.out.way;subst hy4;have cw:=YI hrow (Yc (l:=W) (j:=k') (v:=p) (by rw[hW,←hk'];simp));obtain⟨cp',fp'⟩:=HW4.out.b_at hpn;obtain⟨cv,_⟩:=HW4.out.b_at hv;dsimp only at cp' fp' cv;have hpY:p ∉v::Y:=fun q=>(HT4.out.clt p (by rw[List.flatten_append];exact List.mem_append_right _ (by simpa using HP.out.mem_iff.mpr q))).2.2.1 (HT4.out.wsub p hpw);rw[Xa hpY]at cp';rw[Xb (XE ..)]at cv;have hpb:=(HT4.out.bin p (HT4.out.wsub p hpw)).2.1;have hpp:=(HT4.out.opos p (HT4.out.wsub p hpw)).2;have hmet:=HT.out.met_le;dsimp only at hpb hpp hmet;rw[Xa hpY]at hpb;have hbt:back p≤9223372036854775807:=by omega
   have HPY:=zH hpY;subst hk0;clear hW hpw hk' hrow hpb hpp hmet hpY;go_upto_region 4 with fail
   go_region
   go_upto_region 5 with fail
   go_region
   have HW5:=(HW4.out.back (v:=p) (k:=min (back p) jX)).keep (zb _ _).drew.drew;have e:qb (fun x=>if x ∈v::Y then jX else back x) p (min (back p) jX)=fun x=>if x ∈v::Y then jX else back x:=qqb (by rw[Xa HPY.out];show back p=min (back p) 9223372036854775807;omega)
   dsimp only at HW5;rw[e]at HW5;go_end0
   exact⟨rfl,⟨_,_,_,HW5,HT4.out,rfl,rfl⟩,(X4.out.setCell (p:=⟨gb4,p,none⟩) HW4.out.g_ge.2.2.1 _).drew.drew⟩
 ·have hcmp:(back v==(place v:Int))=false:=by simpa using hbp
  have hbl:back v<(place v:Int):=by
   have h1:=(HT.out.bin v (HT.out.wsub v (by simp))).2.1;dsimp only at h1;omega
  have q5:=HW2.out.blk.cells 5 _ rfl;dsimp only at q5;rw[HK.out]at q5;rcases List.eq_nil_or_concat W with hW|⟨W',p,hW⟩
  ·have hk0:k=0:=by rw[←HK.out,hW];rfl
   have HTP:Hid (zN EL n ⟨met,place,back,gone,W,opn,parts⟩):=zH (by
    have:=HT.out.pop (W:=W) (v:=v) rfl HG.out hbl (fun p hp=>by rw[hW]at hp;cases hp);unfold Wk.pop at this;dsimp only at this;rw[List.dropLast_concat]at this;exact this)
   subst hk0;clear hW;go_wp2_with fail
   go_region
   go_wp2_with fail
   go_end0
   exact⟨rfl,⟨_,_,_,HW2.out.keep (zb _ _).drew,HTP.out,rfl,rfl⟩,X2.out.drew⟩
  ·have hk0:k=W'.length+1:=by rw[←HK.out,hW];simp
   rw[List.concat_eq_append]at hW;have hpw:p ∈W++[v]:=by rw[hW];simp
   have hpn:p<n:=HT.out.olt p (HT.out.wsub p hpw);obtain⟨k',hk'⟩:∃z,W'.length=z:=⟨_,rfl⟩
   rw[hk']at hk0;have hrow:w2.ownsRow B 3 1 (.slice (some ⟨gy,0,none⟩) W.length cy) W.length (zP W):=HW2.out.way;have cw:=YI hrow (Yc (l:=W) (j:=k') (v:=p) (by rw[hW,←hk'];simp));obtain⟨cp',fp'⟩:=HW2.out.b_at hpn;dsimp only at cp' fp';have HTL:Hid (zN EL n ⟨met,place,qb back p (min (back p) (back v)),gone,W,opn,parts⟩):=zH (by
    have:=HT.out.left (W:=W') (v:=v) (p:=p) (by rw[hW]) HG.out hbl;dsimp only at this;rw[←hW]at this;exact this)
   subst hk0;clear hW hpw hk' hrow;go_wp2_with fail
   go_region
   go_upto_region 4 with fail
   go_region
   go_upto_region 5 with fail
   go_region
   have HW5:=(HW2.out.back (v:=p) (k:=min (back p) (back v))).keep (zb _ _).drew.drew.drew;go_end0
   exact⟨rfl,⟨_,_,_,HW5,HTL.out,rfl,rfl⟩,(X2.out.setCell (p:=⟨gb,p,none⟩) hg2 _).drew.drew.drew⟩
end Go.Proofs.YtcmiljnbmgkdnaaGreat
