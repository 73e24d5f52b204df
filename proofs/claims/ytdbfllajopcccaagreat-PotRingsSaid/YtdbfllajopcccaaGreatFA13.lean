import Derived.Test.YtdbfllajopcccaaGreatFA04
namespace Go.Proofs.YtdbfllajopcccaaGreat
set_option maxRecDepth 100000
set_option linter.unusedVariables false
set_option linter.unusedSimpArgs false
open Go.ChangeShapes Go.WideShapes Go.ChangeAt Go.RowKit
set_option maxHeartbeats 1600000 in
theorem rule_3(m:za)(x:ze)(f:Nat)(a b:Int)(hg:m.methods[f]? =some x)(hal:x.args.length≤1048576)(hll:x.locals.length≤1048576)(ha:a≤9223372036854775807)(h:zl)(w:World)(H:zp w w.heap.size h m):
  Calls Tryz.prog 32 #[zr h m,.int .i64 f,zF 3 a b] w (jR (zE m x 3 a b) (zB m x 3 a b) w):=by
 obtain⟨t,ht⟩:∃t,qB x a=t:=⟨_,rfl⟩
 have HR:=zH ht;have e1:zE m x 3 a b=[]:=by simp[zE,ht]
 have e2:zB m x 3 a b=[t]:=by simp[zB,ht]
 rw[e1,e2];obtain⟨hfm,hgx⟩:=List.getElem?_eq_some_iff.mp hg;clear e1 e2 ht hg;obtain⟨hw,hp⟩:=jY h m 3 a b w;have HW:=zH hw;have HP:=zH hp;have HI:=zH (H.now hw);clear hw hp H;go_enter Tryz.func32,Tryz.ntmps32;go_upto_region 3 with fail
 change Code.wp _ _ _ _ (ql h m 3 a b w);generalize ql h m 3 a b w=w1 at*
 obtain⟨o0,o1,o2⟩:=zJ HP.out.ins;have hz:=HP.out.size;obtain⟨q0,q1,q2,q3,q4,q5,q6⟩:=HP.out.img;have l3:=HI.out.methods.le;have l3c:=HI.out.methods.cap;obtain⟨ad,hx,e0,hab,hmi,hmc⟩:=jB HI.out hfm;rw[e0]at q3;rw[hgx]at hmi hmc;clear e0;have HM:=zH hmi;have HMC:=zH hmc;have HAB:=zH hab;clear hmi hmc hab;obtain⟨c0,c1,c2,c3,c4,c5,c6,c7⟩:=HMC.out;go_wp2_with fail
 have HX:Hid (Below w1.heap.size w1 w1.drew):=zH (zb w1.heap.size w1).drew;have HK:Hid (∀W,Below w1.heap.size w1 W→(fun w'=>w'.cell? ⟨w.heap.size,3,none⟩=some (.slice (some ad) m.methods.length h.c3)∧w'.cell? ⟨w.heap.size+1,1,none⟩=some (.int .i64 a)∧w'.cell? (ad.add (f*8))=some (.slice hx.A0 x.args.length hx.k0)∧w'.cell? (zc (ad.add (f*8)) 1)=some (.slice hx.A1 x.locals.length hx.k1)∧w'.cell? (zc (ad.add (f*8)) 2)=some (.int .i64 x.ret.1)∧w'.cell? (zc (ad.add (f*8)) 3)=some (.int .i64 x.ret.2)∧w'.cell? (zc (ad.add (f*8)) 4)=some (.slice hx.A4 x.code.length hx.k4)∧w'.cell? (zc (ad.add (f*8)) 5)=some (.int .i64 x.depth)∧w'.cell? (zc (ad.add (f*8)) 6)=some (.int .i64 x.pot)∧w'.cell? (zc (ad.add (f*8)) 7)=some (.slice hx.A7 x.phi.length hx.k7)) W):=zH (fun W hW=>by
  obtain⟨d0,d1,d2,d3,d4,d5,d6,d7⟩:=HMC.out.keep hW (by rw[zt];exact HAB.out);exact⟨(hW.cell (p:=⟨w.heap.size,3,none⟩) (by show w.heap.size<_;omega)).trans q3,(hW.cell (p:=⟨w.heap.size+1,1,none⟩) (by show w.heap.size+1<_;omega)).trans o1,d0,d1,d2,d3,d4,d5,d6,d7⟩)
 go_region_held3 (fun w'=>w'.cell? ⟨w.heap.size,3,none⟩=some (.slice (some ad) m.methods.length h.c3)∧w'.cell? ⟨w.heap.size+1,1,none⟩=some (.int .i64 a)∧w'.cell? (ad.add (f*8))=some (.slice hx.A0 x.args.length hx.k0)∧w'.cell? (zc (ad.add (f*8)) 1)=some (.slice hx.A1 x.locals.length hx.k1)∧w'.cell? (zc (ad.add (f*8)) 2)=some (.int .i64 x.ret.1)∧w'.cell? (zc (ad.add (f*8)) 3)=some (.int .i64 x.ret.2)∧w'.cell? (zc (ad.add (f*8)) 4)=some (.slice hx.A4 x.code.length hx.k4)∧w'.cell? (zc (ad.add (f*8)) 5)=some (.int .i64 x.depth)∧w'.cell? (zc (ad.add (f*8)) 6)=some (.int .i64 x.pot)∧w'.cell? (zc (ad.add (f*8)) 7)=some (.slice hx.A7 x.phi.length hx.k7)) (first|exact HK.out _ HX.out|exact HK.out _ HX3.out|exact HK.out _ (HX3.out.alloc HX3.out.size _)) (first|(go_at_call 59;(with_reducible refine(qa5 HM HX HR ha hal hll).mono ?_);rintro e w3 ⟨rfl,hb⟩;have HX3:=zj HX hb;clear hb))
 all_goals
  go_wp2_with fail
  go_ret2
  refine⟨_,_,_,_,rfl,?_,?_,HW.out.trans ((HX3.out.alloc HX3.out.size _).mono HW.out.size)⟩
  ·exact ji
  ·exact vi (by simp) (by go_simp) (by go_simp)
set_option maxHeartbeats 1600000 in
theorem rule_4(m:za)(x:ze)(f:Nat)(a b:Int)(hg:m.methods[f]? =some x)(hal:x.args.length≤1048576)(hll:x.locals.length≤1048576)(ha:a≤9223372036854775807)(h:zl)(w:World)(H:zp w w.heap.size h m):
  Calls Tryz.prog 32 #[zr h m,.int .i64 f,zF 4 a b] w (jR (zE m x 4 a b) (zB m x 4 a b) w):=by
 obtain⟨t,ht⟩:∃t,qB x a=t:=⟨_,rfl⟩
 have HR:=zH ht;have e1:zE m x 4 a b=[t]:=by simp[zE,ht]
 have e2:zB m x 4 a b=[]:=by simp[zB,ht]
 rw[e1,e2];obtain⟨hfm,hgx⟩:=List.getElem?_eq_some_iff.mp hg;clear e1 e2 ht hg;obtain⟨hw,hp⟩:=jY h m 4 a b w;have HW:=zH hw;have HP:=zH hp;have HI:=zH (H.now hw);clear hw hp H;go_enter Tryz.func32,Tryz.ntmps32;go_upto_region 3 with fail
 change Code.wp _ _ _ _ (ql h m 4 a b w);generalize ql h m 4 a b w=w1 at*
 obtain⟨o0,o1,o2⟩:=zJ HP.out.ins;have hz:=HP.out.size;obtain⟨q0,q1,q2,q3,q4,q5,q6⟩:=HP.out.img;have l3:=HI.out.methods.le;have l3c:=HI.out.methods.cap;obtain⟨ad,hx,e0,hab,hmi,hmc⟩:=jB HI.out hfm;rw[e0]at q3;rw[hgx]at hmi hmc;clear e0;have HM:=zH hmi;have HMC:=zH hmc;have HAB:=zH hab;clear hmi hmc hab;obtain⟨c0,c1,c2,c3,c4,c5,c6,c7⟩:=HMC.out;go_wp2_with fail
 have HX:Hid (Below w1.heap.size w1 w1.drew):=zH (zb w1.heap.size w1).drew;have HK:Hid (∀W,Below w1.heap.size w1 W→(fun w'=>w'.cell? ⟨w.heap.size,3,none⟩=some (.slice (some ad) m.methods.length h.c3)∧w'.cell? ⟨w.heap.size+1,1,none⟩=some (.int .i64 a)∧w'.cell? (ad.add (f*8))=some (.slice hx.A0 x.args.length hx.k0)∧w'.cell? (zc (ad.add (f*8)) 1)=some (.slice hx.A1 x.locals.length hx.k1)∧w'.cell? (zc (ad.add (f*8)) 2)=some (.int .i64 x.ret.1)∧w'.cell? (zc (ad.add (f*8)) 3)=some (.int .i64 x.ret.2)∧w'.cell? (zc (ad.add (f*8)) 4)=some (.slice hx.A4 x.code.length hx.k4)∧w'.cell? (zc (ad.add (f*8)) 5)=some (.int .i64 x.depth)∧w'.cell? (zc (ad.add (f*8)) 6)=some (.int .i64 x.pot)∧w'.cell? (zc (ad.add (f*8)) 7)=some (.slice hx.A7 x.phi.length hx.k7)) W):=zH (fun W hW=>by
  obtain⟨d0,d1,d2,d3,d4,d5,d6,d7⟩:=HMC.out.keep hW (by rw[zt];exact HAB.out);exact⟨(hW.cell (p:=⟨w.heap.size,3,none⟩) (by show w.heap.size<_;omega)).trans q3,(hW.cell (p:=⟨w.heap.size+1,1,none⟩) (by show w.heap.size+1<_;omega)).trans o1,d0,d1,d2,d3,d4,d5,d6,d7⟩)
 go_region_held3 (fun w'=>w'.cell? ⟨w.heap.size,3,none⟩=some (.slice (some ad) m.methods.length h.c3)∧w'.cell? ⟨w.heap.size+1,1,none⟩=some (.int .i64 a)∧w'.cell? (ad.add (f*8))=some (.slice hx.A0 x.args.length hx.k0)∧w'.cell? (zc (ad.add (f*8)) 1)=some (.slice hx.A1 x.locals.length hx.k1)∧w'.cell? (zc (ad.add (f*8)) 2)=some (.int .i64 x.ret.1)∧w'.cell? (zc (ad.add (f*8)) 3)=some (.int .i64 x.ret.2)∧w'.cell? (zc (ad.add (f*8)) 4)=some (.slice hx.A4 x.code.length hx.k4)∧w'.cell? (zc (ad.add (f*8)) 5)=some (.int .i64 x.depth)∧w'.cell? (zc (ad.add (f*8)) 6)=some (.int .i64 x.pot)∧w'.cell? (zc (ad.add (f*8)) 7)=some (.slice hx.A7 x.phi.length hx.k7)) (first|exact HK.out _ HX.out|exact HK.out _ HX3.out|exact HK.out _ (HX3.out.alloc HX3.out.size _)) (first|(go_at_call 59;(with_reducible refine(qa5 HM HX HR ha hal hll).mono ?_);rintro e w3 ⟨rfl,hb⟩;have HX3:=zj HX hb;clear hb))
 all_goals
  go_wp2_with fail
  go_ret2
  refine⟨_,_,_,_,rfl,?_,?_,HW.out.trans ((HX3.out.alloc HX3.out.size _).mono HW.out.size)⟩
  ·exact vi (by simp) (by go_simp) (by go_simp)
  ·exact ji
set_option maxHeartbeats 1600000 in
theorem qq4(m:za)(x:ze)(f:Nat)(a b:Int)(hg:m.methods[f]? =some x)(hal:x.args.length≤1048576)(hll:x.locals.length≤1048576)(h:zl)(w:World)(H:zp w w.heap.size h m):
  Calls Tryz.prog 32 #[zr h m,.int .i64 f,zF 33 a b] w (jR (zE m x 33 a b) (zB m x 33 a b) w):=by
 obtain⟨G,hG⟩:∃G,jd x=G:=⟨_,rfl⟩
 have HR:=zH hG;have e1:zE m x 33 a b=G:=by simp[zE,hG]
 have e2:zB m x 33 a b=[]:=by simp[zB]
 rw[e1,e2];obtain⟨hfm,hgx⟩:=List.getElem?_eq_some_iff.mp hg;clear e1 e2 hG hg;obtain⟨hw,hp⟩:=jY h m 33 a b w;have HW:=zH hw;have HP:=zH hp;have HI:=zH (H.now hw);clear hw hp H;go_enter Tryz.func32,Tryz.ntmps32;go_upto_region 3 with fail
 change Code.wp _ _ _ _ (ql h m 33 a b w);generalize ql h m 33 a b w=w1 at*
 obtain⟨o0,o1,o2⟩:=zJ HP.out.ins;have hz:=HP.out.size;obtain⟨q0,q1,q2,q3,q4,q5,q6⟩:=HP.out.img;have l3:=HI.out.methods.le;have l3c:=HI.out.methods.cap;obtain⟨ad,hx,e0,hab,hmi,hmc⟩:=jB HI.out hfm;rw[e0]at q3;rw[hgx]at hmi hmc;clear e0;have HM:=zH hmi;have HMC:=zH hmc;have HAB:=zH hab;clear hmi hmc hab;obtain⟨c0,c1,c2,c3,c4,c5,c6,c7⟩:=HMC.out;have HX:Hid (Below w1.heap.size w1 w1):=zH (zb w1.heap.size w1);go_wp2_with(go_at_call 60;(with_reducible refine(q1t (hx:=hx) HR).mono ?_);rintro e w3 ⟨A5,c5,rfl,hs,hb⟩;have HX3:=zj HX hb;have HS3:=zH hs;clear hb hs)
 go_ret2
 exact⟨_,_,_,_,rfl,HS3.out,ji,HW.out.trans (HX3.out.mono HW.out.size)⟩
set_option maxHeartbeats 1600000 in
theorem qq6(m:za)(x:ze)(f:Nat)(j:Nat)(b:Int)(hj:j<m.methods.length)(h:zl)(w:World)(H:zp w w.heap.size h m):
  Calls Tryz.prog 32 #[zr h m,.int .i64 f,zF 31 (j:Int) b] w (jR (zE m x 31 (j:Int) b) (zB m x 31 (j:Int) b) w):=by
 have e0:zm m (j:Int)=m.methods[j]:=by unfold zm;rw[Int.toNat_natCast,List.getElem?_eq_getElem hj];rfl
 obtain⟨y,hgx⟩:∃y,m.methods[j]=y:=⟨_,rfl⟩
 obtain⟨G,hG⟩:∃G,jd y=G:=⟨_,rfl⟩
 have HR:=zH hG;have e1:zE m x 31 (j:Int) b=y.args:=by simp[zE,e0,hgx]
 have e2:zB m x 31 (j:Int) b=G:=by simp[zB,e0,hgx,hG]
 rw[e1,e2];have hfm:=hj;clear e0 e1 e2 hG;obtain⟨hw,hp⟩:=jY h m 31 (j:Int) b w;have HW:=zH hw;have HP:=zH hp;have HI:=zH (H.now hw);clear hw hp H;go_enter Tryz.func32,Tryz.ntmps32;go_upto_region 3 with fail
 change Code.wp _ _ _ _ (ql h m 31 (j:Int) b w);generalize ql h m 31 (j:Int) b w=w1 at*
 obtain⟨o0,o1,o2⟩:=zJ HP.out.ins;have hz:=HP.out.size;obtain⟨q0,q1,q2,q3,q4,q5,q6⟩:=HP.out.img;have l3:=HI.out.methods.le;have l3c:=HI.out.methods.cap;obtain⟨ad,hx,e0,hab,hmi,hmc⟩:=jB HI.out hfm;rw[e0]at q3;rw[hgx]at hmi hmc;clear e0;have HM:=zH hmi;have HMC:=zH hmc;have HAB:=zH hab;clear hmi hmc hab;obtain⟨c0,c1,c2,c3,c4,c5,c6,c7⟩:=HMC.out;go_wp2_with fail
 have HX:Hid (Below w1.heap.size w1 w1.drew):=zH (zb w1.heap.size w1).drew;have HK:Hid (∀W,Below w1.heap.size w1 W→(fun w'=>w'.cell? ⟨w.heap.size,3,none⟩=some (.slice (some ad) m.methods.length h.c3)∧w'.cell? ⟨w.heap.size+1,1,none⟩=some (.int .i64 (j:Int))∧w'.cell? (ad.add (j*8))=some (.slice hx.A0 y.args.length hx.k0)∧w'.cell? (zc (ad.add (j*8)) 1)=some (.slice hx.A1 y.locals.length hx.k1)∧w'.cell? (zc (ad.add (j*8)) 2)=some (.int .i64 y.ret.1)∧w'.cell? (zc (ad.add (j*8)) 3)=some (.int .i64 y.ret.2)∧w'.cell? (zc (ad.add (j*8)) 4)=some (.slice hx.A4 y.code.length hx.k4)∧w'.cell? (zc (ad.add (j*8)) 5)=some (.int .i64 y.depth)∧w'.cell? (zc (ad.add (j*8)) 6)=some (.int .i64 y.pot)∧w'.cell? (zc (ad.add (j*8)) 7)=some (.slice hx.A7 y.phi.length hx.k7)) W):=zH (fun W hW=>by
  obtain⟨d0,d1,d2,d3,d4,d5,d6,d7⟩:=HMC.out.keep hW (by rw[zt];exact HAB.out);exact⟨(hW.cell (p:=⟨w.heap.size,3,none⟩) (by show w.heap.size<_;omega)).trans q3,(hW.cell (p:=⟨w.heap.size+1,1,none⟩) (by show w.heap.size+1<_;omega)).trans o1,d0,d1,d2,d3,d4,d5,d6,d7⟩)
 go_region_held3 (fun w'=>w'.cell? ⟨w.heap.size,3,none⟩=some (.slice (some ad) m.methods.length h.c3)∧w'.cell? ⟨w.heap.size+1,1,none⟩=some (.int .i64 (j:Int))∧w'.cell? (ad.add (j*8))=some (.slice hx.A0 y.args.length hx.k0)∧w'.cell? (zc (ad.add (j*8)) 1)=some (.slice hx.A1 y.locals.length hx.k1)∧w'.cell? (zc (ad.add (j*8)) 2)=some (.int .i64 y.ret.1)∧w'.cell? (zc (ad.add (j*8)) 3)=some (.int .i64 y.ret.2)∧w'.cell? (zc (ad.add (j*8)) 4)=some (.slice hx.A4 y.code.length hx.k4)∧w'.cell? (zc (ad.add (j*8)) 5)=some (.int .i64 y.depth)∧w'.cell? (zc (ad.add (j*8)) 6)=some (.int .i64 y.pot)∧w'.cell? (zc (ad.add (j*8)) 7)=some (.slice hx.A7 y.phi.length hx.k7)) (first|exact HK.out _ HX.out|exact HK.out _ HX3.out) (first|(go_at_call 60;(with_reducible refine(q1t (hx:=hx) HR).mono ?_);rintro e w3 ⟨A5,c5,rfl,hs,hb⟩;have HX3:=zj HX hb;have HS3:=zH hs;clear hb hs))
 all_goals
  go_wp2_with fail
  go_ret2
  exact⟨_,_,_,_,rfl,(HM.out.now HX3.out).args,HS3.out,HW.out.trans (HX3.out.mono HW.out.size)⟩
end Go.Proofs.YtdbfllajopcccaaGreat
