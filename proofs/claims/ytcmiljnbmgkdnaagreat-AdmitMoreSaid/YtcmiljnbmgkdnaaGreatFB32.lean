import Derived.Test.YtcmiljnbmgkdnaaGreatFB30
import Derived.Test.YtcmiljnbmgkdnaaGreatFB24
namespace Go.Proofs.YtcmiljnbmgkdnaaGreat
set_option maxRecDepth 100000
set_option linter.unusedVariables false
set_option linter.unusedSimpArgs false
open Go.ChangeShapes Go.WideShapes Go.ChangeAt Go.RowKit
def vX(m:za)(i:Nat)(x:zJ):Bool:=decide ((Zl m x).length≤x.slots.length)&& kt m (i:Int) (Zl m x) 0 x.slots
theorem qiv{m:za}{c:Int}{ab:List Int}{k n:Nat}(h:ZL m c (n:Int)=false):kZ m c ab k (n:Int)=false:=by
 unfold ZL at h;unfold kZ;cases hf:m.methods[(n:Int).toNat]? with
 |none=>rfl
 |some f=>
  rw[hf]at h;dsimp only at h⊢
  cases ha:f.args with
  |nil=>rfl
  |cons t r=>rw[ha]at h;dsimp only at h⊢;rw[h];rfl
theorem q95{m:za}{c:Int}{n:Nat}(h:ZL m c (n:Int)=true):∃f t r,m.methods[n]? =some f∧f.args=t::r∧zA (zz m.classes) 3 c t.1 t.2=true:=by
 unfold ZL at h;rw[Xi]at h;cases hf:m.methods[n]? with
 |none=>rw[hf]at h;simp at h
 |some f=>
  rw[hf]at h;dsimp only at h;cases ha:f.args with
  |nil=>rw[ha]at h;simp at h
  |cons t r=>rw[ha]at h;exact⟨f,t,r,rfl,ha,h⟩
theorem qat{m:za}{c:Int}{n:Nat}{h:zi}{w0 w:World}{r:Bool}(HI:Hid (zm w0 w0.heap.size h m))(HX:Hid (Below w0.heap.size w0 w))(HN:Hid (m.classes.length≤1000))(HR:Hid (ZL m c (n:Int)=r)):
  Calls Tryz.prog 130 #[zp h m,.int .i64 (n:Int),.int .i64 c] w fun e w'=>e= .returned (.bool r)∧Below w.heap.size w w':=by
 have H:=qip m c n h w (HI.out.now HX.out) HN.out;rw[HR.out]at H;exact H
theorem qb3{x y:zh}{hx hy:qx}{w0 w:World}{r:Bool}(HM:Hid (jt w0 w0.heap.size hx x))(HM':Hid (jt w0 w0.heap.size hy y))(HX:Hid (Below w0.heap.size w0 w))(HP:Hid (0<x.args.length))(HP':Hid (0<y.args.length))(HR:Hid (QG x y=r)):
  Calls Tryz.prog 131 #[kn hx x,kn hy y] w fun e w'=>e= .returned (.bool r)∧Below w.heap.size w w':=by
 have H:=qj5 x y hx hy w (HM.out.now HX.out) (HM'.out.now HX.out) HP.out HP'.out;rw[HR.out]at H;exact H
theorem qnp{m:za}{i:Nat}{x:zJ}{h:zi}{w0 w:World}{ad:Addr}{AB:List Int}(HC:Hid (ze qj 3 w0 w0.heap.size h.A0 h.c0 m.classes))(HX:Hid (Below w0.heap.size w0 w))(HG:Hid (m.classes[i]? =some x))(HS:Hid (x.sup<m.classes.length))(HE:Hid (h.A0=some ad))(HA:Hid (Zl m x=AB)):
  Calls Tryz.prog 129 #[.slice (some ad) m.classes.length h.c0,.int .i64 (i:Int)] w (qe6 w0 w AB):=by
 have H:=qj6 m i x h w0 w HC.out HX.out HG.out HS.out;rw[HE.out,HA.out]at H;exact H
set_option maxHeartbeats 6400000 in
theorem qir(m:za)(x:zJ)(i:Nat)(h:zi)(w:World)(H:zm w w.heap.size h m)(hx:m.classes[i]? =some x)(hs0:∀y ∈m.classes,∀s ∈y.slots,0≤s)(hsu:x.sup<m.classes.length)(hn:m.classes.length≤1000)
  (hq:∀q ∈Zl m x,0≤q∧∃g,m.methods[q.toNat]? =some g∧0<g.args.length):
  Calls Tryz.prog 86 #[zp h m,.int .i64 (i:Int)] w fun e w'=>e= .returned (.bool (vX m i x))∧Below w.heap.size w w':=by
 obtain⟨hil,hxe⟩:=XM.mp hx;have HW:=zH (vr (w:=w) (h:=h) (m:=m));have HBX:=zH (ql w h m);have HZ:Hid (w.heap.size<(w.alloc (zg h m)).heap.size):=zH (by simp);have HI:=zH (H.now HW.out);have HCL:=zH (H.now HW.out).classes;have HN:=zH hn;have HGX:=zH hx;have HXM:=zH (Xs hx);have HS0:=zH hs0;have HPQ:=zH hq;have HSU:=zH hsu;have l0:=H.classes.le;have l0c:=H.classes.cap;have l3:=H.methods.le;have l3c:=H.methods.cap;obtain⟨AB,hAB⟩:∃AB,Zl m x=AB:=⟨_,rfl⟩
 have HAB:=zH hAB;clear H hn hx hxe hs0 hq hsu hAB;go_enter Tryz.func86,Tryz.ntmps86;go_upto_region 1 with fail
 generalize w.alloc (zg h m)=w1 at*
 obtain⟨q0,q1,q2,q3,q4,q5,q6⟩:=HBX.out;obtain⟨adc,e0,habc,hcl⟩:=HI.out.classes.row i x HGX.out;obtain⟨_,_,⟨A2,k2,s2,hs2⟩,_⟩:=hcl;have HE0:=zH e0;have HSs:=zH hs2;have l5:=hs2.le;have l5c:=hs2.cap;have HS2:Hid (∀W,Below w1.heap.size w1 W→W.cell? (zf (adc.add (i*3)) 2)=some (.slice A2 x.slots.length k2)):=zH (fun W hW=>(hW.cell (p:=zf (adc.add (i*3)) 2) (by show(adc.add _).block<_;rw[zu];exact habc)).trans s2);rw[e0]at q0;clear e0 hs2 habc;have hXd:Below w1.heap.size w1 w1.drew:=(zb _ _).drew;have HXd:=zH hXd;clear hXd;go_region_held3 (fun w'=>w'.cell? ⟨w.heap.size,0,none⟩=some (.slice (some adc) m.classes.length h.c0)∧w'.cell? (zf (adc.add (i*3)) 2)=some (.slice A2 x.slots.length k2)) (first|exact⟨q0,s2⟩) (first|(go_at_call 129;(with_reducible refine(qnp HCL HXd HGX HSU HE0 HAB).mono ?_);rintro e w3 ⟨A6,k6,rfl,hAB,rfl⟩))
 have HSA:=zH hAB;have l6:=hAB.le;have l6c:=hAB.cap;clear hAB;have HX:=HXd;generalize w1.drew=w2 at*
 by_cases c3:AB.length≤x.slots.length;rotate_left
 ·have ct3:(x.slots.length:Int)<(AB.length:Int):=by omega
  have E2:=zH (show vX m i x=false by unfold vX;rw[HAB.out,Xg c3];rfl);go_wp2_with fail
  go_ret;exact⟨by rw[E2.out];rfl,HW.out.trans (HX.out.mono (Xh HZ.out))⟩
 have ct3:¬(x.slots.length:Int)<(AB.length:Int):=by omega
 have C3:=zH c3;clear c3;go_wp2_with fail
 go_loopw [26] (fun i' wr=>∃k:Nat,k≤x.slots.length∧i'= .int .i64 k∧Hid (kt m (i:Int) AB 0 x.slots=kt m (i:Int) AB k (x.slots.drop k))∧Hid (Below w1.heap.size w1 wr)) (fun i' _=>x.slots.length - (intOf i').toNat)
 case atStart=>exact⟨0,by omega,rfl,zH rfl,HX⟩
 case round=>
  clear HX q0 q1 q2 q3 q4 q5 q6 s2 HXd;obtain⟨k,hk,rfl,HK,HX⟩:=hrel;obtain⟨q0,q1,q2,q3,q4,q5,q6⟩:=HBX.out.keep HX.out HZ.out;by_cases hlt:k<x.slots.length
  ·obtain⟨ads,e2,habs,hcs⟩:=HSs.out.row.at_ hlt;have HKK:=zH (HK.out.trans (qiu hlt));have hs0:=HS0.out x HXM.out x.slots[k] (Xf hlt);rw[Xz]at hcs;rw[e2];have ks:=(HX.out.cell (p:=ads.add k) (by rw[zu];exact habs)).trans hcs;generalize x.slots[k]=s at*
   obtain⟨n,rfl⟩:=Xq hs0;clear e2 hcs habs hs0;obtain⟨d4,hd4⟩:∃d,ZL m (i:Int) (n:Int)=d:=⟨_,rfl⟩
   have D4:=zH hd4;clear hd4;cases d4
   ·have SL:=zH (qiv (ab:=AB) (k:=k) D4.out);have E2:=zH (show vX m i x=false by unfold vX;rw[HAB.out,HKK.out,SL.out];simp);go_wp2_with(go_at_call 130;(with_reducible refine(qat HI HX HN D4).mono ?_);rintro e w3 ⟨rfl,hb⟩;have HX:=zj HX hb;obtain⟨q0,q1,q2,q3,q4,q5,q6⟩:=HBX.out.keep HX.out HZ.out;clear hb)
    go_ret;exact⟨by rw[E2.out];rfl,HW.out.trans (HX.out.mono (Xh HZ.out))⟩
   ·go_upto_region 9 with(go_at_call 130;(with_reducible refine(qat HI HX HN D4).mono ?_);rintro e w3 ⟨rfl,hb⟩;have HX:=zj HX hb;obtain⟨q0,q1,q2,q3,q4,q5,q6⟩:=HBX.out.keep HX.out HZ.out;clear hb)
    by_cases hka:k<AB.length
    ·obtain⟨f,tf,rf,hfm,hfa,hsub⟩:=q95 D4.out;obtain⟨hnl,hfe⟩:=XM.mp hfm;obtain⟨adm,e3,habm,hcm⟩:=HI.out.methods.row n f hfm;have HME:=zH hfm;have HFA:=zH hfa;have HSUB:=zH hsub;have hfp:0<f.args.length:=by rw[hfa];simp
     obtain⟨hq0,gm,hgm,hgp⟩:=HPQ.out AB[k] (by rw[HAB.out];exact Xf hka);have HQK:=zH (Xc hka);obtain⟨adq,rfl,habq,hcq⟩:=HSA.out.row.at_ hka;rw[Xz]at hcq;generalize AB[k]=qq at*
     obtain⟨q,rfl⟩:=Xq hq0;rw[Xi]at hgm;obtain⟨hql,_⟩:=XM.mp hgm;obtain⟨adm2,e6,habg,hcg⟩:=HI.out.methods.row q gm hgm;obtain rfl:adm=adm2:=by rw[e3]at e6;injection e6
     have HGE:=zH hgm;have SL0:Hid (kZ m (i:Int) AB k (n:Int)=QG f gm):=zH (by
      rw[qiw (c:=(i:Int)) (ab:=AB) (k:=k) HME.out HFA.out HSUB.out HQK.out HGE.out];unfold QG;rw[HFA.out];rfl)
     have HE3:=zH e3;have HBQ:Hid ((adq.add k).block<w1.heap.size):=zH (by rw[zu];exact habq);have HCQ:Hid (w1.cell? (adq.add k)=some (.int .i64 (q:Int))):=zH hcq;have HPm:Hid ((adm.add (n*8)).block<w1.heap.size):=zH (by rw[zu];exact habm);have HPg:Hid ((adm.add (q*8)).block<w1.heap.size):=zH (by rw[zu];exact habg);rw[e3]at q3;clear e3 e6 hfm hgm hcq habq habm habg hfe hsub hfa HFA HSUB HME HGE HQK hq0;obtain⟨fa,fl,⟨fr0,fr1⟩,fc,fd,fp,fh⟩:=f;obtain⟨⟨A0f,j0,f0,hf0⟩,⟨A1f,j1,f1,hf1⟩,f2,f3,⟨A4f,j4,f4,hf4⟩,f5,f6,⟨A7f,j7,f7,hf7⟩⟩:=hcm;obtain⟨ga,gl,⟨gr0,gr1⟩,gc,gd,gp,gh⟩:=gm;obtain⟨⟨A0g,i0,g0,hg0⟩,⟨A1g,i1,g1,hg1⟩,g2,g3,⟨A4g,i4,g4,hg4⟩,g5,g6,⟨A7g,i7,g7,hg7⟩⟩:=hcg;have HMF:Hid (jt w1 w1.heap.size ⟨A0f,A1f,A4f,A7f,j0,j1,j4,j7⟩ ⟨fa,fl,(fr0,fr1),fc,fd,fp,fh⟩):=zH ⟨hf0,hf1,hf4,hf7⟩;have HMG:Hid (jt w1 w1.heap.size ⟨A0g,A1g,A4g,A7g,i0,i1,i4,i7⟩ ⟨ga,gl,(gr0,gr1),gc,gd,gp,gh⟩):=zH ⟨hg0,hg1,hg4,hg7⟩;dsimp only at f0 f1 f2 f3 f4 f5 f6 f7 g0 g1 g2 g3 g4 g5 g6 g7 hfp hgp;have HPF:Hid (0<(⟨fa,fl,(fr0,fr1),fc,fd,fp,fh⟩:zh).args.length):=zH hfp;have HPG:Hid (0<(⟨ga,gl,(gr0,gr1),gc,gd,gp,gh⟩:zh).args.length):=zH hgp;have HF0:=zH (And.intro f0 (And.intro f1 (And.intro f2 (And.intro f3 (And.intro f4 (And.intro f5 (And.intro f6 f7)))))));have HG0:=zH (And.intro g0 (And.intro g1 (And.intro g2 (And.intro g3 (And.intro g4 (And.intro g5 (And.intro g6 g7)))))));clear f0 f1 f2 f3 f4 f5 f6 f7 g0 g1 g2 g3 g4 g5 g6 g7 hf0 hf1 hf4 hf7 hg0 hg1 hg4 hg7 hfp hgp;have f0:=(HX.out.cell HPm.out).trans HF0.out.1;have f1:=(HX.out.cell (p:=zf (adm.add (n*8)) 1) HPm.out).trans HF0.out.2.1;have f2:=(HX.out.cell (p:=zf (adm.add (n*8)) 2) HPm.out).trans HF0.out.2.2.1;have f3:=(HX.out.cell (p:=zf (adm.add (n*8)) 3) HPm.out).trans HF0.out.2.2.2.1;have f4:=(HX.out.cell (p:=zf (adm.add (n*8)) 4) HPm.out).trans HF0.out.2.2.2.2.1;have f5:=(HX.out.cell (p:=zf (adm.add (n*8)) 5) HPm.out).trans HF0.out.2.2.2.2.2.1;have f6:=(HX.out.cell (p:=zf (adm.add (n*8)) 6) HPm.out).trans HF0.out.2.2.2.2.2.2.1;have f7:=(HX.out.cell (p:=zf (adm.add (n*8)) 7) HPm.out).trans HF0.out.2.2.2.2.2.2.2;have g0:=(HX.out.cell HPg.out).trans HG0.out.1;have g1:=(HX.out.cell (p:=zf (adm.add (q*8)) 1) HPg.out).trans HG0.out.2.1;have g2:=(HX.out.cell (p:=zf (adm.add (q*8)) 2) HPg.out).trans HG0.out.2.2.1;have g3:=(HX.out.cell (p:=zf (adm.add (q*8)) 3) HPg.out).trans HG0.out.2.2.2.1;have g4:=(HX.out.cell (p:=zf (adm.add (q*8)) 4) HPg.out).trans HG0.out.2.2.2.2.1;have g5:=(HX.out.cell (p:=zf (adm.add (q*8)) 5) HPg.out).trans HG0.out.2.2.2.2.2.1;have g6:=(HX.out.cell (p:=zf (adm.add (q*8)) 6) HPg.out).trans HG0.out.2.2.2.2.2.2.1;have g7:=(HX.out.cell (p:=zf (adm.add (q*8)) 7) HPg.out).trans HG0.out.2.2.2.2.2.2.2;have ksq:=(HX.out.cell HBQ.out).trans HCQ.out;have HXd:=zH HX.out.drew;have hnl':(n:Int)<m.methods.length:=by omega
     have hql':(q:Int)<m.methods.length:=by omega
     have hkai:(k:Int)<(AB.length:Int):=by omega
     obtain⟨d5,hd5⟩:∃d,QG ⟨fa,fl,(fr0,fr1),fc,fd,fp,fh⟩ ⟨ga,gl,(gr0,gr1),gc,gd,gp,gh⟩=d:=⟨_,rfl⟩
     have D5:=zH hd5;rw[hd5]at SL0;clear hd5;cases d5
     ·have E2:=zH (show vX m i x=false by unfold vX;rw[HAB.out,HKK.out,SL0.out];simp);go_region_held3 (fun w'=>w'.cell? ⟨w.heap.size,3,none⟩=some (.slice (some adm) m.methods.length h.c3)∧w'.cell? (adq.add k)=some (.int .i64 (q:Int))∧w'.cell? (adm.add (n*8))=some (.slice A0f fa.length j0)∧w'.cell? (zf (adm.add (n*8)) 1)=some (.slice A1f fl.length j1)∧w'.cell? (zf (adm.add (n*8)) 2)=some (.int .i64 fr0)∧w'.cell? (zf (adm.add (n*8)) 3)=some (.int .i64 fr1)∧w'.cell? (zf (adm.add (n*8)) 4)=some (.slice A4f fc.length j4)∧w'.cell? (zf (adm.add (n*8)) 5)=some (.int .i64 fd)∧w'.cell? (zf (adm.add (n*8)) 6)=some (.int .i64 fp)∧w'.cell? (zf (adm.add (n*8)) 7)=some (.slice A7f fh.length j7)∧w'.cell? (adm.add (q*8))=some (.slice A0g ga.length i0)∧w'.cell? (zf (adm.add (q*8)) 1)=some (.slice A1g gl.length i1)∧w'.cell? (zf (adm.add (q*8)) 2)=some (.int .i64 gr0)∧w'.cell? (zf (adm.add (q*8)) 3)=some (.int .i64 gr1)∧w'.cell? (zf (adm.add (q*8)) 4)=some (.slice A4g gc.length i4)∧w'.cell? (zf (adm.add (q*8)) 5)=some (.int .i64 gd)∧w'.cell? (zf (adm.add (q*8)) 6)=some (.int .i64 gp)∧w'.cell? (zf (adm.add (q*8)) 7)=some (.slice A7g gh.length i7)) (first|exact⟨q3,ksq,f0,f1,f2,f3,f4,f5,f6,f7,g0,g1,g2,g3,g4,g5,g6,g7⟩) (first|(go_at_call 131;(with_reducible refine(qb3 HMF HMG HXd HPF HPG D5).mono ?_);rintro e w5 ⟨rfl,hb⟩;have HX:=zj HXd hb;obtain⟨q0,q1,q2,q3,q4,q5,q6⟩:=HBX.out.keep HX.out HZ.out;rw[HE3.out]at q3;have ksq:=(HX.out.cell HBQ.out).trans HCQ.out;have f0:=(HX.out.cell HPm.out).trans HF0.out.1;have f1:=(HX.out.cell (p:=zf (adm.add (n*8)) 1) HPm.out).trans HF0.out.2.1;have f2:=(HX.out.cell (p:=zf (adm.add (n*8)) 2) HPm.out).trans HF0.out.2.2.1;have f3:=(HX.out.cell (p:=zf (adm.add (n*8)) 3) HPm.out).trans HF0.out.2.2.2.1;have f4:=(HX.out.cell (p:=zf (adm.add (n*8)) 4) HPm.out).trans HF0.out.2.2.2.2.1;have f5:=(HX.out.cell (p:=zf (adm.add (n*8)) 5) HPm.out).trans HF0.out.2.2.2.2.2.1;have f6:=(HX.out.cell (p:=zf (adm.add (n*8)) 6) HPm.out).trans HF0.out.2.2.2.2.2.2.1;have f7:=(HX.out.cell (p:=zf (adm.add (n*8)) 7) HPm.out).trans HF0.out.2.2.2.2.2.2.2;have g0:=(HX.out.cell HPg.out).trans HG0.out.1;have g1:=(HX.out.cell (p:=zf (adm.add (q*8)) 1) HPg.out).trans HG0.out.2.1;have g2:=(HX.out.cell (p:=zf (adm.add (q*8)) 2) HPg.out).trans HG0.out.2.2.1;have g3:=(HX.out.cell (p:=zf (adm.add (q*8)) 3) HPg.out).trans HG0.out.2.2.2.1;have g4:=(HX.out.cell (p:=zf (adm.add (q*8)) 4) HPg.out).trans HG0.out.2.2.2.2.1;have g5:=(HX.out.cell (p:=zf (adm.add (q*8)) 5) HPg.out).trans HG0.out.2.2.2.2.2.1;have g6:=(HX.out.cell (p:=zf (adm.add (q*8)) 6) HPg.out).trans HG0.out.2.2.2.2.2.2.1;have g7:=(HX.out.cell (p:=zf (adm.add (q*8)) 7) HPg.out).trans HG0.out.2.2.2.2.2.2.2;clear hb))
      go_wp2_with fail
      go_ret;exact⟨by rw[E2.out];rfl,HW.out.trans (HX.out.mono (Xh HZ.out))⟩
     ·have HK2:=zH (HKK.out.trans (by rw[SL0.out,Bool.true_and]));go_region_held3 (fun w'=>w'.cell? ⟨w.heap.size,3,none⟩=some (.slice (some adm) m.methods.length h.c3)∧w'.cell? (adq.add k)=some (.int .i64 (q:Int))∧w'.cell? (adm.add (n*8))=some (.slice A0f fa.length j0)∧w'.cell? (zf (adm.add (n*8)) 1)=some (.slice A1f fl.length j1)∧w'.cell? (zf (adm.add (n*8)) 2)=some (.int .i64 fr0)∧w'.cell? (zf (adm.add (n*8)) 3)=some (.int .i64 fr1)∧w'.cell? (zf (adm.add (n*8)) 4)=some (.slice A4f fc.length j4)∧w'.cell? (zf (adm.add (n*8)) 5)=some (.int .i64 fd)∧w'.cell? (zf (adm.add (n*8)) 6)=some (.int .i64 fp)∧w'.cell? (zf (adm.add (n*8)) 7)=some (.slice A7f fh.length j7)∧w'.cell? (adm.add (q*8))=some (.slice A0g ga.length i0)∧w'.cell? (zf (adm.add (q*8)) 1)=some (.slice A1g gl.length i1)∧w'.cell? (zf (adm.add (q*8)) 2)=some (.int .i64 gr0)∧w'.cell? (zf (adm.add (q*8)) 3)=some (.int .i64 gr1)∧w'.cell? (zf (adm.add (q*8)) 4)=some (.slice A4g gc.length i4)∧w'.cell? (zf (adm.add (q*8)) 5)=some (.int .i64 gd)∧w'.cell? (zf (adm.add (q*8)) 6)=some (.int .i64 gp)∧w'.cell? (zf (adm.add (q*8)) 7)=some (.slice A7g gh.length i7)) (first|exact⟨q3,ksq,f0,f1,f2,f3,f4,f5,f6,f7,g0,g1,g2,g3,g4,g5,g6,g7⟩) (first|(go_at_call 131;(with_reducible refine(qb3 HMF HMG HXd HPF HPG D5).mono ?_);rintro e w5 ⟨rfl,hb⟩;have HX:=zj HXd hb;obtain⟨q0,q1,q2,q3,q4,q5,q6⟩:=HBX.out.keep HX.out HZ.out;rw[HE3.out]at q3;have ksq:=(HX.out.cell HBQ.out).trans HCQ.out;have f0:=(HX.out.cell HPm.out).trans HF0.out.1;have f1:=(HX.out.cell (p:=zf (adm.add (n*8)) 1) HPm.out).trans HF0.out.2.1;have f2:=(HX.out.cell (p:=zf (adm.add (n*8)) 2) HPm.out).trans HF0.out.2.2.1;have f3:=(HX.out.cell (p:=zf (adm.add (n*8)) 3) HPm.out).trans HF0.out.2.2.2.1;have f4:=(HX.out.cell (p:=zf (adm.add (n*8)) 4) HPm.out).trans HF0.out.2.2.2.2.1;have f5:=(HX.out.cell (p:=zf (adm.add (n*8)) 5) HPm.out).trans HF0.out.2.2.2.2.2.1;have f6:=(HX.out.cell (p:=zf (adm.add (n*8)) 6) HPm.out).trans HF0.out.2.2.2.2.2.2.1;have f7:=(HX.out.cell (p:=zf (adm.add (n*8)) 7) HPm.out).trans HF0.out.2.2.2.2.2.2.2;have g0:=(HX.out.cell HPg.out).trans HG0.out.1;have g1:=(HX.out.cell (p:=zf (adm.add (q*8)) 1) HPg.out).trans HG0.out.2.1;have g2:=(HX.out.cell (p:=zf (adm.add (q*8)) 2) HPg.out).trans HG0.out.2.2.1;have g3:=(HX.out.cell (p:=zf (adm.add (q*8)) 3) HPg.out).trans HG0.out.2.2.2.1;have g4:=(HX.out.cell (p:=zf (adm.add (q*8)) 4) HPg.out).trans HG0.out.2.2.2.2.1;have g5:=(HX.out.cell (p:=zf (adm.add (q*8)) 5) HPg.out).trans HG0.out.2.2.2.2.2.1;have g6:=(HX.out.cell (p:=zf (adm.add (q*8)) 6) HPg.out).trans HG0.out.2.2.2.2.2.2.1;have g7:=(HX.out.cell (p:=zf (adm.add (q*8)) 7) HPg.out).trans HG0.out.2.2.2.2.2.2.2;clear hb))
      go_wp2_with fail
      go_roundw;case rel=>exact⟨k+1,by omega,by go_num,HK2,HX⟩
      case measure=>simp[intOf];omega
    ·have hd:decide ((k:Int)<(AB.length:Int))=false:=Xg (by omega);have hd':decide (k<AB.length)=false:=Xg hka;obtain⟨f,tf,rf,hfm,hfa,hsub⟩:=q95 D4.out;have HK2:Hid (kt m (i:Int) AB 0 x.slots=kt m (i:Int) AB (k+1) (x.slots.drop (k+1))):=zH (HKK.out.trans (by rw[qnk (c:=(i:Int)) (ab:=AB) (k:=k) hfm hfa hsub (by omega),Bool.true_and]));clear hfm hfa hsub;go_quiet (fail)
     go_wp2
     go_roundw;case rel=>exact⟨k+1,by omega,by go_num,HK2,zH (qZ HX.out _)⟩
     case measure=>simp[intOf];omega
  ·have E2:=zH (show vX m i x=true by unfold vX;rw[HAB.out,HK.out,List.drop_eq_nil_of_le (by omega),Xm C3.out];rfl);go_wp2_with fail
   go_ret;exact⟨by rw[E2.out];rfl,HW.out.trans (HX.out.mono (Xh HZ.out))⟩
def q40(gc:Nat):qx:=⟨none,none,some ⟨gc,0,none⟩,none,0,0,1,0⟩
def q3z(gc:Nat):List Value:=[.slice none 0 0,.slice none 0 0,.int .i64 0,.int .i64 0,.slice (some ⟨gc,0,none⟩) 1 1,.int .i64 0,.int .i64 0,.slice none 0 0]
theorem qrt(op a b:Int)(gc:Nat):ko (Yk op a b,q40 gc)=q3z gc:=rfl
structure q1q(w1 wx:World)(N g c gc:Nat)(h:zi)(m:za)(n:Nat)(op a b:Int)(zs:List (zh×qx)):Prop where
 box:zd wx N [.slice h.A0 m.classes.length h.c0,.slice h.A1 m.statics.length h.c1,.slice h.A2 m.ints.length h.c2,.slice (some ⟨g,0,none⟩) (n+1) c,.slice h.A4 m.entries.length h.c4,.int .i64 m.stack,.int .i64 m.heap] 28
 row:wx.ownsRow w1.heap.size 53 8 (.slice (some ⟨g,0,none⟩) (n+1) c) (n+1) (kj (zs++[(Yk op a b,q40 gc)]))
 code:zd wx gc [.int .i64 op,.int .i64 a,.int .i64 b] 55
 low:Below N w1 wx
theorem qtn{w:World}{g:Nat}{op a b:Int}(h:zd w g [.int .i64 op,.int .i64 a,.int .i64 b] 55):ze qi 3 w w.heap.size (some ⟨g,0,none⟩) 1 [(op,a,b)]:=
 ⟨zn _,by omega,qec (k:=3) ⟨h.cells 0 _ rfl,h.cells 1 _ rfl,h.cells 2 _ rfl⟩ (zd.lt h)⟩
theorem q1q.image{w w1 wx:World}{N g c gc n:Nat}{h:zi}{m:za}{op a b:Int}{zs:List (zh×qx)}(H:q1q w1 wx N g c gc h m n op a b zs)(hn:m.methods.length=n)(hI:zm w w.heap.size h m)(hz:zs.map (·.1)=m.methods∧∀z ∈zs,jt w w.heap.size z.2 z.1)(hb:Below w.heap.size w wx):
  zm wx wx.heap.size ⟨h.A0,h.A1,h.A2,some ⟨g,0,none⟩,h.A4,h.c0,h.c1,h.c2,c,h.c4⟩ (qW m op a b):=by
 have hI:=hI.now hb;have hzn:zs.length=n:=by rw[←hn,←hz.1,Xo]
 refine⟨hI.classes,hI.statics,hI.ints,?_,hI.entries⟩;have hs:=qsb H.row (by simp[hzn]) (fun z hm=>by
  rcases Xn.mp hm with q|q
  ·exact(hz.2 z q).now hb
  ·rw[XL.mp q];exact⟨⟨zn _,Xp _,qv.nil⟩,⟨zn _,Xp _,qv.nil⟩,qtn H.code,⟨zn _,Xp _,qv.nil⟩⟩)
 rw[XY,hz.1]at hs;exact hs
theorem q1q.pot{w1 wx:World}{N g c gc n:Nat}{h:zi}{m:za}{op a b:Int}{zs:List (zh×qx)}(H:q1q w1 wx N g c gc h m n op a b zs)(hn:m.methods.length=n)(hz:zs.map (·.1)=m.methods){t:Nat}(ht:t<n):wx.cell? ⟨g,t*8+6,none⟩=some (.int .i64 (zw (qW m op a b) (t:Int)).pot):=by
 have hzn:zs.length=n:=by rw[←hn,←hz,Xo]
 obtain⟨_,hc⟩:=YO H.row;have hzt:(zs++[(Yk op a b,q40 gc)])[t]? =some zs[t]:=by rw[XN (by omega),Xc (by omega)]
 have e:(zw (qW m op a b) (t:Int))=zs[t].1:=by
  rw[qe9 (by omega)];unfold zw;rw[Xi,←hz,XB,Xc (by omega)];rfl
 rw[e];exact(hc (t*8+6) _ (by rw[qd7 hzt (by decide)];rfl)).1
theorem qtm{m:za}{n:Nat}{op a b:Int}{h:zi}{g c:Nat}{L:List Int}{w:World}(hn:Hid (m.methods.length=n))(HI:Hid (zm w w.heap.size ⟨h.A0,h.A1,h.A2,some ⟨g,0,none⟩,h.A4,h.c0,h.c1,h.c2,c,h.c4⟩ (qW m op a b)))(HC:Hid ((qW m op a b).classes.length≤1000∧(qW m op a b).methods.length≤1048576∧∀x ∈(qW m op a b).methods,x.code.length≤1048576))(HR:Hid (jJ (qW m op a b) (m.methods.length:Int)=L)):
  Calls Tryz.prog 103 #[.agg #[.slice h.A0 m.classes.length h.c0,.slice h.A1 m.statics.length h.c1,.slice h.A2 m.ints.length h.c2,.slice (some ⟨g,0,none⟩) (n+1) c,.slice h.A4 m.entries.length h.c4,.int .i64 m.stack,.int .i64 m.heap],.int .i64 n] w fun e w'=>∃A c,e= .returned (.slice A L.length c)∧ze zl 1 w' w'.heap.size A c L∧(∀ad,A=some ad→w.heap.size≤ad.block)∧Below w.heap.size w w':=by
 have H:=qer (w0:=w) (f:=(m.methods.length:Int)) HI (zH (zb _ _)) HC HR;have e:zp ⟨h.A0,h.A1,h.A2,some ⟨g,0,none⟩,h.A4,h.c0,h.c1,h.c2,c,h.c4⟩ (qW m op a b)= .agg #[.slice h.A0 m.classes.length h.c0,.slice h.A1 m.statics.length h.c1,.slice h.A2 m.ints.length h.c2,.slice (some ⟨g,0,none⟩) (n+1) c,.slice h.A4 m.entries.length h.c4,.int .i64 m.stack,.int .i64 m.heap]:=by
  show Value.agg #[.slice h.A0 m.classes.length h.c0,.slice h.A1 m.statics.length h.c1,.slice h.A2 m.ints.length h.c2,.slice (some ⟨g,0,none⟩) (qW m op a b).methods.length c,.slice h.A4 m.entries.length h.c4,.int .i64 m.stack,.int .i64 m.heap]=_;rw[q1b,hn.out]
 rw[e,hn.out]at H;exact H
theorem q0o{w:World}{base e k n:Nat}{v:Value}{xs:List Value}(h:w.ownsRow base e k v n xs):∀g,v.ownBlock=some g→g<w.heap.size:=fun g hg=>(h.lt g hg).2
theorem qk6{w:World}{g:Nat}{vs:List Value}{T:TypeId}(h:zd w g vs T):zq w w.heap.size (some ⟨g,0,none⟩) vs:=fun j u hj=>⟨_,rfl,zd.lt h,by rw[show Addr.add ⟨g,0,none⟩ j=⟨g,j,none⟩by unfold Addr.add;split<;>simp_all];exact h.cells j u hj⟩
theorem qni(gc:Nat):∀u ∈q3z gc,u.oneCell'=true:=fun u hu=>by
 unfold q3z at hu;simp at hu;rcases hu with rfl|rfl|rfl|rfl|rfl|rfl|rfl|rfl<;>rfl
theorem qfv{W:World}{base:Nat}{e:TypeId}{size:Nat}{v:Value}{k:Nat}{xs:List Value}(h:W.ownsRow base e size v (k+1) xs):∃g cap,v= .slice (some ⟨g,0,none⟩) (k+1) cap:=by
 rcases Zk h with⟨_,h0⟩|⟨g,cap,rfl,_⟩
 ·omega
 ·exact⟨g,cap,rfl⟩
theorem qf3{w:World}{base e k n g:Nat}{v:Value}{xs vs:List Value}{T:TypeId}(h:w.ownsRow base e k v n xs)(hw:zd w g vs T)(hT:e≠T):v.ownBlock≠some g:=fun hv=>by
 rcases h.2 with⟨rfl,_⟩|⟨g',cap,cur,rfl,_,hh,_⟩
 ·cases hv
 ·have:g'=g:=by simpa[Value.ownBlock]using hv
  subst this;unfold zd at hw;rw[hw]at hh;injection hh with hh;injection hh with _ h2 _;exact hT h2.symm
theorem qre{w:World}{g g':Nat}{vs vs':List Value}{T T':TypeId}(h:zd w g vs T)(h':zd w g' vs' T')(hT:T≠T'):g≠g':=fun e=>by
 subst e;unfold zd at h h';rw[h]at h';injection h' with h';injection h' with _ h2 _;exact hT h2
theorem qc4{w w':World}{g:Nat}{vs:List Value}{T:TypeId}{row:Option Nat}(h:zd w g vs T)(hg:w.grownBy w' row)(hne:row≠some g):zd w' g vs T:=(hg.block g (zd.lt h) (fun e=>hne e.symm)).trans h
theorem qoo(zs:List (zh×qx))(z:zh×qx):kj (zs++[z])=kj zs++ko z:=by unfold kj;simp
theorem qfx{w:World}{base e k n B i:Nat}{v u:Value}{xs:List Value}(h:w.ownsRow B e k v n xs)(hN:base≤B){w1:World}{vs:List Value}{T:TypeId}(hW:zd w1 base vs T)(hB:B=w1.heap.size:=by rfl):(w.setCell ⟨base,i,none⟩ u).ownsRow B e k v n xs:=by
 refine⟨h.1,?_⟩;have:=zd.lt hW;rcases h.2 with h0|⟨g,cap,cur,hv,hb,hh,rest⟩
 ·exact .inl h0
 ·exact .inr ⟨g,cap,cur,hv,hb,by rw[Below.heap_setCell _ _ _ _ (by show g≠base;omega)];exact hh,rest⟩
theorem VB{P:Prop}(h:P:=by
 refine hK.out _ _ (HKS.out _ HX.out) (fun hHeld=> ?_);clear hK K;try simp only[sA,sB,sC,Act.put,sD,sE,sF]
 refine wpAnyH_ready (rs:=[7]) (by kernel_rfl) (by simp) ?_;refine AllReadyH.cons (o:=_) rfl (fun K hK=> ?_) AllReadyH.nil;refine q13 rfl _ _ 25 rfl w1.heap.size 53 ti z0 8 128 Tryz.underlying25 hti ht0 ht2 ht3 ht1 (by decide) _ n (kj zs) rfl HO.out (some ⟨gt,0,none⟩) 1 1 _ (q3z gc) rfl rfl (qk6 HT.out) (qni gc) (by unfold maxLen;omega) (by omega) HX.out.size ?_;intro v9 w9 hown hgrow;have hX9:=jV HX.out HO.out HX.out.size hgrow;have hbx9:=HW1.out.keep hX9 (zd.lt HW1.out);obtain⟨g9,c9,rfl⟩:=qfv hown;have hC9:=qc4 HC.out hgrow (qf3 HO.out HC.out (by decide));have hO9:Hid (w9.ownsRow w1.heap.size 53 8 (.slice (some ⟨g9,0,none⟩) (n+1) c9) (n+1) (kj (zs++[(Yk op a b,q40 gc)]))):=zH (by rw[qoo,qrt];exact hown);refine hK.out _ _ (HKS.out _ hX9) (fun hHeld=> ?_);clear hK K;try simp only[sA,sB,sC,Act.put,sD,sE,sF]
 refine mT 8 (h:= ?_);refine wpAnyH_ready (rs:=[9]) (by kernel_rfl) (by simp) ?_;refine AllReadyH.cons (o:=_) rfl (fun K hK=> ?_) AllReadyH.nil;have q3:=hbx9.cells 3 _ rfl;have f3:=hbx9.free 3;go_simp;refine hK.out _ _ (HKT.out _ _ hX9) (fun hHeld=> ?_);clear hK K;try simp only[sA,sB,sC,Act.put,sD,sE,sF]
 refine wpAnyH_done (by kernel_rfl) ?_ _;refine NoPanic.normal ?_;go_wp2_with fail
 go_meet
 exact⟨g9,c9,gc,zH ⟨hbx9.set 3 _,qfx hO9.out HSZ1.out HW1.out,(Below.heap_setCell _ _ _ gc (by show gc≠w.heap.size;exact qre hC9 hbx9 (by decide))).trans hC9,(hX9.mono HSZ1.out).setCell (p:=⟨w.heap.size,3,none⟩) (zn _) _⟩⟩):P:=h
set_option maxHeartbeats 12800000 in
theorem qo3(m:za)(n:Nat)(op a b:Int)(h:zi)(w:World)(H:zm w w.heap.size h m)(hn:m.methods.length=n)(hcl:m.classes.length≤1000)(hml:n≤1000)(h0:0<n)(hc:∀x ∈m.methods,x.code.length≤1048576)(ht:∀t ∈qp m op a b,0≤t∧t<m.methods.length):
  Calls Tryz.prog 188 #[zp h m,zF op a b] w fun e w'=>e= .returned (.int .i64 (jb m (qp m op a b)))∧Below w.heap.size w w':=by
 obtain⟨zs,hz,hzl,hzi⟩:=qux H.methods.row;have hzn:zs.length=n:=by rw[←hn,←hz,Xo]
 have HMOST:=zH (qng ht);have HCO:Hid ((qW m op a b).classes.length≤1000∧(qW m op a b).methods.length≤1048576∧∀x ∈(qW m op a b).methods,x.code.length≤1048576):=zH ⟨hcl,by rw[q1b];omega,fun x hx=>by
  rcases Xn.mp hx with q|q
  ·exact hc x q
  ·rw[XL.mp q];exact(show 1≤1048576 by omega)⟩
 have HCR:Hid (∀t ∈jJ (qW m op a b) (m.methods.length:Int),0≤t∧t<m.methods.length):=zH (fun t hm=>ht t ((q2g ht t).mp hm));have HCL:Hid ((jJ (qW m op a b) (m.methods.length:Int)).length≤1001):=zH (by have:=qc7 (qW m op a b) (m.methods.length:Int);rw[q1b]at this;omega);have HI:=zH H;have HZS:Hid (zs.map (·.1)=m.methods∧∀z ∈zs,jt w w.heap.size z.2 z.1):=zH ⟨hz,hzi⟩;have HZN:=zH hzn;have HNN:=zH hn;have hcap:=H.methods.cap;have hle:=H.methods.le;rw[hn]at hle;obtain⟨adM,hA3⟩:∃ad,h.A3=some ad:=by
  obtain⟨ad,_,e,_⟩:=Qe H (show 0<m.methods.length by omega);exact⟨ad,e⟩
 rw[hA3]at hzl;have HLZ:=zH hzl;obtain⟨A0,A1,A2,A3,A4,k0,k1,k2,k3,k4⟩:=h;dsimp only at hA3 hcap hle;subst hA3;obtain⟨V,hV⟩:∃V,jb m (qp m op a b)=V:=⟨_,rfl⟩
 rw[hV]at HMOST⊢
 clear H hz hzi hzl hzn hc ht hV hn;obtain⟨ti,z0,hti,ht0,ht1,ht2,ht3⟩:=q9x qbq;go_enter Tryz.func188,Tryz.ntmps188;go_upto_region 1 with fail
 have hW1:zd ((w.alloc (zg ⟨A0,A1,A2,some adM,A4,k0,k1,k2,k3,k4⟩ m)).alloc (.cells #[.int .i64 op,.int .i64 a,.int .i64 b] 55)) w.heap.size [.slice A0 m.classes.length k0,.slice A1 m.statics.length k1,.slice A2 m.ints.length k2,.slice (some adM) m.methods.length k3,.slice A4 m.entries.length k4,.int .i64 m.stack,.int .i64 m.heap] 28:=zd.keep (zd.new w [.slice A0 m.classes.length k0,.slice A1 m.statics.length k1,.slice A2 m.ints.length k2,.slice (some adM) m.methods.length k3,.slice A4 m.entries.length k4,.int .i64 m.stack,.int .i64 m.heap] 28) ((zb _ _).alloc (zn _) _) (by simp);have hW2:zd ((w.alloc (zg ⟨A0,A1,A2,some adM,A4,k0,k1,k2,k3,k4⟩ m)).alloc (.cells #[.int .i64 op,.int .i64 a,.int .i64 b] 55)) (w.heap.size+1) [.int .i64 op,.int .i64 a,.int .i64 b] 55:=zd.at_ (by simp) _ _;have hB1:Below w.heap.size w ((w.alloc (zg ⟨A0,A1,A2,some adM,A4,k0,k1,k2,k3,k4⟩ m)).alloc (.cells #[.int .i64 op,.int .i64 a,.int .i64 b] 55)):=((zb w.heap.size w).alloc (zn _) _).alloc (by simp) _;generalize(w.alloc (zg ⟨A0,A1,A2,some adM,A4,k0,k1,k2,k3,k4⟩ m)).alloc (.cells #[.int .i64 op,.int .i64 a,.int .i64 b] 55)=w1 at*
 rw[HNN.out]at hW1;have HB1:=zH hB1;have HW1:=zH hW1;have HW2:=zH hW2;clear hW1 hW2 hB1;have q3:=HW1.out.cells 3 _ rfl;go_upto_region 2 with fail
 clear q3;have HLZ1:Hid (zq w1 w.heap.size (some adM) (kj zs)):=zH (HLZ.out.below_to HB1.out (zn _));have HSZ1:Hid (w.heap.size≤w1.heap.size):=zH HB1.out.size;go_cut [] (fun wx=>∃g c gc,Hid (q1q w1 wx w.heap.size g c gc ⟨A0,A1,A2,some adM,A4,k0,k1,k2,k3,k4⟩ m n op a b zs))
 case first=>
  have HX:Hid (Below w1.heap.size w1 w1.drew):=zH (zb _ _).drew;have HBX:Hid (zd w1.drew w.heap.size [.slice A0 m.classes.length k0,.slice A1 m.statics.length k1,.slice A2 m.ints.length k2,.slice (some adM) n k3,.slice A4 m.entries.length k4,.int .i64 m.stack,.int .i64 m.heap] 28):=HW1;have HKS:Hid (∀W,Below w1.heap.size w1 W→(fun w'=>w'.cell? ⟨w.heap.size+1,0,none⟩=some (.int .i64 op)∧w'.cell? ⟨w.heap.size+1,1,none⟩=some (.int .i64 a)∧w'.cell? ⟨w.heap.size+1,2,none⟩=some (.int .i64 b)) W):=zH (fun W hW=>by
   have:=HW2.out.keep hW (zd.lt HW2.out);exact⟨this.cells 0 _ rfl,this.cells 1 _ rfl,this.cells 2 _ rfl⟩)
  have HKT:Hid (∀W v,Below w1.heap.size w1 W→(fun w'=>w'.cell? ⟨w.heap.size+1,0,none⟩=some (.int .i64 op)∧w'.cell? ⟨w.heap.size+1,1,none⟩=some (.int .i64 a)∧w'.cell? ⟨w.heap.size+1,2,none⟩=some (.int .i64 b)) (W.setCell ⟨w.heap.size,3,none⟩ v)):=zH (fun W v hW=>by
   obtain⟨s0,s1,s2⟩:=HKS.out W hW;have hne:w.heap.size≠w.heap.size+1:=by omega
   exact⟨(World.cell?_setCell_far _ _ _ _ hne).trans s0,(World.cell?_setCell_far _ _ _ _ hne).trans s1,(World.cell?_setCell_far _ _ _ _ hne).trans s2⟩)
  refine wp_region_noPanic ?_;refine wp_region_held_drew (S:=fun w'=>w'.cell? ⟨w.heap.size+1,0,none⟩=some (.int .i64 op)∧w'.cell? ⟨w.heap.size+1,1,none⟩=some (.int .i64 a)∧w'.cell? ⟨w.heap.size+1,2,none⟩=some (.int .i64 b)) (by kernel_rfl) (HKS.out _ HX.out) (fun hHeld=> ?_);generalize w1.drew=w2 at HX HBX hHeld⊢
  refine mT 0 (h:=mT 3 (h:= ?_));refine wpAnyH_ready (rs:=[1,4]) (by kernel_rfl) (by simp) ?_;refine(AllReadyH.cons (o:=_) rfl (fun K hK=> ?_) (AllReadyH.cons (o:=_) rfl (fun K hK=> ?_) AllReadyH.nil))
  ·have q3:=HBX.out.cells 3 _ rfl;go_simp;clear q3;refine hK.out _ _ (HKS.out _ HX.out) (fun hHeld=> ?_);clear hK K;try simp only[sA,sB,sC,Act.put,sD,sE,sF]
   refine wpAnyH_ready (rs:=[2,4]) (by kernel_rfl) (by simp) ?_;refine(AllReadyH.cons (o:=_) rfl (fun K hK=> ?_) (AllReadyH.cons (o:=_) rfl (fun K hK=> ?_) AllReadyH.nil))
   ·go_simp;(go_at_call 201;(with_reducible refine(VM HZN HLZ1 HX HSZ1 (zH h0) (zH (by omega))).mono ?_);rintro e w103 ⟨gi,ci,rfl,ho,hA⟩;have HO:=zH (ja ho HX.out.size);replace HX:=zj HX hA;replace HBX:=zH (HBX.out.keep hA (zd.lt HBX.out));clear ho hA)
    refine hK.out _ _ (HKS.out _ HX.out) (fun hHeld=> ?_);clear hK K;try simp only[sA,sB,sC,Act.put,sD,sE,sF]
    refine wpAnyH_ready (rs:=[4]) (by kernel_rfl) (by simp) ?_;refine AllReadyH.cons (o:=_) rfl (fun K hK=> ?_) AllReadyH.nil;go_simp;have hA:Below w103.heap.size w103 (w103.alloc (.cells #[.int .i64 op,.int .i64 a,.int .i64 b] 55)):=(zb _ _).alloc (zn _) _;have HC:Hid (zd (w103.alloc (.cells #[.int .i64 op,.int .i64 a,.int .i64 b] 55)) w103.heap.size [.int .i64 op,.int .i64 a,.int .i64 b] 55):=zH (zd.new w103 [.int .i64 op,.int .i64 a,.int .i64 b] 55);replace HX:=zj HX hA;replace HBX:=zH (HBX.out.keep hA (zd.lt HBX.out));replace HO:=zH (zT HO.out hA (q0o HO.out));clear hA;generalize w103.alloc (.cells #[.int .i64 op,.int .i64 a,.int .i64 b] 55)=w104 at HX HBX HC HO⊢;generalize w103.heap.size=gc at HC⊢
    refine hK.out _ _ (HKS.out _ HX.out) (fun hHeld=> ?_);clear hK K;try simp only[sA,sB,sC,Act.put,sD,sE,sF]
    refine mT 5 (h:= ?_);refine wpAnyH_ready (rs:=[6]) (by kernel_rfl) (by simp) ?_;refine AllReadyH.cons (o:=_) rfl (fun K hK=> ?_) AllReadyH.nil;go_simp;have hA:Below w104.heap.size w104 (w104.alloc (.cells #[.slice none 0 0,.slice none 0 0,.int .i64 0,.int .i64 0,.slice (some ⟨gc,0,none⟩) 1 1,.int .i64 0,.int .i64 0,.slice none 0 0] 53)):=(zb _ _).alloc (zn _) _;have HT:Hid (zd (w104.alloc (.cells #[.slice none 0 0,.slice none 0 0,.int .i64 0,.int .i64 0,.slice (some ⟨gc,0,none⟩) 1 1,.int .i64 0,.int .i64 0,.slice none 0 0] 53)) w104.heap.size [.slice none 0 0,.slice none 0 0,.int .i64 0,.int .i64 0,.slice (some ⟨gc,0,none⟩) 1 1,.int .i64 0,.int .i64 0,.slice none 0 0] 53):=zH (zd.new w104 [.slice none 0 0,.slice none 0 0,.int .i64 0,.int .i64 0,.slice (some ⟨gc,0,none⟩) 1 1,.int .i64 0,.int .i64 0,.slice none 0 0] 53);replace HX:=zj HX hA;replace HBX:=zH (HBX.out.keep hA (zd.lt HBX.out));replace HO:=zH (zT HO.out hA (q0o HO.out));replace HC:=zH (HC.out.keep hA (zd.lt HC.out));clear hA;generalize w104.alloc (.cells #[.slice none 0 0,.slice none 0 0,.int .i64 0,.int .i64 0,.slice (some ⟨gc,0,none⟩) 1 1,.int .i64 0,.int .i64 0,.slice none 0 0] 53)=w105 at HX HBX HT HO HC⊢;generalize w104.heap.size=gt at HT⊢
    exact VB
   ·go_simp;have hA:Below w2.heap.size w2 (w2.alloc (.cells #[.int .i64 op,.int .i64 a,.int .i64 b] 55)):=(zb _ _).alloc (zn _) _;have HC:Hid (zd (w2.alloc (.cells #[.int .i64 op,.int .i64 a,.int .i64 b] 55)) w2.heap.size [.int .i64 op,.int .i64 a,.int .i64 b] 55):=zH (zd.new w2 [.int .i64 op,.int .i64 a,.int .i64 b] 55);replace HX:=zj HX hA;replace HBX:=zH (HBX.out.keep hA (zd.lt HBX.out));clear hA;generalize w2.alloc (.cells #[.int .i64 op,.int .i64 a,.int .i64 b] 55)=w107 at HX HBX HC⊢;generalize w2.heap.size=gc at HC⊢
    refine hK.out _ _ (HKS.out _ HX.out) (fun hHeld=> ?_);clear hK K;try simp only[sA,sB,sC,Act.put,sD,sE,sF]
    refine mT 5 (h:= ?_);refine wpAnyH_ready (rs:=[2,6]) (by kernel_rfl) (by simp) ?_;refine(AllReadyH.cons (o:=_) rfl (fun K hK=> ?_) (AllReadyH.cons (o:=_) rfl (fun K hK=> ?_) AllReadyH.nil))
    ·go_simp;(go_at_call 201;(with_reducible refine(VM HZN HLZ1 HX HSZ1 (zH h0) (zH (by omega))).mono ?_);rintro e w108 ⟨gi,ci,rfl,ho,hA⟩;have HO:=zH (ja ho HX.out.size);replace HX:=zj HX hA;replace HBX:=zH (HBX.out.keep hA (zd.lt HBX.out));replace HC:=zH (HC.out.keep hA (zd.lt HC.out));clear ho hA)
     refine hK.out _ _ (HKS.out _ HX.out) (fun hHeld=> ?_);clear hK K;try simp only[sA,sB,sC,Act.put,sD,sE,sF]
     refine wpAnyH_ready (rs:=[6]) (by kernel_rfl) (by simp) ?_;refine AllReadyH.cons (o:=_) rfl (fun K hK=> ?_) AllReadyH.nil;go_simp;have hA:Below w108.heap.size w108 (w108.alloc (.cells #[.slice none 0 0,.slice none 0 0,.int .i64 0,.int .i64 0,.slice (some ⟨gc,0,none⟩) 1 1,.int .i64 0,.int .i64 0,.slice none 0 0] 53)):=(zb _ _).alloc (zn _) _;have HT:Hid (zd (w108.alloc (.cells #[.slice none 0 0,.slice none 0 0,.int .i64 0,.int .i64 0,.slice (some ⟨gc,0,none⟩) 1 1,.int .i64 0,.int .i64 0,.slice none 0 0] 53)) w108.heap.size [.slice none 0 0,.slice none 0 0,.int .i64 0,.int .i64 0,.slice (some ⟨gc,0,none⟩) 1 1,.int .i64 0,.int .i64 0,.slice none 0 0] 53):=zH (zd.new w108 [.slice none 0 0,.slice none 0 0,.int .i64 0,.int .i64 0,.slice (some ⟨gc,0,none⟩) 1 1,.int .i64 0,.int .i64 0,.slice none 0 0] 53);replace HX:=zj HX hA;replace HBX:=zH (HBX.out.keep hA (zd.lt HBX.out));replace HO:=zH (zT HO.out hA (q0o HO.out));replace HC:=zH (HC.out.keep hA (zd.lt HC.out));clear hA;generalize w108.alloc (.cells #[.slice none 0 0,.slice none 0 0,.int .i64 0,.int .i64 0,.slice (some ⟨gc,0,none⟩) 1 1,.int .i64 0,.int .i64 0,.slice none 0 0] 53)=w109 at HX HBX HT HO HC⊢;generalize w108.heap.size=gt at HT⊢
     exact VB
    ·go_simp;have hA:Below w107.heap.size w107 (w107.alloc (.cells #[.slice none 0 0,.slice none 0 0,.int .i64 0,.int .i64 0,.slice (some ⟨gc,0,none⟩) 1 1,.int .i64 0,.int .i64 0,.slice none 0 0] 53)):=(zb _ _).alloc (zn _) _;have HT:Hid (zd (w107.alloc (.cells #[.slice none 0 0,.slice none 0 0,.int .i64 0,.int .i64 0,.slice (some ⟨gc,0,none⟩) 1 1,.int .i64 0,.int .i64 0,.slice none 0 0] 53)) w107.heap.size [.slice none 0 0,.slice none 0 0,.int .i64 0,.int .i64 0,.slice (some ⟨gc,0,none⟩) 1 1,.int .i64 0,.int .i64 0,.slice none 0 0] 53):=zH (zd.new w107 [.slice none 0 0,.slice none 0 0,.int .i64 0,.int .i64 0,.slice (some ⟨gc,0,none⟩) 1 1,.int .i64 0,.int .i64 0,.slice none 0 0] 53);replace HX:=zj HX hA;replace HBX:=zH (HBX.out.keep hA (zd.lt HBX.out));replace HC:=zH (HC.out.keep hA (zd.lt HC.out));clear hA;generalize w107.alloc (.cells #[.slice none 0 0,.slice none 0 0,.int .i64 0,.int .i64 0,.slice (some ⟨gc,0,none⟩) 1 1,.int .i64 0,.int .i64 0,.slice none 0 0] 53)=w111 at HX HBX HT HC⊢;generalize w107.heap.size=gt at HT⊢
     refine hK.out _ _ (HKS.out _ HX.out) (fun hHeld=> ?_);clear hK K;try simp only[sA,sB,sC,Act.put,sD,sE,sF]
     refine wpAnyH_ready (rs:=[2]) (by kernel_rfl) (by simp) ?_;refine AllReadyH.cons (o:=_) rfl (fun K hK=> ?_) AllReadyH.nil;go_simp;(go_at_call 201;(with_reducible refine(VM HZN HLZ1 HX HSZ1 (zH h0) (zH (by omega))).mono ?_);rintro e w112 ⟨gi,ci,rfl,ho,hA⟩;have HO:=zH (ja ho HX.out.size);replace HX:=zj HX hA;replace HBX:=zH (HBX.out.keep hA (zd.lt HBX.out));replace HC:=zH (HC.out.keep hA (zd.lt HC.out));replace HT:=zH (HT.out.keep hA (zd.lt HT.out));clear ho hA)
     exact VB
  ·go_simp;have hA:Below w2.heap.size w2 (w2.alloc (.cells #[.int .i64 op,.int .i64 a,.int .i64 b] 55)):=(zb _ _).alloc (zn _) _;have HC:Hid (zd (w2.alloc (.cells #[.int .i64 op,.int .i64 a,.int .i64 b] 55)) w2.heap.size [.int .i64 op,.int .i64 a,.int .i64 b] 55):=zH (zd.new w2 [.int .i64 op,.int .i64 a,.int .i64 b] 55);replace HX:=zj HX hA;replace HBX:=zH (HBX.out.keep hA (zd.lt HBX.out));clear hA;generalize w2.alloc (.cells #[.int .i64 op,.int .i64 a,.int .i64 b] 55)=w114 at HX HBX HC⊢;generalize w2.heap.size=gc at HC⊢
   refine hK.out _ _ (HKS.out _ HX.out) (fun hHeld=> ?_);clear hK K;try simp only[sA,sB,sC,Act.put,sD,sE,sF]
   refine mT 5 (h:= ?_);refine wpAnyH_ready (rs:=[1,6]) (by kernel_rfl) (by simp) ?_;refine(AllReadyH.cons (o:=_) rfl (fun K hK=> ?_) (AllReadyH.cons (o:=_) rfl (fun K hK=> ?_) AllReadyH.nil))
   ·have q3:=HBX.out.cells 3 _ rfl;go_simp;clear q3;refine hK.out _ _ (HKS.out _ HX.out) (fun hHeld=> ?_);clear hK K;try simp only[sA,sB,sC,Act.put,sD,sE,sF]
    refine wpAnyH_ready (rs:=[2,6]) (by kernel_rfl) (by simp) ?_;refine(AllReadyH.cons (o:=_) rfl (fun K hK=> ?_) (AllReadyH.cons (o:=_) rfl (fun K hK=> ?_) AllReadyH.nil))
    ·go_simp;(go_at_call 201;(with_reducible refine(VM HZN HLZ1 HX HSZ1 (zH h0) (zH (by omega))).mono ?_);rintro e w115 ⟨gi,ci,rfl,ho,hA⟩;have HO:=zH (ja ho HX.out.size);replace HX:=zj HX hA;replace HBX:=zH (HBX.out.keep hA (zd.lt HBX.out));replace HC:=zH (HC.out.keep hA (zd.lt HC.out));clear ho hA)
     refine hK.out _ _ (HKS.out _ HX.out) (fun hHeld=> ?_);clear hK K;try simp only[sA,sB,sC,Act.put,sD,sE,sF]
     refine wpAnyH_ready (rs:=[6]) (by kernel_rfl) (by simp) ?_;refine AllReadyH.cons (o:=_) rfl (fun K hK=> ?_) AllReadyH.nil;go_simp;have hA:Below w115.heap.size w115 (w115.alloc (.cells #[.slice none 0 0,.slice none 0 0,.int .i64 0,.int .i64 0,.slice (some ⟨gc,0,none⟩) 1 1,.int .i64 0,.int .i64 0,.slice none 0 0] 53)):=(zb _ _).alloc (zn _) _;have HT:Hid (zd (w115.alloc (.cells #[.slice none 0 0,.slice none 0 0,.int .i64 0,.int .i64 0,.slice (some ⟨gc,0,none⟩) 1 1,.int .i64 0,.int .i64 0,.slice none 0 0] 53)) w115.heap.size [.slice none 0 0,.slice none 0 0,.int .i64 0,.int .i64 0,.slice (some ⟨gc,0,none⟩) 1 1,.int .i64 0,.int .i64 0,.slice none 0 0] 53):=zH (zd.new w115 [.slice none 0 0,.slice none 0 0,.int .i64 0,.int .i64 0,.slice (some ⟨gc,0,none⟩) 1 1,.int .i64 0,.int .i64 0,.slice none 0 0] 53);replace HX:=zj HX hA;replace HBX:=zH (HBX.out.keep hA (zd.lt HBX.out));replace HO:=zH (zT HO.out hA (q0o HO.out));replace HC:=zH (HC.out.keep hA (zd.lt HC.out));clear hA;generalize w115.alloc (.cells #[.slice none 0 0,.slice none 0 0,.int .i64 0,.int .i64 0,.slice (some ⟨gc,0,none⟩) 1 1,.int .i64 0,.int .i64 0,.slice none 0 0] 53)=w116 at HX HBX HT HO HC⊢;generalize w115.heap.size=gt at HT⊢
     exact VB
    ·go_simp;have hA:Below w114.heap.size w114 (w114.alloc (.cells #[.slice none 0 0,.slice none 0 0,.int .i64 0,.int .i64 0,.slice (some ⟨gc,0,none⟩) 1 1,.int .i64 0,.int .i64 0,.slice none 0 0] 53)):=(zb _ _).alloc (zn _) _;have HT:Hid (zd (w114.alloc (.cells #[.slice none 0 0,.slice none 0 0,.int .i64 0,.int .i64 0,.slice (some ⟨gc,0,none⟩) 1 1,.int .i64 0,.int .i64 0,.slice none 0 0] 53)) w114.heap.size [.slice none 0 0,.slice none 0 0,.int .i64 0,.int .i64 0,.slice (some ⟨gc,0,none⟩) 1 1,.int .i64 0,.int .i64 0,.slice none 0 0] 53):=zH (zd.new w114 [.slice none 0 0,.slice none 0 0,.int .i64 0,.int .i64 0,.slice (some ⟨gc,0,none⟩) 1 1,.int .i64 0,.int .i64 0,.slice none 0 0] 53);replace HX:=zj HX hA;replace HBX:=zH (HBX.out.keep hA (zd.lt HBX.out));replace HC:=zH (HC.out.keep hA (zd.lt HC.out));clear hA;generalize w114.alloc (.cells #[.slice none 0 0,.slice none 0 0,.int .i64 0,.int .i64 0,.slice (some ⟨gc,0,none⟩) 1 1,.int .i64 0,.int .i64 0,.slice none 0 0] 53)=w118 at HX HBX HT HC⊢;generalize w114.heap.size=gt at HT⊢
     refine hK.out _ _ (HKS.out _ HX.out) (fun hHeld=> ?_);clear hK K;try simp only[sA,sB,sC,Act.put,sD,sE,sF]
     refine wpAnyH_ready (rs:=[2]) (by kernel_rfl) (by simp) ?_;refine AllReadyH.cons (o:=_) rfl (fun K hK=> ?_) AllReadyH.nil;go_simp;(go_at_call 201;(with_reducible refine(VM HZN HLZ1 HX HSZ1 (zH h0) (zH (by omega))).mono ?_);rintro e w119 ⟨gi,ci,rfl,ho,hA⟩;have HO:=zH (ja ho HX.out.size);replace HX:=zj HX hA;replace HBX:=zH (HBX.out.keep hA (zd.lt HBX.out));replace HC:=zH (HC.out.keep hA (zd.lt HC.out));replace HT:=zH (HT.out.keep hA (zd.lt HT.out));clear ho hA)
     exact VB
   ·go_simp;have hA:Below w114.heap.size w114 (w114.alloc (.cells #[.slice none 0 0,.slice none 0 0,.int .i64 0,.int .i64 0,.slice (some ⟨gc,0,none⟩) 1 1,.int .i64 0,.int .i64 0,.slice none 0 0] 53)):=(zb _ _).alloc (zn _) _;have HT:Hid (zd (w114.alloc (.cells #[.slice none 0 0,.slice none 0 0,.int .i64 0,.int .i64 0,.slice (some ⟨gc,0,none⟩) 1 1,.int .i64 0,.int .i64 0,.slice none 0 0] 53)) w114.heap.size [.slice none 0 0,.slice none 0 0,.int .i64 0,.int .i64 0,.slice (some ⟨gc,0,none⟩) 1 1,.int .i64 0,.int .i64 0,.slice none 0 0] 53):=zH (zd.new w114 [.slice none 0 0,.slice none 0 0,.int .i64 0,.int .i64 0,.slice (some ⟨gc,0,none⟩) 1 1,.int .i64 0,.int .i64 0,.slice none 0 0] 53);replace HX:=zj HX hA;replace HBX:=zH (HBX.out.keep hA (zd.lt HBX.out));replace HC:=zH (HC.out.keep hA (zd.lt HC.out));clear hA;generalize w114.alloc (.cells #[.slice none 0 0,.slice none 0 0,.int .i64 0,.int .i64 0,.slice (some ⟨gc,0,none⟩) 1 1,.int .i64 0,.int .i64 0,.slice none 0 0] 53)=w121 at HX HBX HT HC⊢;generalize w114.heap.size=gt at HT⊢
    refine hK.out _ _ (HKS.out _ HX.out) (fun hHeld=> ?_);clear hK K;try simp only[sA,sB,sC,Act.put,sD,sE,sF]
    refine wpAnyH_ready (rs:=[1]) (by kernel_rfl) (by simp) ?_;refine AllReadyH.cons (o:=_) rfl (fun K hK=> ?_) AllReadyH.nil;have q3:=HBX.out.cells 3 _ rfl;go_simp;clear q3;refine hK.out _ _ (HKS.out _ HX.out) (fun hHeld=> ?_);clear hK K;try simp only[sA,sB,sC,Act.put,sD,sE,sF]
    refine wpAnyH_ready (rs:=[2]) (by kernel_rfl) (by simp) ?_;refine AllReadyH.cons (o:=_) rfl (fun K hK=> ?_) AllReadyH.nil;go_simp;(go_at_call 201;(with_reducible refine(VM HZN HLZ1 HX HSZ1 (zH h0) (zH (by omega))).mono ?_);rintro e w122 ⟨gi,ci,rfl,ho,hA⟩;have HO:=zH (ja ho HX.out.size);replace HX:=zj HX hA;replace HBX:=zH (HBX.out.keep hA (zd.lt HBX.out));replace HC:=zH (HC.out.keep hA (zd.lt HC.out));replace HT:=zH (HT.out.keep hA (zd.lt HT.out));clear ho hA)
    exact VB
 case rest=>
  obtain⟨g6,c6,gc,HS⟩:=hcut;have hlow:=HB1.out.trans (HS.out.low.mono (zn _));have HIX:=zH (HS.out.image HNN.out HI.out HZS.out hlow);obtain⟨L,hL⟩:∃L,jJ (qW m op a b) (m.methods.length:Int)=L:=⟨_,rfl⟩
  rw[hL]at HCR HCL HMOST;have HLC:=zH hL;have HLOW:=zH hlow;have HPT:Hid (∀t:Nat,t<n→wc.cell? ⟨g6,t*8+6,none⟩=some (.int .i64 (zw (qW m op a b) (t:Int)).pot)):=zH (fun t ht=>HS.out.pot HNN.out HZS.out.1 ht);have HGB:Hid (g6<wc.heap.size):=zH (q0o HS.out.row g6 rfl);have HBW:=zH HS.out.box;have hzb:=zd.lt HS.out.box;clear hL hlow;have q0:=HBW.out.cells 0 _ rfl;have q1:=HBW.out.cells 1 _ rfl;have q2:=HBW.out.cells 2 _ rfl;have q3:=HBW.out.cells 3 _ rfl;have q4:=HBW.out.cells 4 _ rfl;have q5:=HBW.out.cells 5 _ rfl;have q6:=HBW.out.cells 6 _ rfl;go_wp2_with(go_at_call 103;(with_reducible refine(qtm (h:=⟨A0,A1,A2,some adM,A4,k0,k1,k2,k3,k4⟩) HNN HIX HCO HLC).mono ?_);rintro e w7 ⟨A7,c7,rfl,hs,_,hb⟩;have HS7:=zH hs;have HX7:=zH hb;clear hs hb)
  clear q0 q1 q2 q3 q4 q5 q6;have hc1:=HS7.out.le;have hc2:=HS7.out.cap;have hLl:=HCL.out;go_loopw [6,25] (fun v i wr=>∃k:Nat,k≤L.length∧i= .int .i64 k∧v= .int .i64 (jb (qW m op a b) (L.take k))∧Hid (Below w7.heap.size w7 wr)) (fun _ i _=>L.length - (intOf i).toNat)
  case atStart=>exact⟨0,Xp _,rfl,rfl,zH (zb _ _)⟩
  case round=>
   obtain⟨k,hk,rfl,rfl,HY⟩:=hrel;by_cases hlt:k<L.length
   ·have hkl:(k:Int)<(L.length:Int):=by omega
    obtain⟨ad,rfl,hab,hc0⟩:=HS7.out.row.at_ hlt;have hcr:=HCR.out _ (Xf hlt);have HTK:=zH (qcy (m:=qW m op a b) hlt);replace hc0:w7.cell? (ad.add k)=some (.int .i64 L[k]):=by have:=hc0;rw[Xz]at this;exact this
    obtain⟨t,ht⟩:=Xq hcr.1;rw[ht]at hc0 hcr HTK;have hnn:=HNN.out;have htn:t<n:=by omega
    have hti:(t:Int)<((n+1:Nat):Int):=by omega
    have hti2:(t:Int)<(n:Int)+1:=by omega
    have hX:=HX7.out.trans (HY.out.mono HX7.out.size);have c1:=(HY.out.cell (p:=ad.add k) (by rw[zu];exact hab)).trans hc0;have c2:=(hX.cell (p:=⟨g6,t*8+6,none⟩) HGB.out).trans (HPT.out t htn);have q3:=(hX.cell (p:=⟨w.heap.size,3,none⟩) hzb).trans (HBW.out.cells 3 _ rfl);unfold jZ at HTK;generalize jb (qW m op a b) (L.take k)=M at*
    generalize(zw (qW m op a b) (t:Int)).pot=P at*
    obtain⟨v,hv⟩:∃v,(if P>M then P else M)=v:=⟨_,rfl⟩
    have hmax:max M P=v:=by rw[Int.max_def,←hv];split<;>split<;>omega
    rw[hv]at HTK;clear hX hc0 ht hnn hcr;go_wp2_with fail
    go_roundw;case rel=>exact⟨k+1,by omega,by go_num,by rw[HTK.out],HY⟩
    case measure=>simp[intOf];omega
   ·obtain rfl:k=L.length:=by omega
    rw[XU,HMOST.out];go_wp2_with fail
    go_ret;exact⟨rfl,HLOW.out.trans ((HX7.out.trans (HY.out.mono HX7.out.size)).mono HLOW.out.size)⟩
theorem qd0{m:za}{n:Nat}{op a b v:Int}{h:zi}{w0 w:World}(HI:Hid (zm w0 w0.heap.size h m))(HX:Hid (Below w0.heap.size w0 w))(HN:Hid (m.methods.length=n))(HC:Hid (m.classes.length≤1000∧n≤1000∧0<n∧(∀x ∈m.methods,x.code.length≤1048576)∧∀t ∈qp m op a b,0≤t∧t<m.methods.length))(HV:Hid (jb m (qp m op a b)=v)):
  Calls Tryz.prog 188 #[zp h m,zF op a b] w fun e w'=>e= .returned (.int .i64 v)∧Below w.heap.size w w':=by
 have H:=qo3 m n op a b h w (HI.out.now HX.out) HN.out HC.out.1 HC.out.2.1 HC.out.2.2.1 HC.out.2.2.2.1 HC.out.2.2.2.2;rw[HV.out]at H;exact H
theorem qti{m:za}{c v:Int}{h:zi}{w0 w:World}(HI:Hid (zm w0 w0.heap.size h m))(HX:Hid (Below w0.heap.size w0 w))(HC:Hid (m.classes.length≤1000∧∀x ∈m.classes,x.fields.length≤1000))(HV:Hid (1+((qh m.classes c).length:Int)=v)):
  Calls Tryz.prog 187 #[zp h m,.int .i64 c] w fun e w'=>e= .returned (.int .i64 v)∧Below w.heap.size w w':=by
 have H:=qq9 m c h w (HI.out.now HX.out) HC.out.1 HC.out.2;rw[HV.out]at H;exact H
set_option maxHeartbeats 3200000 in
theorem qo5(m:za)(x:zh)(op a b:Int)(h:zi)(w:World)(H:zm w w.heap.size h m)(hm:zN m)(hx:x ∈m.methods)(hi:(op,a,b) ∈x.code):
  Calls Tryz.prog 147 #[zp h m,zF op a b] w fun e w'=>e= .returned (.int .i64 (kd m op a b))∧Below w.heap.size w w':=by
 have hs:=q2b ((hm.method hx).fits.ct _ hi);dsimp only at hs;obtain⟨n,hn⟩:∃n,m.methods.length=n:=⟨_,rfl⟩
 have hnp:0<n:=by rw[←hn];exact List.length_pos_of_mem hx
 have HC1:Hid (m.classes.length≤1000∧∀x ∈m.classes,x.fields.length≤1000):=zH ⟨by have:=hm.fits.cl;omega,fun c hc=>by have:=(hm.fits.ct c hc).fl;omega⟩;have HC2:Hid (m.classes.length≤1000∧n≤1000∧0<n∧(∀x ∈m.methods,x.code.length≤1048576)∧∀t ∈qp m op a b,0≤t∧t<m.methods.length):=zH ⟨by have:=hm.fits.cl;omega,by have:=hm.fits.ml;omega,hnp,fun y hy=>by have:=(hm.method hy).fits.cl;omega,q94 hm hx hi⟩;have HN:=zH hn;obtain⟨V,hV⟩:∃V,kd m op a b=V:=⟨_,rfl⟩
 have HV:=zH hV;rw[hV];obtain⟨hq,hc,hb,hz⟩:=VK h m op a b w;have HW:=zH hb;have HC:=zH hc;have HBX:=zH hq;have HIM:=zH (H.now hb);clear hb hq hc hz H hn hV hm hx hi hnp;go_enter Tryz.func147,Tryz.ntmps147;go_upto_region 1 with fail
 generalize(w.alloc (zg h m)).alloc (.cells #[.int .i64 op,.int .i64 a,.int .i64 b] 55)=w1 at*
 have HX0:Hid (Below w1.heap.size w1 w1):=zH (zb _ _);obtain⟨q0,q1,q2,q3,q4,q5,q6⟩:=HBX.out;have j0:=HC.out 0 _ rfl;have j1:=HC.out 1 _ rfl;have j2:=HC.out 2 _ rfl;by_cases h22:op=22
 ·subst h22;have HV1:Hid (1+((qh m.classes a).length:Int)=V):=zH (by have:=HV.out;unfold kd at this;rw[Xb rfl]at this;exact this);go_wp2_with(go_at_call 187;(with_reducible refine(qti HIM HX0 HC1 HV1).mono ?_);rintro e w5 ⟨rfl,hb⟩;have HX:=zH hb;clear hb)
  go_ret;exact⟨rfl,HW.out.trans (HX.out.mono HW.out.size)⟩
 by_cases h23:op=23
 ·subst h23;have e:1+a=V:=by have:=HV.out;unfold kd at this;rw[Xa (by decide),Xb rfl]at this;exact this
  subst e;go_wp2_with fail
  go_ret;exact⟨rfl,HW.out⟩
 have e:jb m (qp m op a b)=V:=by have:=HV.out;unfold kd at this;rw[Xa h22,Xa h23]at this;exact this
 by_cases h31:op=31
 ·subst h31;have HV1:=zH e;clear e;go_wp2_with(go_at_call 188;(with_reducible refine(qd0 HIM HX0 HN HC2 HV1).mono ?_);rintro e w5 ⟨rfl,hb⟩;have HX:=zH hb;clear hb)
  go_ret;exact⟨rfl,HW.out.trans (HX.out.mono HW.out.size)⟩
 by_cases h32:op=32
 ·subst h32;have HV1:=zH e;clear e;go_wp2_with(go_at_call 188;(with_reducible refine(qd0 HIM HX0 HN HC2 HV1).mono ?_);rintro e w5 ⟨rfl,hb⟩;have HX:=zH hb;clear hb)
  go_ret;exact⟨rfl,HW.out.trans (HX.out.mono HW.out.size)⟩
 have e0:0=V:=by
  rw[←e];unfold qp;rw[Xa h31,Xa h32];rfl
 subst e0;clear e;go_wp2_with fail
 go_ret;exact⟨rfl,HW.out⟩
theorem qs6{m:za}{x:zh}{op a b v:Int}{h:zi}{w0 w:World}(HI:Hid (zm w0 w0.heap.size h m))(HX:Hid (Below w0.heap.size w0 w))(HM:Hid (zN m))(HXM:Hid (x ∈m.methods))(HC:Hid ((op,a,b) ∈x.code))(HV:Hid (kd m op a b=v)):
  Calls Tryz.prog 147 #[zp h m,zF op a b] w fun e w'=>e= .returned (.int .i64 v)∧Below w.heap.size w w':=by
 have H:=qo5 m x op a b h w (HI.out.now HX.out) HM.out HXM.out HC.out;rw[HV.out]at H;exact H
end Go.Proofs.YtcmiljnbmgkdnaaGreat
