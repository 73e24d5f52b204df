import Derived.Test.YtcmiljnbmgkdnaaGreatFA09
namespace Go.Proofs.YtcmiljnbmgkdnaaGreat
set_option maxRecDepth 100000
set_option linter.unusedVariables false
set_option linter.unusedSimpArgs false
open Go.ChangeShapes Go.WideShapes Go.ChangeAt Go.RowKit
def ZM(m:za)(x:zf):Bool:=x.code.all fun i=>zC m x i.1 i.2.1 i.2.2
def vY(r:Int×Int)(n:Int):Bool:=decide (r=(5,0))||qA r.1 r.2 n
def qu(m:za)(x:zf):Bool:=
 js x.args m.classes.length&& (js x.locals m.classes.length&& (vY x.ret m.classes.length&& (decide (¬x.code.length=0)&& (decide (x.phi.length=x.code.length)&& (decide (x.args.length+x.locals.length≤8)&& ZM m x)))))
theorem q1i(w:World)(vs us:List Value)(T U:TypeId):
  zW ((w.alloc (.cells vs.toArray T)).alloc (.cells us.toArray U)) w.heap.size vs∧zW ((w.alloc (.cells vs.toArray T)).alloc (.cells us.toArray U)) (w.heap.size+1) us∧
  Below w.heap.size w ((w.alloc (.cells vs.toArray T)).alloc (.cells us.toArray U))∧((w.alloc (.cells vs.toArray T)).alloc (.cells us.toArray U)).heap.size=w.heap.size+2:=by
 have z1:(w.alloc (.cells vs.toArray T)).heap.size=w.heap.size+1:=by simp
 have z2:((w.alloc (.cells vs.toArray T)).alloc (.cells us.toArray U)).heap.size=w.heap.size+2:=by simp
 have b2:Below (w.heap.size+1) (w.alloc (.cells vs.toArray T)) ((w.alloc (.cells vs.toArray T)).alloc (.cells us.toArray U)):=(zb _ _).alloc (by omega) _;have h1:=qa w vs T;have h2:=qa (w.alloc (.cells vs.toArray T)) us U;rw[z1]at h2;exact⟨h1.keep b2 (by omega),h2,((zb _ _).alloc (zn _) _).trans (b2.mono (by omega)),z2⟩
theorem Qa{m:za}{l:List (Int×Int)}{h:zg}{A:Option Addr}{cap:Nat}{w0 w:World}{r:Bool}(HI:Hid (zi w0 w0.heap.size h m))(HL:Hid (zd zh 2 w0 w0.heap.size A cap l))(HX:Hid (Below w0.heap.size w0 w))(HR:Hid (js l m.classes.length=r)):
  Calls Tryz.prog 53 #[zk h m,.slice A l.length cap] w fun e w'=>e= .returned (.bool r)∧Below w.heap.size w w':=by
 have H:=qi8 m l h A cap w (HI.out.now HX.out) ((HL.out.below_to zh.keeps HX.out (zn _)).keep' zh.keeps HX.out.size (fun _ _=>rfl));rw[HR.out]at H;exact H
theorem q60{x y n:Int}{w:World}{r:Bool}(HR:Hid (qA x y n=r)):Calls Tryz.prog 97 #[zA x y,.int .i64 n] w fun e w'=>e= .returned (.bool r)∧Below w.heap.size w w':=by
 have H:=q4n x y n w;rw[HR.out]at H;exact H
structure Ql(m:za):Prop where
 n:m.classes.length≤1000
 f:∀x ∈m.classes,x.fields.length≤1000
structure JI(x:zf):Prop where
 a:x.args.length≤1000
 l:x.locals.length≤1000
 c:∀i ∈x.code,0≤i.2.1
theorem q2k{m:za}{x:zf}{op a b:Int}{h:zg}{hx:qh}{w0 w:World}{r:Bool}(HI:Hid (zi w0 w0.heap.size h m))(HM:Hid (qL w0 w0.heap.size hx x))(HX:Hid (Below w0.heap.size w0 w))(HT:Hid (Ql m))(HU:Hid (JI x))(H0:Hid (0≤a))(HR:Hid (zC m x op a b=r)):
  Calls Tryz.prog 99 #[zk h m,jH hx x,zz op a b] w fun e w'=>e= .returned (.bool r)∧Below w.heap.size w w':=by
 have H:=qi5 m x op a b h hx w (HI.out.now HX.out) (HM.out.now HX.out) H0.out HT.out.n HT.out.f HU.out.a HU.out.l;rw[HR.out]at H;exact H
theorem Jj{P:Prop}(h:P:=by
 go_wp2_with((first|(go_at_call 53;(with_reducible refine(Qa HI HSa HX D1).mono ?_))|(go_at_call 53;(with_reducible refine(Qa HI HSl HX D2).mono ?_))|(go_at_call 97;(with_reducible refine(q60 D3).mono ?_)));rintro e w5 ⟨rfl,hb⟩;have HX:=zl HX hb;obtain⟨kq0,kq1,kq2,kq3,kq4,kq5,kq6⟩:=qt (HQ.out.keep HX.out HQZ.out);obtain⟨kp0,kp1,kp2,kp3,kp4,kp5,kp6,kp7⟩:=ck8 (HP.out.keep HX.out HPZ.out);clear hb)
 go_ret;exact⟨by rw[E2.out];rfl,HW.out.trans (HX.out.mono HZw.out)⟩):P:=h
set_option maxHeartbeats 3200000 in
theorem qga(m:za)(x:zf)(h:zg)(hx:qh)(w:World)(H:zi w w.heap.size h m)(H':qL w w.heap.size hx x)(ht:Ql m)(hu:JI x):
  Calls Tryz.prog 55 #[zk h m,jH hx x] w fun e w'=>e= .returned (.bool (qu m x))∧Below w.heap.size w w':=by
 obtain⟨hq,hp,hb,hz⟩:=q1i w (jY h m) (zL hx x) 28 53;have HQ:=zH hq;have HP:=zH hp;have HW:=zH hb;have HI:=zH (H.now hb);have HM:=zH (H'.now hb);have HT:=zH ht;have HU:=zH hu;have HQZ:Hid (w.heap.size<((w.alloc (.cells (jY h m).toArray 28)).alloc (.cells (zL hx x).toArray 53)).heap.size):=zH (by omega);have HPZ:Hid (w.heap.size+1<((w.alloc (.cells (jY h m).toArray 28)).alloc (.cells (zL hx x).toArray 53)).heap.size):=zH (by omega);have HZw:Hid (w.heap.size≤((w.alloc (.cells (jY h m).toArray 28)).alloc (.cells (zL hx x).toArray 53)).heap.size):=zH (by omega);have l0:=H.classes.le;have l0c:=H.classes.cap;have m1:=hu.a;have m2:=hu.l;have m3:=H'.phi.le;have m3c:=H'.phi.cap;have m4:=H'.code.le;have m4c:=H'.code.cap;clear hq hp hb hz H H' ht hu;go_enter Tryz.func55,Tryz.ntmps55;go_upto_region 1 with fail
 generalize(w.alloc (.cells (jY h m).toArray 28)).alloc (.cells (zL hx x).toArray 53)=w1 at*
 have HX:Hid (Below w1.heap.size w1 w1):=zH (zb _ _);have HSa:=zH HM.out.args;have HSl:=zH HM.out.locals;obtain⟨xa,xl,⟨xr0,xr1⟩,xc,xd,xp,xh⟩:=x;dsimp only at m1 m2 m3 m4 HSa HSl;obtain⟨kq0,kq1,kq2,kq3,kq4,kq5,kq6⟩:=qt (HQ.out.keep HX.out HQZ.out);obtain⟨kp0,kp1,kp2,kp3,kp4,kp5,kp6,kp7⟩:=ck8 (HP.out.keep HX.out HPZ.out);dsimp only at kp0 kp1 kp2 kp3 kp4 kp5 kp6 kp7;obtain⟨d1,hd1⟩:∃d,js xa m.classes.length=d:=⟨_,rfl⟩
 have D1:=zH hd1;obtain⟨d2,hd2⟩:∃d,js xl m.classes.length=d:=⟨_,rfl⟩
 have D2:=zH hd2;clear hd1 hd2;cases d1;have E2:=zH (show qu m ⟨xa,xl,(xr0,xr1),xc,xd,xp,xh⟩=false by unfold qu;rw[D1.out];rfl);rotate_left;cases d2;have E2:=zH (show qu m ⟨xa,xl,(xr0,xr1),xc,xd,xp,xh⟩=false by unfold qu;rw[D1.out,D2.out];rfl);rotate_left;rotate_left;iterate 2
  ·exact Jj
 by_cases hr5:xr0=5∧xr1=0
 ·obtain⟨rfl,rfl⟩:=hr5;have HRB:=zH (show vY (5,0) m.classes.length=true from rfl);by_cases c1:¬xc.length=0;rotate_left
  ·have ct1:((xc.length:Int)==0)=true:=X6.mpr (by omega);have E2:=zH (show qu m ⟨xa,xl,(5,0),xc,xd,xp,xh⟩=false by unfold qu;rw[Xf (by simpa using c1)];simp);exact Jj
  have ct1:((xc.length:Int)==0)=false:=XK.mpr (by omega);have Cc1:=zH c1;clear c1;by_cases c2:xh.length=xc.length;rotate_left
  ·have ct2:((xh.length:Int) !=(xc.length:Int))=true:=bne_iff_ne.mpr (by omega);have E2:=zH (show qu m ⟨xa,xl,(5,0),xc,xd,xp,xh⟩=false by unfold qu;rw[Xf (p:=xh.length=xc.length) c2];simp);exact Jj
  have ct2:((xh.length:Int) !=(xc.length:Int))=false:=bne_eq_false_iff_eq.mpr (by omega);have Cc2:=zH c2;clear c2;by_cases c3:xa.length+xl.length≤8;rotate_left
  ·have ct3:(8:Int)<(xa.length:Int)+(xl.length:Int):=by omega
   have E2:=zH (show qu m ⟨xa,xl,(5,0),xc,xd,xp,xh⟩=false by unfold qu;rw[Xf (p:=xa.length+xl.length≤8) c3];simp);exact Jj
  have ct3:¬(8:Int)<(xa.length:Int)+(xl.length:Int):=by omega
  have Cc3:=zH c3;clear c3;go_wp2_with((first|(go_at_call 53;(with_reducible refine(Qa HI HSa HX D1).mono ?_))|(go_at_call 53;(with_reducible refine(Qa HI HSl HX D2).mono ?_))|(go_at_call 97;(with_reducible refine(q60 D3).mono ?_)));rintro e w5 ⟨rfl,hb⟩;have HX:=zl HX hb;obtain⟨kq0,kq1,kq2,kq3,kq4,kq5,kq6⟩:=qt (HQ.out.keep HX.out HQZ.out);obtain⟨kp0,kp1,kp2,kp3,kp4,kp5,kp6,kp7⟩:=ck8 (HP.out.keep HX.out HPZ.out);clear hb)
  go_loopw [5] (fun i wr=>∃k:Nat,k≤xc.length∧i= .int .i64 k∧Hid (∀i ∈xc.take k,zC m ⟨xa,xl,(5,0),xc,xd,xp,xh⟩ i.1 i.2.1 i.2.2=true)∧Hid (Below w1.heap.size w1 wr)) (fun i _=>xc.length - (intOf i).toNat)
  case atStart=>exact⟨0,by omega,rfl,zH (by simp),HX⟩
  case round=>
   clear HX kq0 kq1 kq2 kq3 kq4 kq5 kq6 kp0 kp1 kp2 kp3 kp4 kp5 kp6 kp7;obtain⟨k,hk,rfl,HN,HX⟩:=hrel;obtain⟨kq0,kq1,kq2,kq3,kq4,kq5,kq6⟩:=qt (HQ.out.keep HX.out HQZ.out);obtain⟨kp0,kp1,kp2,kp3,kp4,kp5,kp6,kp7⟩:=ck8 (HP.out.keep HX.out HPZ.out);have b1:=HM.out.code.le;have b2:=HM.out.code.cap;by_cases hlt:k<xc.length
   ·obtain⟨ad,e0,hab,hc⟩:=HM.out.code.row.at_ hlt;have HA4:=zH e0;have HM2:Hid (qL w1 w1.heap.size ⟨hx.A0,hx.A1,some ad,hx.A7,hx.k0,hx.k1,hx.k4,hx.k7⟩ ⟨xa,xl,(5,0),xc,xd,xp,xh⟩):=zH (by rw[←e0];exact HM.out);try dsimp only at e0
    rw[e0]at kp4;clear e0;have HNO:=zH (fun g:(fun i:Int×Int×Int=>zC m ⟨xa,xl,(5,0),xc,xd,xp,xh⟩ i.1 i.2.1 i.2.2) xc[k]=false=>(vb hlt g:ZM m ⟨xa,xl,(5,0),xc,xd,xp,xh⟩=false));have HYE:=zH (fun g:(fun i:Int×Int×Int=>zC m ⟨xa,xl,(5,0),xc,xd,xp,xh⟩ i.1 i.2.1 i.2.2) xc[k]=true=>jT hlt HN.out g);have H0:=zH (HU.out.c _ (Xd hlt));generalize xc[k]=ins at*
    obtain⟨op,a,b⟩:=ins;have HR:Hid (∀W,Below w1.heap.size w1 W→W.cell? (ad.add (k*3))=some (.int .i64 op)∧W.cell? (zc (ad.add (k*3)) 1)=some (.int .i64 a)∧W.cell? (zc (ad.add (k*3)) 2)=some (.int .i64 b)):=zH (fun W hW=>jb.keeps (x:=(op,a,b)) hc (by rw[zp];exact hab) (zn _) (fun _ hq=>hW.cell hq));obtain⟨t0,t1,t2⟩:=HR.out _ HX.out;have HXd:=zH HX.out.drew;obtain⟨g,hg⟩:∃g,zC m ⟨xa,xl,(5,0),xc,xd,xp,xh⟩ op a b=g:=⟨_,rfl⟩
    have G:=zH hg;clear hg hc;cases g
    ·have E2:=zH (show qu m ⟨xa,xl,(5,0),xc,xd,xp,xh⟩=false by unfold qu;rw[show ZM m ⟨xa,xl,(5,0),xc,xd,xp,xh⟩=false from HNO.out G.out];simp);go_wp2_with fail
     go_region_held3 (fun w'=>w'.cell? ⟨w.heap.size,0,none⟩=some (.slice h.A0 m.classes.length h.c0)∧w'.cell? ⟨w.heap.size,1,none⟩=some (.slice h.A1 m.statics.length h.c1)∧w'.cell? ⟨w.heap.size,2,none⟩=some (.slice h.A2 m.ints.length h.c2)∧w'.cell? ⟨w.heap.size,3,none⟩=some (.slice h.A3 m.methods.length h.c3)∧w'.cell? ⟨w.heap.size,4,none⟩=some (.slice h.A4 m.entries.length h.c4)∧w'.cell? ⟨w.heap.size,5,none⟩=some (.int .i64 m.stack)∧w'.cell? ⟨w.heap.size,6,none⟩=some (.int .i64 m.heap)∧w'.cell? ⟨w.heap.size+1,0,none⟩=some (.slice hx.A0 xa.length hx.k0)∧w'.cell? ⟨w.heap.size+1,1,none⟩=some (.slice hx.A1 xl.length hx.k1)∧w'.cell? ⟨w.heap.size+1,2,none⟩=some (.int .i64 5)∧w'.cell? ⟨w.heap.size+1,3,none⟩=some (.int .i64 0)∧w'.cell? ⟨w.heap.size+1,4,none⟩=some (.slice (some ad) xc.length hx.k4)∧w'.cell? ⟨w.heap.size+1,5,none⟩=some (.int .i64 xd)∧w'.cell? ⟨w.heap.size+1,6,none⟩=some (.int .i64 xp)∧w'.cell? ⟨w.heap.size+1,7,none⟩=some (.slice hx.A7 xh.length hx.k7)∧w'.cell? (ad.add (k*3))=some (.int .i64 op)∧w'.cell? (zc (ad.add (k*3)) 1)=some (.int .i64 a)∧w'.cell? (zc (ad.add (k*3)) 2)=some (.int .i64 b)) (first|exact⟨kq0,kq1,kq2,kq3,kq4,kq5,kq6,kp0,kp1,kp2,kp3,kp4,kp5,kp6,kp7,t0,t1,t2⟩) (first|(go_at_call 99;(with_reducible refine(q2k HI HM2 HXd HT HU H0 G).mono ?_);rintro e w5 ⟨rfl,hb⟩;have HX:=zl HXd hb;obtain⟨kq0,kq1,kq2,kq3,kq4,kq5,kq6⟩:=qt (HQ.out.keep HX.out HQZ.out);obtain⟨kp0,kp1,kp2,kp3,kp4,kp5,kp6,kp7⟩:=ck8 (HP.out.keep HX.out HPZ.out);rw[HA4.out]at kp4;obtain⟨t0,t1,t2⟩:=HR.out _ HX.out;clear hb))
     go_wp2_with fail
     go_ret;exact⟨by rw[E2.out];rfl,HW.out.trans (HX.out.mono HZw.out)⟩
    ·have E2:=zH (HYE.out G.out);go_wp2_with fail
     go_region_held3 (fun w'=>w'.cell? ⟨w.heap.size,0,none⟩=some (.slice h.A0 m.classes.length h.c0)∧w'.cell? ⟨w.heap.size,1,none⟩=some (.slice h.A1 m.statics.length h.c1)∧w'.cell? ⟨w.heap.size,2,none⟩=some (.slice h.A2 m.ints.length h.c2)∧w'.cell? ⟨w.heap.size,3,none⟩=some (.slice h.A3 m.methods.length h.c3)∧w'.cell? ⟨w.heap.size,4,none⟩=some (.slice h.A4 m.entries.length h.c4)∧w'.cell? ⟨w.heap.size,5,none⟩=some (.int .i64 m.stack)∧w'.cell? ⟨w.heap.size,6,none⟩=some (.int .i64 m.heap)∧w'.cell? ⟨w.heap.size+1,0,none⟩=some (.slice hx.A0 xa.length hx.k0)∧w'.cell? ⟨w.heap.size+1,1,none⟩=some (.slice hx.A1 xl.length hx.k1)∧w'.cell? ⟨w.heap.size+1,2,none⟩=some (.int .i64 5)∧w'.cell? ⟨w.heap.size+1,3,none⟩=some (.int .i64 0)∧w'.cell? ⟨w.heap.size+1,4,none⟩=some (.slice (some ad) xc.length hx.k4)∧w'.cell? ⟨w.heap.size+1,5,none⟩=some (.int .i64 xd)∧w'.cell? ⟨w.heap.size+1,6,none⟩=some (.int .i64 xp)∧w'.cell? ⟨w.heap.size+1,7,none⟩=some (.slice hx.A7 xh.length hx.k7)∧w'.cell? (ad.add (k*3))=some (.int .i64 op)∧w'.cell? (zc (ad.add (k*3)) 1)=some (.int .i64 a)∧w'.cell? (zc (ad.add (k*3)) 2)=some (.int .i64 b)) (first|exact⟨kq0,kq1,kq2,kq3,kq4,kq5,kq6,kp0,kp1,kp2,kp3,kp4,kp5,kp6,kp7,t0,t1,t2⟩) (first|(go_at_call 99;(with_reducible refine(q2k HI HM2 HXd HT HU H0 G).mono ?_);rintro e w5 ⟨rfl,hb⟩;have HX:=zl HXd hb;obtain⟨kq0,kq1,kq2,kq3,kq4,kq5,kq6⟩:=qt (HQ.out.keep HX.out HQZ.out);obtain⟨kp0,kp1,kp2,kp3,kp4,kp5,kp6,kp7⟩:=ck8 (HP.out.keep HX.out HPZ.out);rw[HA4.out]at kp4;obtain⟨t0,t1,t2⟩:=HR.out _ HX.out;clear hb))
     go_wp2_with fail
     go_roundw;case rel=>exact⟨k+1,by omega,by go_num,E2,HX⟩
     case measure=>simp[intOf];omega
   ·have HCA:=zH (show ZM m ⟨xa,xl,(5,0),xc,xd,xp,xh⟩=true from vc (l:=xc) HN.out (by omega));have E2:=zH (show qu m ⟨xa,xl,(5,0),xc,xd,xp,xh⟩=true by unfold qu;rw[D1.out,D2.out,HRB.out,HCA.out,Xh Cc1.out,Xh Cc2.out,Xh Cc3.out];rfl);go_wp2_with fail
    go_ret;exact⟨by rw[E2.out];rfl,HW.out.trans (HX.out.mono HZw.out)⟩
 ·have hxx:¬xr0=5∨(xr0=5∧¬xr1=0):=by omega
  have HRB0:=zH (show vY (xr0,xr1) m.classes.length=qA xr0 xr1 m.classes.length by unfold vY;rw[Xf (by simpa using hr5)];rfl);clear hr5;obtain⟨d3,hd3⟩:∃d,qA xr0 xr1 m.classes.length=d:=⟨_,rfl⟩
  have D3:=zH hd3;rw[hd3]at HRB0;clear hd3;cases d3
  ·rcases hxx with hxx|⟨rfl,hxx⟩
   ·have E2:=zH (show qu m ⟨xa,xl,(xr0,xr1),xc,xd,xp,xh⟩=false by unfold qu;rw[D1.out,D2.out,HRB0.out];rfl);exact Jj
   ·have E2:=zH (show qu m ⟨xa,xl,(5,xr1),xc,xd,xp,xh⟩=false by unfold qu;rw[D1.out,D2.out,HRB0.out];rfl);exact Jj
  ·have HRB:=HRB0;rcases hxx with hxx|⟨rfl,hxx⟩
   ·by_cases c1:¬xc.length=0;rotate_left
    ·have ct1:((xc.length:Int)==0)=true:=X6.mpr (by omega);have E2:=zH (show qu m ⟨xa,xl,(xr0,xr1),xc,xd,xp,xh⟩=false by unfold qu;rw[Xf (by simpa using c1)];simp);exact Jj
    have ct1:((xc.length:Int)==0)=false:=XK.mpr (by omega);have Cc1:=zH c1;clear c1;by_cases c2:xh.length=xc.length;rotate_left
    ·have ct2:((xh.length:Int) !=(xc.length:Int))=true:=bne_iff_ne.mpr (by omega);have E2:=zH (show qu m ⟨xa,xl,(xr0,xr1),xc,xd,xp,xh⟩=false by unfold qu;rw[Xf (p:=xh.length=xc.length) c2];simp);exact Jj
    have ct2:((xh.length:Int) !=(xc.length:Int))=false:=bne_eq_false_iff_eq.mpr (by omega);have Cc2:=zH c2;clear c2;by_cases c3:xa.length+xl.length≤8;rotate_left
    ·have ct3:(8:Int)<(xa.length:Int)+(xl.length:Int):=by omega
     have E2:=zH (show qu m ⟨xa,xl,(xr0,xr1),xc,xd,xp,xh⟩=false by unfold qu;rw[Xf (p:=xa.length+xl.length≤8) c3];simp);exact Jj
    have ct3:¬(8:Int)<(xa.length:Int)+(xl.length:Int):=by omega
    have Cc3:=zH c3;clear c3;go_wp2_with((first|(go_at_call 53;(with_reducible refine(Qa HI HSa HX D1).mono ?_))|(go_at_call 53;(with_reducible refine(Qa HI HSl HX D2).mono ?_))|(go_at_call 97;(with_reducible refine(q60 D3).mono ?_)));rintro e w5 ⟨rfl,hb⟩;have HX:=zl HX hb;obtain⟨kq0,kq1,kq2,kq3,kq4,kq5,kq6⟩:=qt (HQ.out.keep HX.out HQZ.out);obtain⟨kp0,kp1,kp2,kp3,kp4,kp5,kp6,kp7⟩:=ck8 (HP.out.keep HX.out HPZ.out);clear hb)
    go_loopw [5] (fun i wr=>∃k:Nat,k≤xc.length∧i= .int .i64 k∧Hid (∀i ∈xc.take k,zC m ⟨xa,xl,(xr0,xr1),xc,xd,xp,xh⟩ i.1 i.2.1 i.2.2=true)∧Hid (Below w1.heap.size w1 wr)) (fun i _=>xc.length - (intOf i).toNat)
    case atStart=>exact⟨0,by omega,rfl,zH (by simp),HX⟩
    case round=>
     clear HX kq0 kq1 kq2 kq3 kq4 kq5 kq6 kp0 kp1 kp2 kp3 kp4 kp5 kp6 kp7;obtain⟨k,hk,rfl,HN,HX⟩:=hrel;obtain⟨kq0,kq1,kq2,kq3,kq4,kq5,kq6⟩:=qt (HQ.out.keep HX.out HQZ.out);obtain⟨kp0,kp1,kp2,kp3,kp4,kp5,kp6,kp7⟩:=ck8 (HP.out.keep HX.out HPZ.out);have b1:=HM.out.code.le;have b2:=HM.out.code.cap;by_cases hlt:k<xc.length
     ·obtain⟨ad,e0,hab,hc⟩:=HM.out.code.row.at_ hlt;have HA4:=zH e0;have HM2:Hid (qL w1 w1.heap.size ⟨hx.A0,hx.A1,some ad,hx.A7,hx.k0,hx.k1,hx.k4,hx.k7⟩ ⟨xa,xl,(xr0,xr1),xc,xd,xp,xh⟩):=zH (by rw[←e0];exact HM.out);try dsimp only at e0
      rw[e0]at kp4;clear e0;have HNO:=zH (fun g:(fun i:Int×Int×Int=>zC m ⟨xa,xl,(xr0,xr1),xc,xd,xp,xh⟩ i.1 i.2.1 i.2.2) xc[k]=false=>(vb hlt g:ZM m ⟨xa,xl,(xr0,xr1),xc,xd,xp,xh⟩=false));have HYE:=zH (fun g:(fun i:Int×Int×Int=>zC m ⟨xa,xl,(xr0,xr1),xc,xd,xp,xh⟩ i.1 i.2.1 i.2.2) xc[k]=true=>jT hlt HN.out g);have H0:=zH (HU.out.c _ (Xd hlt));generalize xc[k]=ins at*
      obtain⟨op,a,b⟩:=ins;have HR:Hid (∀W,Below w1.heap.size w1 W→W.cell? (ad.add (k*3))=some (.int .i64 op)∧W.cell? (zc (ad.add (k*3)) 1)=some (.int .i64 a)∧W.cell? (zc (ad.add (k*3)) 2)=some (.int .i64 b)):=zH (fun W hW=>jb.keeps (x:=(op,a,b)) hc (by rw[zp];exact hab) (zn _) (fun _ hq=>hW.cell hq));obtain⟨t0,t1,t2⟩:=HR.out _ HX.out;have HXd:=zH HX.out.drew;obtain⟨g,hg⟩:∃g,zC m ⟨xa,xl,(xr0,xr1),xc,xd,xp,xh⟩ op a b=g:=⟨_,rfl⟩
      have G:=zH hg;clear hg hc;cases g
      ·have E2:=zH (show qu m ⟨xa,xl,(xr0,xr1),xc,xd,xp,xh⟩=false by unfold qu;rw[show ZM m ⟨xa,xl,(xr0,xr1),xc,xd,xp,xh⟩=false from HNO.out G.out];simp);go_wp2_with fail
       go_region_held3 (fun w'=>w'.cell? ⟨w.heap.size,0,none⟩=some (.slice h.A0 m.classes.length h.c0)∧w'.cell? ⟨w.heap.size,1,none⟩=some (.slice h.A1 m.statics.length h.c1)∧w'.cell? ⟨w.heap.size,2,none⟩=some (.slice h.A2 m.ints.length h.c2)∧w'.cell? ⟨w.heap.size,3,none⟩=some (.slice h.A3 m.methods.length h.c3)∧w'.cell? ⟨w.heap.size,4,none⟩=some (.slice h.A4 m.entries.length h.c4)∧w'.cell? ⟨w.heap.size,5,none⟩=some (.int .i64 m.stack)∧w'.cell? ⟨w.heap.size,6,none⟩=some (.int .i64 m.heap)∧w'.cell? ⟨w.heap.size+1,0,none⟩=some (.slice hx.A0 xa.length hx.k0)∧w'.cell? ⟨w.heap.size+1,1,none⟩=some (.slice hx.A1 xl.length hx.k1)∧w'.cell? ⟨w.heap.size+1,2,none⟩=some (.int .i64 xr0)∧w'.cell? ⟨w.heap.size+1,3,none⟩=some (.int .i64 xr1)∧w'.cell? ⟨w.heap.size+1,4,none⟩=some (.slice (some ad) xc.length hx.k4)∧w'.cell? ⟨w.heap.size+1,5,none⟩=some (.int .i64 xd)∧w'.cell? ⟨w.heap.size+1,6,none⟩=some (.int .i64 xp)∧w'.cell? ⟨w.heap.size+1,7,none⟩=some (.slice hx.A7 xh.length hx.k7)∧w'.cell? (ad.add (k*3))=some (.int .i64 op)∧w'.cell? (zc (ad.add (k*3)) 1)=some (.int .i64 a)∧w'.cell? (zc (ad.add (k*3)) 2)=some (.int .i64 b)) (first|exact⟨kq0,kq1,kq2,kq3,kq4,kq5,kq6,kp0,kp1,kp2,kp3,kp4,kp5,kp6,kp7,t0,t1,t2⟩) (first|(go_at_call 99;(with_reducible refine(q2k HI HM2 HXd HT HU H0 G).mono ?_);rintro e w5 ⟨rfl,hb⟩;have HX:=zl HXd hb;obtain⟨kq0,kq1,kq2,kq3,kq4,kq5,kq6⟩:=qt (HQ.out.keep HX.out HQZ.out);obtain⟨kp0,kp1,kp2,kp3,kp4,kp5,kp6,kp7⟩:=ck8 (HP.out.keep HX.out HPZ.out);rw[HA4.out]at kp4;obtain⟨t0,t1,t2⟩:=HR.out _ HX.out;clear hb))
       go_wp2_with fail
       go_ret;exact⟨by rw[E2.out];rfl,HW.out.trans (HX.out.mono HZw.out)⟩
      ·have E2:=zH (HYE.out G.out);go_wp2_with fail
       go_region_held3 (fun w'=>w'.cell? ⟨w.heap.size,0,none⟩=some (.slice h.A0 m.classes.length h.c0)∧w'.cell? ⟨w.heap.size,1,none⟩=some (.slice h.A1 m.statics.length h.c1)∧w'.cell? ⟨w.heap.size,2,none⟩=some (.slice h.A2 m.ints.length h.c2)∧w'.cell? ⟨w.heap.size,3,none⟩=some (.slice h.A3 m.methods.length h.c3)∧w'.cell? ⟨w.heap.size,4,none⟩=some (.slice h.A4 m.entries.length h.c4)∧w'.cell? ⟨w.heap.size,5,none⟩=some (.int .i64 m.stack)∧w'.cell? ⟨w.heap.size,6,none⟩=some (.int .i64 m.heap)∧w'.cell? ⟨w.heap.size+1,0,none⟩=some (.slice hx.A0 xa.length hx.k0)∧w'.cell? ⟨w.heap.size+1,1,none⟩=some (.slice hx.A1 xl.length hx.k1)∧w'.cell? ⟨w.heap.size+1,2,none⟩=some (.int .i64 xr0)∧w'.cell? ⟨w.heap.size+1,3,none⟩=some (.int .i64 xr1)∧w'.cell? ⟨w.heap.size+1,4,none⟩=some (.slice (some ad) xc.length hx.k4)∧w'.cell? ⟨w.heap.size+1,5,none⟩=some (.int .i64 xd)∧w'.cell? ⟨w.heap.size+1,6,none⟩=some (.int .i64 xp)∧w'.cell? ⟨w.heap.size+1,7,none⟩=some (.slice hx.A7 xh.length hx.k7)∧w'.cell? (ad.add (k*3))=some (.int .i64 op)∧w'.cell? (zc (ad.add (k*3)) 1)=some (.int .i64 a)∧w'.cell? (zc (ad.add (k*3)) 2)=some (.int .i64 b)) (first|exact⟨kq0,kq1,kq2,kq3,kq4,kq5,kq6,kp0,kp1,kp2,kp3,kp4,kp5,kp6,kp7,t0,t1,t2⟩) (first|(go_at_call 99;(with_reducible refine(q2k HI HM2 HXd HT HU H0 G).mono ?_);rintro e w5 ⟨rfl,hb⟩;have HX:=zl HXd hb;obtain⟨kq0,kq1,kq2,kq3,kq4,kq5,kq6⟩:=qt (HQ.out.keep HX.out HQZ.out);obtain⟨kp0,kp1,kp2,kp3,kp4,kp5,kp6,kp7⟩:=ck8 (HP.out.keep HX.out HPZ.out);rw[HA4.out]at kp4;obtain⟨t0,t1,t2⟩:=HR.out _ HX.out;clear hb))
       go_wp2_with fail
       go_roundw;case rel=>exact⟨k+1,by omega,by go_num,E2,HX⟩
       case measure=>simp[intOf];omega
     ·have HCA:=zH (show ZM m ⟨xa,xl,(xr0,xr1),xc,xd,xp,xh⟩=true from vc (l:=xc) HN.out (by omega));have E2:=zH (show qu m ⟨xa,xl,(xr0,xr1),xc,xd,xp,xh⟩=true by unfold qu;rw[D1.out,D2.out,HRB.out,HCA.out,Xh Cc1.out,Xh Cc2.out,Xh Cc3.out];rfl);go_wp2_with fail
      go_ret;exact⟨by rw[E2.out];rfl,HW.out.trans (HX.out.mono HZw.out)⟩
   ·exact absurd D3.out (by simp[qA])
def codC(t:Int×Int×Int):List Value:=[.int .i64 t.1,.int .i64 t.2.1,.int .i64 t.2.2]
def QP(l:List (Int×Int×Int)):List Value:=l.flatMap codC
theorem addg(g n:Nat):(Addr.add ⟨g,0,none⟩ n)=⟨g,n,none⟩:=by
 unfold Addr.add;split
 ·rename_i h0;rw[h0]
 ·simp
end Go.Proofs.YtcmiljnbmgkdnaaGreat
