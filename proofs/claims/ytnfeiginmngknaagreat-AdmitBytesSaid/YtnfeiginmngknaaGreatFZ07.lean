import Derived.Deep.DeepCutAuto
import Derived.Test.YtnfeiginmngknaaGreatFZ04
namespace Go.Proofs.YtnfeiginmngknaaGreat
set_option maxRecDepth 100000
set_option linter.unusedVariables false
set_option linter.unusedSimpArgs false
open Go.ChangeShapes Go.WideShapes Go.ChangeAt Go.RowKit
def VB(m:za)(x:zl):Bool:=x.code.all fun i=>zK m x i.1 i.2.1 i.2.2
def Qu(r:Int×Int)(n:Int):Bool:=decide (r=(5,0))||jl r.1 r.2 n
def jK(m:za)(x:zl):Bool:=
 vC x.args m.classes.length&& (vC x.locals m.classes.length&& (Qu x.ret m.classes.length&& (decide (¬x.code.length=0)&& (decide (x.phi.length=x.code.length)&& (decide (x.args.length+x.locals.length<=8)&& VB m x)))))
theorem Dy(w:World)(vs us:List Value)(T U:TypeId):
  zQ ((w.alloc (.cells vs.toArray T)).alloc (.cells us.toArray U)) w.heap.size vs/\zQ ((w.alloc (.cells vs.toArray T)).alloc (.cells us.toArray U)) (w.heap.size+1) us/\
  Below w.heap.size w ((w.alloc (.cells vs.toArray T)).alloc (.cells us.toArray U))/\((w.alloc (.cells vs.toArray T)).alloc (.cells us.toArray U)).heap.size=w.heap.size+2:=by
 have z1:(w.alloc (.cells vs.toArray T)).heap.size=w.heap.size+1:=by simp
 have z2:((w.alloc (.cells vs.toArray T)).alloc (.cells us.toArray U)).heap.size=w.heap.size+2:=by simp
 have b2:Below (w.heap.size+1) (w.alloc (.cells vs.toArray T)) ((w.alloc (.cells vs.toArray T)).alloc (.cells us.toArray U)):=(zb _ _).alloc (by omega) _;have h1:=qr w vs T;have h2:=qr (w.alloc (.cells vs.toArray T)) us U;rw[z1]at h2;exact⟨h1.keep b2 (by omega),h2,(zk).trans (b2.mono (by omega)),z2⟩
theorem pY{m:za}{l:List (Int×Int)}{h:zh}{A:Option Addr}{cap:Nat}{w0 w:World}{r:Bool}(HI:Hid (zr w0 w0.heap.size h m))(HL:Hid (zd zf 2 w0 w0.heap.size A cap l))(HX:Hid (Below w0.heap.size w0 w))(HR:Hid (vC l m.classes.length=r)):
  Calls Tryz.prog 49 #[zv h m,.slice A l.length cap] w fun e w'=>e= .returned (.bool r)/\Below w.heap.size w w':=by
 have H:=q6u m l h A cap w (HI.out.now HX.out) ((HL.out.below_to zf.keeps HX.out (zn _)).keep' zf.keeps HX.out.size (fun _ _=>rfl));rw[HR.out]at H;exact H
theorem qjx{x y n:Int}{w:World}{r:Bool}(HR:Hid (jl x y n=r)):Calls Tryz.prog 90 #[zF x y,.int .i64 n] w fun e w'=>e= .returned (.bool r)/\Below w.heap.size w w':=by
 have H:=Kt x y n w;rw[HR.out]at H;exact H
structure aO(m:za):Prop where
 n:m.classes.length<=1000
 f:∀x ∈m.classes,x.fields.length<=1000
structure iE(x:zl):Prop where
 a:x.args.length<=1000
 l:x.locals.length<=1000
 c:∀i ∈x.code,0<=i.2.1
theorem U8{m:za}{x:zl}{op a b:Int}{h:zh}{hx:qH}{w0 w:World}{r:Bool}(HI:Hid (zr w0 w0.heap.size h m))(HM:Hid (jR w0 w0.heap.size hx x))(HX:Hid (Below w0.heap.size w0 w))(HT:Hid (aO m))(HU:Hid (iE x))(H0:Hid (0<=a))(HR:Hid (zK m x op a b=r)):
  Calls Tryz.prog 92 #[zv h m,ZD hx x,qt op a b] w fun e w'=>e= .returned (.bool r)/\Below w.heap.size w w':=by
 have H:=q6r m x op a b h hx w (HI.out.now HX.out) (HM.out.now HX.out) H0.out HT.out.n HT.out.f HU.out.a HU.out.l;rw[HR.out]at H;exact H
def MB(m:za)(x:zl)(b:Bool):Prop:=jK m x=if b=true then false else VB m x
theorem badM{m:za}{x:zl}(h:jK m x=false):Hid (MB m x true):=zH h
theorem goodM{m:za}{x:zl}(h:jK m x=VB m x):Hid (MB m x false):=zH h
theorem oQ{P:Prop}(h:P:=by
 go_wp2_with((first|(go_at_call 49;(with_reducible refine(pY HI bf HX D1).mono ?_))|(go_at_call 49;(with_reducible refine(pY HI Zu HX D2).mono ?_))|(go_at_call 90;(with_reducible refine(qjx D3).mono ?_)));rintro e w5 ⟨rfl,hb⟩;have HX:=zi HX hb;obtain⟨jN,vj,vn,jB,vm,vk,vo⟩:=ck7 (HQ.out.keep HX.out kM.out);obtain⟨Qy,QI,QF,Qz,Zr,QA,QG,QE⟩:=qp (HP.out.keep HX.out bC.out);clear hb)
 go_meet
 exact⟨_,rfl,E2,HX⟩):P:=h
set_option maxHeartbeats 3200000 in
theorem q4s(m:za)(x:zl)(h:zh)(hx:qH)(w:World)(H:zr w w.heap.size h m)(H':jR w w.heap.size hx x)(ht:aO m)(hu:iE x):
  Calls Tryz.prog 51 #[zv h m,ZD hx x] w fun e w'=>e= .returned (.bool (jK m x))/\Below w.heap.size w w':=by
 obtain⟨hq,hp,hb,hz⟩:=Dy w (kF h m) (qj hx x) 29 48;have HQ:=zH hq;have HP:=zH hp;have HW:=zH hb;have HI:=zH (H.now hb);have HM:=zH (H'.now hb);have HT:=zH ht;have HU:=zH hu;have kM:Hid (w.heap.size<((w.alloc (.cells (kF h m).toArray 29)).alloc (.cells (qj hx x).toArray 48)).heap.size):=zH (by omega);have bC:Hid (w.heap.size+1<((w.alloc (.cells (kF h m).toArray 29)).alloc (.cells (qj hx x).toArray 48)).heap.size):=zH (by omega);have Zp:Hid (w.heap.size<=((w.alloc (.cells (kF h m).toArray 29)).alloc (.cells (qj hx x).toArray 48)).heap.size):=zH (by omega);have l0:=H.classes.le;have BF:=H.classes.cap;have m1:=hu.a;have m2:=hu.l;have m3:=H'.phi.le;have Nv:=H'.phi.cap;have m4:=H'.code.le;have m4c:=H'.code.cap;clear hq hp hb hz H H' ht hu;go_enter Tryz.func51,Tryz.ntmps51;go_upto_region 1 with fail
 generalize(w.alloc (.cells (kF h m).toArray 29)).alloc (.cells (qj hx x).toArray 48)=w1 at*
 have HX:=qP w1;have bf:=zH HM.out.args;have Zu:=zH HM.out.locals;obtain⟨xa,xl,⟨ja,jo⟩,xc,xd,xp,xh⟩:=x;dsimp only at m1 m2 m3 m4 bf Zu;obtain⟨jN,vj,vn,jB,vm,vk,vo⟩:=ck7 (HQ.out.keep HX.out kM.out);obtain⟨Qy,QI,QF,Qz,Zr,QA,QG,QE⟩:=qp (HP.out.keep HX.out bC.out);dsimp only at Qy QI QF Qz Zr QA QG QE;go_cut [57]from 6 to 57 (fun s wx=>∃b,s= .bool b/\Hid (MB m ⟨xa,xl,(ja,jo),xc,xd,xp,xh⟩ b)/\Hid (Below w1.heap.size w1 wx))
 case first=>
  obtain⟨d1,hd1⟩:∃d,vC xa m.classes.length=d:=⟨_,rfl⟩
  have D1:=zH hd1;obtain⟨d2,hd2⟩:∃d,vC xl m.classes.length=d:=⟨_,rfl⟩
  have D2:=zH hd2;obtain⟨d3,hd3⟩:∃d,jl ja jo m.classes.length=d:=⟨_,rfl⟩
  have D3:=zH hd3;have Zs:Hid (Qu (ja,jo) m.classes.length=(decide (ja=5/\jo=0)||d3)):=zH (by rw[<-hd3];unfold Qu;simp);clear hd1 hd2 hd3;cases d1
  ·have E2:=badM (show jK m ⟨xa,xl,(ja,jo),xc,xd,xp,xh⟩=false by unfold jK;rw[D1.out];rfl);exact oQ
  cases d2
  ·have E2:=badM (show jK m ⟨xa,xl,(ja,jo),xc,xd,xp,xh⟩=false by unfold jK;rw[D1.out,D2.out];rfl);exact oQ
  by_cases hr:ja=5/\jo=0\/d3=true;rotate_left
  ·have E2:=badM (show jK m ⟨xa,xl,(ja,jo),xc,xd,xp,xh⟩=false by unfold jK;rw[D1.out,D2.out,Zs.out,Xf (fun q=>hr (.inl q)),show d3=false by simpa using fun q=>hr (.inr q)];rfl);have h4:(¬ja=5/\d3=false)\/(ja=5/\¬jo=0/\d3=false):=by
    cases d3<;>simp at hr⊢
    omega
   clear hr Zs;rcases h4 with⟨h5,rfl⟩|⟨rfl,h5,rfl⟩<;>exact oQ
  have HRT:Hid (Qu (ja,jo) m.classes.length=true):=zH (by rw[Zs.out];rcases hr with q|q<;>simp[q]);have h4:(ja=5/\jo=0)\/(¬ja=5/\d3=true)\/(ja=5/\¬jo=0/\d3=true):=by
   rcases hr with q|q
   ·exact .inl q
   ·by_cases e0:ja=5<;>by_cases e1:jo=0<;>simp[e0,e1,q]
  clear hr Zs;by_cases c1:¬xc.length=0;rotate_left
  ·have Hq:((xc.length:Int)==0)=true:=XX.mpr (by omega);have E2:=badM (show jK m ⟨xa,xl,(ja,jo),xc,xd,xp,xh⟩=false by unfold jK;rw[Xf (p:=¬xc.length=0) c1];simp);clear c1;rcases h4 with⟨rfl,rfl⟩|⟨h5,rfl⟩|⟨rfl,h5,rfl⟩<;>exact oQ
  have Hq:((xc.length:Int)==0)=false:=XG.mpr (by omega);by_cases c2:xh.length=xc.length;rotate_left
  ·have Cw:((xh.length:Int) !=(xc.length:Int))=true:=XP.mpr (by omega);have E2:=badM (show jK m ⟨xa,xl,(ja,jo),xc,xd,xp,xh⟩=false by unfold jK;rw[Xf (p:=xh.length=xc.length) c2];simp);clear c1 c2;rcases h4 with⟨rfl,rfl⟩|⟨h5,rfl⟩|⟨rfl,h5,rfl⟩<;>exact oQ
  have Cw:((xh.length:Int) !=(xc.length:Int))=false:=X7.mpr (by omega);by_cases c3:xa.length+xl.length<=8
  ·have nR:¬(8:Int)<(xa.length:Int)+(xl.length:Int):=by omega
   have cb3:=Xf nR;have E2:=goodM (show jK m ⟨xa,xl,(ja,jo),xc,xd,xp,xh⟩=VB m ⟨xa,xl,(ja,jo),xc,xd,xp,xh⟩by unfold jK;rw[D1.out,D2.out,HRT.out,Xi c1,Xi c2,Xi c3];rfl);clear c1 c2 c3;rcases h4 with⟨rfl,rfl⟩|⟨h5,rfl⟩|⟨rfl,h5,rfl⟩<;>exact oQ
  ·have nR:(8:Int)<(xa.length:Int)+(xl.length:Int):=by omega
   have E2:=badM (show jK m ⟨xa,xl,(ja,jo),xc,xd,xp,xh⟩=false by unfold jK;rw[Xf (p:=xa.length+xl.length<=8) c3];simp);clear c1 c2 c3;rcases h4 with⟨rfl,rfl⟩|⟨h5,rfl⟩|⟨rfl,h5,rfl⟩<;>exact oQ
 case rest=>
  obtain⟨b,rfl,yH,HX⟩:=hcut;cases b;rotate_left
  ·have E2:Hid (jK m ⟨xa,xl,(ja,jo),xc,xd,xp,xh⟩=false):=yH;go_wp2_with fail
   go_ret;exact⟨by rw[E2.out];rfl,HW.out.trans (HX.out.mono Zp.out)⟩
  have tX:Hid (jK m ⟨xa,xl,(ja,jo),xc,xd,xp,xh⟩=VB m ⟨xa,xl,(ja,jo),xc,xd,xp,xh⟩):=yH;clear yH jN vj vn jB vm vk vo Qy QI QF Qz Zr QA QG QE;obtain⟨jN,vj,vn,jB,vm,vk,vo⟩:=ck7 (HQ.out.keep HX.out kM.out);obtain⟨Qy,QI,QF,Qz,Zr,QA,QG,QE⟩:=qp (HP.out.keep HX.out bC.out);dsimp only at Qy QI QF Qz Zr QA QG QE;go_wp2_with fail
  go_loopw [5] (fun i wr=>∃k:Nat,k<=xc.length/\i= .int .i64 k/\Hid (∀i ∈xc.take k,zK m ⟨xa,xl,(ja,jo),xc,xd,xp,xh⟩ i.1 i.2.1 i.2.2=true)/\Hid (Below w1.heap.size w1 wr)) (fun i _=>xc.length - (intOf i).toNat)
  case atStart=>exact⟨0,by omega,rfl,zH (by simp),HX⟩
  case round=>
   clear HX jN vj vn jB vm vk vo Qy QI QF Qz Zr QA QG QE;obtain⟨k,hk,rfl,HN,HX⟩:=hrel;obtain⟨jN,vj,vn,jB,vm,vk,vo⟩:=ck7 (HQ.out.keep HX.out kM.out);obtain⟨Qy,QI,QF,Qz,Zr,QA,QG,QE⟩:=qp (HP.out.keep HX.out bC.out);have b1:=HM.out.code.le;have b2:=HM.out.code.cap;by_cases hlt:k<xc.length
   ·obtain⟨ad,e0,hab,hc⟩:=HM.out.code.row.at_ hlt;have HA4:=zH e0;have Zl:Hid (jR w1 w1.heap.size ⟨hx.A0,hx.A1,some ad,hx.A7,hx.k0,hx.k1,hx.k4,hx.k7⟩ ⟨xa,xl,(ja,jo),xc,xd,xp,xh⟩):=zH (by rw[<-e0];exact HM.out);try dsimp only at e0
    rw[e0]at Zr;clear e0;have qz:=zH (fun g:(fun i:Int×Int×Int=>zK m ⟨xa,xl,(ja,jo),xc,xd,xp,xh⟩ i.1 i.2.1 i.2.2) xc[k]=false=>(JP hlt g:VB m ⟨xa,xl,(ja,jo),xc,xd,xp,xh⟩=false));have HYE:=zH (fun g:(fun i:Int×Int×Int=>zK m ⟨xa,xl,(ja,jo),xc,xd,xp,xh⟩ i.1 i.2.1 i.2.2) xc[k]=true=>Jk hlt HN.out g);have H0:=zH (HU.out.c _ (Xd hlt));generalize xc[k]=ins at*
    obtain⟨op,a,b⟩:=ins;have HR:Hid (∀W,Below w1.heap.size w1 W->W.cell? (ad.add (k*3))=some (.int .i64 op)/\W.cell? (zc (ad.add (k*3)) 1)=some (.int .i64 a)/\W.cell? (zc (ad.add (k*3)) 2)=some (.int .i64 b)):=zH (fun W hW=>ju.keeps (x:=(op,a,b)) hc (by exact zZ hab) (zn _) (fun _ hq=>hW.cell hq));obtain⟨t0,t1,t2⟩:=HR.out _ HX.out;have qf:=zH HX.out.drew;obtain⟨g,hg⟩:=zj (zK m ⟨xa,xl,(ja,jo),xc,xd,xp,xh⟩ op a b);have G:=zH hg;clear hg hc;cases g
    ·have E2:=zH (tX.out.trans (qz.out G.out));go_wp2_with fail
     go_region_held3 (fun w'=>I7h w.heap.size h m w' (w'.cell? ⟨w.heap.size+1,0,none⟩=some (.slice hx.A0 xa.length hx.k0)/\w'.cell? ⟨w.heap.size+1,1,none⟩=some (.slice hx.A1 xl.length hx.k1)/\w'.cell? ⟨w.heap.size+1,2,none⟩=some (.int .i64 ja)/\w'.cell? ⟨w.heap.size+1,3,none⟩=some (.int .i64 jo)/\w'.cell? ⟨w.heap.size+1,4,none⟩=some (.slice (some ad) xc.length hx.k4)/\w'.cell? ⟨w.heap.size+1,5,none⟩=some (.int .i64 xd)/\w'.cell? ⟨w.heap.size+1,6,none⟩=some (.int .i64 xp)/\w'.cell? ⟨w.heap.size+1,7,none⟩=some (.slice hx.A7 xh.length hx.k7)/\w'.cell? (ad.add (k*3))=some (.int .i64 op)/\w'.cell? (zc (ad.add (k*3)) 1)=some (.int .i64 a)/\w'.cell? (zc (ad.add (k*3)) 2)=some (.int .i64 b))) (first|exact⟨jN,vj,vn,jB,vm,vk,vo,Qy,QI,QF,Qz,Zr,QA,QG,QE,t0,t1,t2⟩) (first|(go_at_call 92;(with_reducible refine(U8 HI Zl qf HT HU H0 G).mono ?_);rintro e w5 ⟨rfl,hb⟩;have HX:=zi qf hb;obtain⟨jN,vj,vn,jB,vm,vk,vo⟩:=ck7 (HQ.out.keep HX.out kM.out);obtain⟨Qy,QI,QF,Qz,Zr,QA,QG,QE⟩:=qp (HP.out.keep HX.out bC.out);rw[HA4.out]at Zr;obtain⟨t0,t1,t2⟩:=HR.out _ HX.out;clear hb))
     go_wp2_with fail
     go_ret;exact⟨by rw[E2.out];rfl,HW.out.trans (HX.out.mono Zp.out)⟩
    ·have E2:=zH (HYE.out G.out);go_wp2_with fail
     go_region_held3 (fun w'=>I7h w.heap.size h m w' (w'.cell? ⟨w.heap.size+1,0,none⟩=some (.slice hx.A0 xa.length hx.k0)/\w'.cell? ⟨w.heap.size+1,1,none⟩=some (.slice hx.A1 xl.length hx.k1)/\w'.cell? ⟨w.heap.size+1,2,none⟩=some (.int .i64 ja)/\w'.cell? ⟨w.heap.size+1,3,none⟩=some (.int .i64 jo)/\w'.cell? ⟨w.heap.size+1,4,none⟩=some (.slice (some ad) xc.length hx.k4)/\w'.cell? ⟨w.heap.size+1,5,none⟩=some (.int .i64 xd)/\w'.cell? ⟨w.heap.size+1,6,none⟩=some (.int .i64 xp)/\w'.cell? ⟨w.heap.size+1,7,none⟩=some (.slice hx.A7 xh.length hx.k7)/\w'.cell? (ad.add (k*3))=some (.int .i64 op)/\w'.cell? (zc (ad.add (k*3)) 1)=some (.int .i64 a)/\w'.cell? (zc (ad.add (k*3)) 2)=some (.int .i64 b))) (first|exact⟨jN,vj,vn,jB,vm,vk,vo,Qy,QI,QF,Qz,Zr,QA,QG,QE,t0,t1,t2⟩) (first|(go_at_call 92;(with_reducible refine(U8 HI Zl qf HT HU H0 G).mono ?_);rintro e w5 ⟨rfl,hb⟩;have HX:=zi qf hb;obtain⟨jN,vj,vn,jB,vm,vk,vo⟩:=ck7 (HQ.out.keep HX.out kM.out);obtain⟨Qy,QI,QF,Qz,Zr,QA,QG,QE⟩:=qp (HP.out.keep HX.out bC.out);rw[HA4.out]at Zr;obtain⟨t0,t1,t2⟩:=HR.out _ HX.out;clear hb))
     go_wp2_with fail
     go_roundw;case rel=>exact⟨k+1,by omega,by go_num,E2,HX⟩
     case measure=>simp[intOf];omega
   ·have aP:=zH (show VB m ⟨xa,xl,(ja,jo),xc,xd,xp,xh⟩=true from JQ (l:=xc) HN.out (by omega));have E2:=zH (tX.out.trans aP.out);go_wp2_with fail
    go_ret;exact⟨by rw[E2.out];rfl,HW.out.trans (HX.out.mono Zp.out)⟩
def codC(t:Int×Int×Int):List Value:=[.int .i64 t.1,.int .i64 t.2.1,.int .i64 t.2.2]
def dm(l:List (Int×Int×Int)):List Value:=l.flatMap codC
theorem addg(g n:Nat):(Addr.add ⟨g,0,none⟩ n)=⟨g,n,none⟩:=by
 unfold Addr.add;grind
